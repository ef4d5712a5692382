import PyProof.Rows.All
import Wide.All
import OpenK.AllK
import Wide.FinOn
import PyProof.EqAt
import PyProof.EqKinds
import PyProof.TupleCall
import PyProof.FString
import PyProof.FString4
import KE.KFromBytes
import KE.KExcSuper
import HandS.ForMost
import HandS.ForExc
import HandS.ExcInit
import HandS.ExcField
import HandS.ExcIs
import HandS.FStr
import KE.KExcIs
import KE.KRevSl
import HandS.GenYield
import HandS.GenList
import KE.KDictList
import PyProof.StrOps2
import PyProof.StrWalks
import HandS.Conv
import HandS.Evl
import HandS.IsInst
import HandS.Style
import HandS.TryOnly
import PyProof.Rows.StrLawsPart
import PyProof.StrLawsIn
import HandS.GenCall
import HandS.OwnEq
import HandS.Property
import HandS.IterVal
import KE.KOwnIter
import KE.GoesMore
import PyProof.EnumMake
import PyProof.EnumFor
import HandS.Iter
import HandS.Text
import HandS.More
import HandS.Deep
import HandS.TryMany
import HandS.Wide
import HandS.TupAny
import HandS.Flow
import HandS.StrMore
import HandS.Small
import HandS.Replace
import HandS.TupLe
import HandS.RaiseMore
import HandS.Zip
import HandS.Defaults
import HandS.CallSlots
import HandS.Codes
import PyProof.IsRules
import KE.KStateDown
import Lean
import PySem.Challenge.RW_stillgrows_k07_exchanged_to_the_end
section
set_option Elab.async false
set_option linter.all false
set_option maxRecDepth 100000
set_option maxHeartbeats 4000000
namespace PySem
namespace GrX
open PySem.W PySem.Calls PyProof.Rows PySem.HandSPX
/-- what it says of one of the errors, at C -/
structure OwnT (K : Frag) (D fI C : Addr) : Prop where
  cls : ∃ nm q N bs bm sn sub ab col dd k0 k1 k2 k3 k5, K.lookup C = some (excClassObj nm q C N bs bm true sn sub ab col dd k0 k1 k2 k3 k5 "ValueError.__new__") ∧ refsVE bm = true
  sa : findIn K (.ref C) "__setattr__" = some (some (.builtin "object.__setattr__"))
  noN : findIn K (.ref C) "value" = some none
  iC : findIn K (.ref C) "__init__" = some (some (.ref fI))
  kC : keepIn K (.ref C) = true
  exC : subIn K (.ref C) (.type "BaseException") = some true
  veC : subIn K (.ref C) (.type "ValueError") = some true
  tyC : typeIn K (.ref C) = some (.type "type")
  hdC : hasDictIn K C = true
  mD : mroIn K C (.ref D) = some true
  sup : ks_superIn K C D "__init__" = some (some (.builtin "ValueError.__init__"))
/-- a value whose repr is some short enough text, in whatever state -/
def Shows (prog : Program) (w : World) (A : Around) (h : Heap) (v : Value) : Prop := ∀ (s : Shared) (E : Value → Shared → Prop) (Q : Value → Shared → Prop), (∀ b o, h.get? b = some o → s.heap.get? b = some o) →
  (∀ (y : Str) t t', y.length ≤ 16000000 → Q (.str y t) { s with toks := t' }) → wpAny (model prog w) A (pyReprObj v) Q E s
/-- what the making leaves of a fresh exception at x -/
structure InitEnd (h h' : Heap) (x C dx t1 : Addr) (v : Value) : Prop where
  keep : ∀ b o, b ≠ x → h.get? b = some o → h'.get? b = some o
  obj : h'.get? x = some { cls := .ref C, dict := some dx, data := .fields #[.ref t1, .none, .none, .none, .bool false, .none] }
  dbig : h.objs.size ≤ dx
  dne : dx ≠ x
  ns : h'.Ns1 dx (fun y => if y = "value" then some v else none)
/-- a made error -/
structure OwnMade (h h' : Heap) (e C d : Addr) (v : Value) : Prop where
  keep : ∀ b o, h.get? b = some o → h'.get? b = some o
  new : h.objs.size ≤ e
  obj : ∃ oe vs, h'.get? e = some oe ∧ oe.cls = .ref C ∧ oe.dict = some d ∧ oe.data = .fields vs ∧ vs[1]? = some .none
  dbig : h.objs.size ≤ d
  dne : d ≠ e
  ns : h'.Ns1 d (fun y => if y = "value" then some v else none)
/-- what the written part says of the base error, at D, and that its making at fI ends well -/
structure BaseT (prog : Program) (K : Frag) (D fI : Addr) : Prop where
  cd : ∃ cdD, clsIn K D = some cdD
  tI : typeIn K (.ref fI) = some (.type "function")
  mke : ∀ (w : World) (A : Around) (R : Result → Shared → Prop) (s : Shared) (mg mb : Str → Option Value) (C : Addr), OwnT K D fI C → ∀ (x t0 : Addr) (v : Value), K.In s.heap → s.heap.Ns mainGlobals mg → s.heap.Ns builtinsNs mb → mb "super" = some (.type "super") → s.heap.NoLimit → s.heap.get? x = some (excO C t0) → K.lookup x = none →
    A.depth < recursionLimit → (∀ A', A'.depth = A.depth + 1 → Shows prog w A' s.heap v) →
    (∀ h' tk dx t1, InitEnd s.heap h' x C dx t1 v → R (.ok (.ret .none)) { s with heap := h', toks := tk }) →
    codeAny (model prog w) A (.call (.ref fI) ⟨[.ref x, v], []⟩) R s
theorem one_size (v : Value) : [v].length ≤ sizeLine := by
  rw [sizeLine_eq]
  exact (by decide : 1 ≤ 16777216)
theorem ldG {env : Env} {M : Model} {A : Around} {E : Value → Shared → Prop} {s : Shared} {m : Str → Option Value} {x : Str} {pos : Pos} {v : Value} {Q : Value → Shared → Prop} (hn : s.heap.Ns env.locals m) (hv : m x = some v) (h : Q v s)
    (hk : env.scope.kind = .function := by rfl) (hl : env.kindOf x = some .local := by rfl) (hd : (x == ("__debug__" : Str)) = false := by decide) : wpAny M A (eval (.Name x pos) env) Q E s := wpAny_Name (wpAny_loadName_local hk hl hn hv h) hd
section
variable {prog : Program} {w : World} {A : Around} {E : Value → Shared → Prop} {h : Heap} {g : Array GenState} {d : Drawn} {t : Nat} {os : OsState}
variable {nm q : Str} {C N : Addr} {bs bm : List Value} {hdct : Bool} {sn : List Str} {sub : List Value} {ab : Bool} {col : Option Bool} {dd : Option Addr} {k0 k1 k2 k3 k5 : Option Value}
theorem call_mw {u e t0 : Addr} {rest : List Value} {Q : Value → Shared → Prop}
    (hC : h.get? C = some (excClassObj nm q C N bs bm hdct sn sub ab col dd k0 k1 k2 k3 k5 "ValueError.__new__")) (he : h.get? e = some (excO C t0)) (hu : h.get? u = some (kxs_mw "ValueError.__init__" e)) (hrest : rest.length ≤ sizeLine)
    (hq : ∀ h' t1, (∀ b o, b ≠ e → h.get? b = some o → h'.get? b = some o) → h'.get? e = some (excO C t1) → Q .none ⟨h', g, d, t, os⟩) :
    wpAny (model prog w) A (call (.ref u) rest) Q E ⟨h, g, d, t, os⟩ := by
  refine wpAny_call (codeAny_of_tree ?_)
  show wpAny _ A.in1 (callAny (.ref u) ⟨rest, []⟩) _ _ _
  simp only [callAny]
  refine wpAny_bind (wpAny_load hu ?_)
  simp only [kxs_mw, show (Value.type "method-wrapper" == Value.type "method" || Value.type "method-wrapper" == Value.type "builtin_function_or_method" || Value.type "method-wrapper" == Value.type "method-wrapper") = true by decide, if_true]
  refine W.KFB.if_so (by decide) ?_
  refine wpAny_bind (check_bound_init F.excBase_ValueError.toExcCallFacts hC he rfl ?_)
  refine wpAny_bind (wpAny_pure (wpAny_pure ?_))
  refine ⟨Code.quiet_builtin _ (by decide +kernel), codeAny_builtin F.excBase_ValueError.initEntry ?_⟩
  rw [Around.under_plainId F.excBase_ValueError.init.plain _]
  wp_walk
  refine hq _ h.objs.size (fun b o hb ho => ?_) ?_
  · rw [Heap.get?_update_other _ _ (Ne.symm hb)]
    exact Heap.get?_push_of_some _ ho
  · rw [Heap.get?_update_self _ (Heap.get?_push_of_some _ he) rfl]
    rfl
end
section
variable {prog : Program} {w : World} {A : Around} {E : Value → Shared → Prop} {R : Result → Shared → Prop} {s : Shared} {K : Frag} {mg mb : Str → Option Value} {D fI C : Addr}
theorem keepK {h h' : Heap} {x : Addr} (X : K.In h) (hx : K.lookup x = none) (k : ∀ b o, b ≠ x → h.get? b = some o → h'.get? b = some o) : K.In h' := fun a o e =>
  k a o (fun z => by rw [z, hx] at e; cases e) (X a o e)
theorem callWith_mw {M : Model} {E : Value → Shared → Prop} {i : String} {u x : Addr} {pos : Pos} {env : Env} {e : Expr} {rest : List Expr} {Q : Value → Shared → Prop}
    (h : wpAny M A (spliced (backTo pos (starEach (e :: rest) env))) (fun vs s₁ => KxsAt i u x s₁.heap ∧ wpAny M A (call (.ref u) vs) Q E s₁) E s)
    (he : starEach (e :: rest) env = (false, eval e env) :: starEach rest env := by rfl) (hplain : (backTo pos (starEach rest env)).any (·.1) = false := by rfl) :
    wpAny M A (callWith pos (.ref u) [] (backTo pos (starEach (e :: rest) env)) []) Q E s := by
  rw [he] at h ⊢
  refine kxs_callWith (i := i) (x := x) (by show (false || (backTo pos (starEach rest env)).any (·.1)) = false; rw [hplain]; rfl) ?_
  exact evalArgs_plain h
theorem gr_init (T : BaseT prog K D fI) (O : OwnT K D fI C) {x t0 : Addr} {v : Value} (X : K.In s.heap) (G : s.heap.Ns mainGlobals mg) (Bt : s.heap.Ns builtinsNs mb) (hbt : mb "super" = some (.type "super")) (hlim : s.heap.NoLimit) (hx : s.heap.get? x = some (excO C t0)) (hnx : K.lookup x = none)
    (hroom : A.depth < recursionLimit) (hv : ∀ A', A'.depth = A.depth + 1 → Shows prog w A' s.heap v)
    (hq : ∀ h' tk dx t1, InitEnd s.heap h' x C dx t1 v → R (.ok (.ret .none)) { s with heap := h', toks := tk }) :
    codeAny (model prog w) A (.call (.ref fI) ⟨[.ref x, v], []⟩) R s :=
  T.mke w A R s mg mb C O x t0 v X G Bt hbt hlim hx hnx hroom hv hq
theorem gr_made (T : BaseT prog K D fI) (O : OwnT K D fI C) {v : Value} (X : K.In s.heap) (G : s.heap.Ns mainGlobals mg) (Bt : s.heap.Ns builtinsNs mb) (hbt : mb "super" = some (.type "super")) (hlim : s.heap.NoLimit)
    (hroom : A.depth + 1 < recursionLimit) (hv : ∀ A', A'.depth = A.depth + 2 → Shows prog w A' s.heap v)
    (hq : ∀ h' tk e d, OwnMade s.heap h' e C d v → R (.ok (.ret (.ref e))) { s with heap := h', toks := tk }) :
    codeAny (model prog w) A (.call (.ref C) ⟨[v], []⟩) R s := by
  obtain ⟨nm, q, N, bs, bm, sn, sub, ab, col, dd, k0, k1, k2, k3, k5, hC, hbm⟩ := O.cls
  obtain ⟨hp, g, dr, tk, os⟩ := s
  have k : ∀ b o, hp.get? b = some o → ((hp.push (kdv_tup [v])).push (excO C hp.objs.size)).get? b = some o := fun b o e => Heap.get?_push_of_some _ (Heap.get?_push_of_some _ e)
  have hget : ((hp.push (kdv_tup [v])).push (excO C hp.objs.size)).get? (hp.objs.size + 1) = some (excO C hp.objs.size) := by heap_get
  have hnx : K.lookup (hp.objs.size + 1) = none := by
    cases e : K.lookup (hp.objs.size + 1) with
    | none => rfl
    | some o =>
      have z : hp.get? (hp.objs.size + 1) = some o := X _ _ e
      exact absurd (Nat.lt_of_succ_lt (Heap.lt_size z)) (Nat.lt_irrefl _)
  refine call_own F.excBase_ValueError (fun X => refsVE_contains X bm hbm) (X _ _ hC) (looks_findIn X O.iC) (fun self => bind_fn X self T.tI) (one_size v) ?_
  refine gr_init (s := ⟨(hp.push (kdv_tup [v])).push (excO C hp.objs.size), g, dr, tk, os⟩) T O (X.keeps k) (G.keeps k) (Bt.keeps k) hbt (hlim.keeps k) hget hnx ?_ (fun A' hA => ?_) fun h' tk' dx t1 ⟨k', hx, dn, dne, hns⟩ => ?_
  · show A.depth + 1 < recursionLimit
    exact hroom
  · exact fun s' E Q kk hq => hv A' hA s' E Q (fun b o z => kk b o (k b o z)) hq
  · have old : ∀ b o, hp.get? b = some o → h'.get? b = some o := fun b o e => k' b o (Nat.ne_of_lt (Nat.lt_succ_of_lt (Heap.lt_size e))) (k b o e)
    have z : hp.objs.size + 1 + 1 ≤ dx := by
      first
        | (simpa only [Heap.size_push] using dn)
        | exact dn
        | (have q := dn; rw [Heap.size_push, Heap.size_push] at q; exact q)
    exact ⟨rfl, hq h' tk' (hp.objs.size + 1) dx ⟨old, Nat.le_succ _, ⟨_, _, hx, rfl, rfl, rfl, rfl⟩, Nat.le_trans (Nat.le_trans (Nat.le_succ _) (Nat.le_succ _)) z, dne, hns⟩⟩
end
theorem shows_str {prog : Program} {w : World} {A : Around} {h : Heap} {x : Str} {t : Tok} (hx : ∀ c ∈ x.cps.toList, c < 16 ^ 8) (hl : x.length ≤ 1000000) : Shows prog w A h (.str x t) := fun s E Q _ hq => by
  have z := StrLaws.reprText_len x hx
  exact pyReprObj_str (hq _ _ _ (by omega)) (by rw [sizeLine_eq]; omega)
theorem shows_int {prog : Program} {w : World} {A : Around} {h : Heap} {i : Int} {t : Tok} (hi : i.natAbs < 2 ^ 64) : Shows prog w A h (.int i t) := fun s E Q _ hq => by
  have hl : i.natAbs.log2 < 1920 := by
    by_cases h0 : i.natAbs = 0
    · rw [h0]; decide
    · exact Nat.lt_of_lt_of_le ((Nat.log2_lt h0).2 hi) (by decide)
  refine pyReprObj_int hl (hq _ _ _ ?_)
  have e := int_text_length_le10 (a := i) (k := 4300) (by decide) (Nat.lt_of_lt_of_le hi (by decide +kernel))
  rw [ofString_length]
  omega
end GrX
end PySem

namespace L2
open PySem PySem.Spec PyProof.Rows
theorem relO_val {v : V} {v' : Value} (r : RelV v v') (f : Str) : RelO (List.lookup f [(("value" : Str), v)]) (if f = "value" then some v' else none) := by
  by_cases hw : f = "value"
  · subst hw
    rw [if_pos rfl]
    have q : List.lookup ("value" : Str) [(("value" : Str), v)] = some v := by simp [List.lookup]
    rw [q]
    exact r
  · rw [if_neg hw]
    have qw : (f == ("value" : Str)) = false := by simpa using hw
    have q2 : List.lookup f [(("value" : Str), v)] = none := by simp [List.lookup, qw]
    rw [q2]
    trivial
/-- a value that an error may be made of -/
def ShowV (P : Program) (w : World) (H : Hp) (v : V) : Prop := ∀ (u : Value) (h : Heap) (A : Around), RelV v u → HOk P w H h → PySem.GrX.Shows P w A h u
theorem showV_str {P : Program} {w : World} {H : Hp} {x : Str} (hx : ∀ c ∈ x.cps.toList, c < 16 ^ 8) (hl : x.length ≤ 1000000) : ShowV P w H (.str x) := fun u h A r _ => by
  obtain ⟨t, rfl⟩ := r
  exact PySem.GrX.shows_str hx hl
theorem showV_int {P : Program} {w : World} {H : Hp} {i : Int} (hi : i.natAbs < 2 ^ 64) : ShowV P w H (.int i) := fun u h A r _ => by
  obtain ⟨t, rfl⟩ := r
  exact PySem.GrX.shows_int hi
section
variable {X : Cx} {D fI C : Addr}
/-- C(e) -/
def tMkGr (P : Program) (w : World) (C : Addr) (ta : TA) : St → Hp → XK → Prop := fun σ H Q => ta σ H fun vs H1 => ∃ v, vs = [v] ∧ ShowV P w H1 v ∧ ∀ d, H1 d = none → Q (.ref C) (some d) (upd H1 d (.xd [(("value" : Str), v)]))
theorem pmk_gr {x : Str} {a : Expr} {ta : TA} {p pos : Pos} {k : Nat} (T : PySem.GrX.BaseT X.prog X.K D fI) (O : PySem.GrX.OwnT X.K D fI C) (hr : Room k X.A) (gC : X.mg x = some (.ref C)) (ha : PA X [a] ta) (hg : Gl X x := by rfl)
    (hdb : (x == ("__debug__" : Str)) = false := by decide) (he : starEach (a :: []) X.env = (false, eval a X.env) :: starEach [] X.env := by rfl) (hpl : (backTo pos (starEach [] X.env)).any (·.1) = false := by rfl) :
    PMk X (.Call (.Name x p) [a] [] pos) (tMkGr X.prog X.w C ta) := by
  intro pins s σ H Q I h
  refine wpAny_Call_Name_kw (ld_glob I hg gC ?_ hdb)
  refine PySem.W.callWith_K (h₀ := X.base) I.ok.mod.kin O.kC (thn (ha.run pos pins s σ H _ I h) fun us s1 hh => ?_) he hpl
  obtain ⟨vs, H1, I1, r1, v, ev, sv, q1⟩ := hh
  subst ev
  refine ⟨I1.kIn, ?_⟩
  cases r1 with
  | cons rv rn =>
    rename_i v' us'
    cases rn
    show wpAny _ _ (call (.ref C) [v']) _ _ _
    have hlim := I1.nolimit
    have glob := I1.ok.mod.glob.keeps I1.bk
    obtain ⟨mb, blt, hbl⟩ := I1.ok.mod.blt
    have blt' := blt.keeps I1.bk
    have hok1 := I1.hok
    have hsup : mb "super" = some (.type "super") := (hbl "super" (by decide +kernel)).trans (by decide +kernel)
    obtain ⟨hp, g, dr, tk, os⟩ := s1
    refine wpAny_call (PySem.GrX.gr_made T O I1.kIn glob blt' hsup hlim (by have := hr.dp; omega) (fun A' _ => sv v' hp A' rv hok1) fun h' tk' e d M => ?_)
    show MkP X pins σ Q (.ref e) ⟨h', g, dr, tk', os⟩
    obtain ⟨oe, fv, hoe, hc, hd, hdat, h1⟩ := M.obj
    have hns := M.ns
    obtain ⟨G', g1, g2⟩ := restrict h' fun b => decide (b ≠ e)
    have gk : ∀ b, b ≠ e → G'.get? b = h'.get? b := fun b hb => g1 b (decide_eq_true hb)
    have ge : G'.get? e = none := g2 e (by simp)
    have old : ∀ b o, hp.get? b = some o → G'.get? b = some o := fun b o q => (gk b (Nat.ne_of_lt (Nat.lt_of_lt_of_le (Heap.lt_size q) M.new))).trans (M.keep b o q)
    have ob : ObjOk X.prog X.w (upd H1 d (.xd [(("value" : Str), v)])) G' d (.xd [(("value" : Str), v)]) :=
      ⟨_, hns.at (fun o q => (gk d M.dne).trans q), fun f => relO_val rv f⟩
    have J : Inv X pins σ (upd H1 d (.xd [(("value" : Str), v)])) ⟨G', g, dr, tk', os⟩ := I1.laid (t' := tk') old M.dbig ob
    refine ⟨e, oe, fv, ⟨G', g, dr, tk', os⟩, _, .ref C, some d, rfl, J, fun b o q => ?_, ge, hoe, ⟨hc, hd⟩, hdat, h1, ?_, rfl, I1.bare, raises_own O.exC O.tyC, q1 d (I1.hok.fresh M.dbig)⟩
    · by_cases hb : b = e
      · have q' : G'.get? b = some o := q
        rw [hb, ge] at q'; cases q'
      · exact (gk b hb).symm.trans q
    · rw [upd_ne (Ne.symm M.dne)]
      exact I1.hok.fresh M.new
/-- raise C(e) -/
theorem ps_raiseGr {x : Str} {a : Expr} {ta : TA} {W : WX} {p pos pos2 : Pos} {k : Nat} (hc : X.calm = true) (T : PySem.GrX.BaseT X.prog X.K D fI) (O : PySem.GrX.OwnT X.K D fI C) (hr : Room k X.A) (gC : X.mg x = some (.ref C)) (tk : Takes X W) (ha : PA X [a] ta) (hg : Gl X x := by rfl)
    (hdb : (x == ("__debug__" : Str)) = false := by decide) (he : starEach (a :: []) X.env = (false, eval a X.env) :: starEach [] X.env := by rfl) (hpl : (backTo pos (starEach [] X.env)).any (·.1) = false := by rfl) :
    PS X (.Raise (some (.Call (.Name x p) [a] [] pos)) none pos2) (fun _ σ H => tMkGr X.prog X.w C ta σ H fun cls d H' => W cls d σ H') := ps_raise hc tk (pmk_gr T O hr gC ha hg hdb he hpl)
end
end L2
end

section
set_option Elab.async false
set_option linter.all false
set_option maxRecDepth 100000
set_option maxHeartbeats 4000000
namespace L2
open PySem PySem.Spec PyProof.Rows
/-- isinstance(e, c), e the exception that the suite holds, of an own class C, its dict at d -/
def rIsG (K : PySem.W.Frag) (a : Addr) (cls : Value) (d : Option Addr) : List V → Hp → VK → Prop := fun xs H Q => ∃ (C : Addr) (c : V) (cv : Value) (b : Bool) (dd : Addr) (fs : List (Str × V)),
  cls = .ref C ∧ ExcC K C ∧ xs = [.ref a, c] ∧ (∀ u, RelV c u → u = cv) ∧ PySem.W.kitOne K (.ref C) cv = some b ∧ d = some dd ∧ H dd = some (.xd fs) ∧ Q (.bl b) H
theorem call_isG {X : Cx} {a : Addr} {oe : Obj} {cls : Value} {d : Option Addr} {pn : List (Addr × Obj)} (hz : Zc cls d oe) (hf : ∃ vs, oe.data = .fields vs) : CallR (X.suite a ((a, oe) :: pn)) (.builtin "isinstance") (rIsG X.K a cls d) := by
  intro pins s σ H xs us Q I r h
  obtain ⟨C, c, cv, b, dd, fs, ecl, EC, rfl, hcv, e, ed, ea, q⟩ := h
  subst ecl
  subst ed
  cases r with
  | cons rx rr =>
    cases rr with
    | cons rt rr =>
      cases rr
      cases rx
      have ec := hcv _ rt
      subst ec
      obtain ⟨hget, _⟩ := I.pin (a, oe) (List.mem_append.mpr (.inl List.mem_cons_self))
      obtain ⟨vs, hv⟩ := hf
      have hx : ObjOk X.prog X.w H s.heap dd (.xd fs) := I.hok dd _ ea
      obtain ⟨mA, hns, hr⟩ := hx
      obtain ⟨od, ho, hl⟩ := lookIn_ns hns
      have J : PySem.W.InstAt s.heap a oe C (some od) := ⟨hget, hz.1, by unfold PySem.W.notCls; rw [hv] <;> rfl, by rw [hz.2]; exact ho⟩
      have hcl : (PySem.W.clsIn X.K C).isSome = true := by
        obtain ⟨cd, hc, _⟩ := PySem.W.any_some EC.hd
        rw [hc]; rfl
      exact PySem.W.kia_one (PySem.W.kitx_exc hcl EC.hg EC.hk EC.hs EC.ha EC.hn EC.ht EC.hm) I.kIn J e (fun z => nomatch z) fun tk => ⟨.bl b, H, I.kept (t' := tk) fun _ _ z => z, rfl, q⟩
/-- e.n, e the exception that the suite holds -/
def tXg (K : PySem.W.Frag) (a : Addr) (cls : Value) (d : Option Addr) (f : Str) (te : TE) : TE := fun σ H Q => te σ H fun x H1 => ∃ (C dd : Addr) (fs : List (Str × V)) (v : V), x = .ref a ∧ cls = .ref C ∧ XfC K C ∧ PySem.W.findIn K (.ref C) f = some none ∧
  d = some dd ∧ H1 dd = some (.xd fs) ∧ fs.lookup f = some v ∧ Q v H1
theorem pe_xg {X : Cx} {a : Addr} {oe : Obj} {cls : Value} {d : Option Addr} {pn : List (Addr × Obj)} {e : Expr} {te : TE} {pos : Pos} {n : Str}
    (hz : Zc cls d oe) (hf : ∃ vs, oe.data = .fields vs) (he : PE (X.suite a ((a, oe) :: pn)) e te) (hb : attributeBase e n X.env (eval e X.env) = eval e X.env := by rfl) :
    PE (X.suite a ((a, oe) :: pn)) (.Attribute e n pos) (tXg X.K a cls d n te) := by
  refine ⟨fun pins s σ H Q I h => ?_⟩
  refine attr_of hb (thn (he.run pins s σ H _ I h) fun u s1 hh => ?_)
  obtain ⟨x, H1, I1, rx, C, dd, fs, v, ex, ec, T, hno, ed, ea, l, q⟩ := hh
  subst ex
  obtain rfl : u = Value.ref a := rx
  subst ec
  subst ed
  obtain ⟨ha, _⟩ := I1.pin (a, oe) (List.mem_append_left _ List.mem_cons_self)
  obtain ⟨vs, hd⟩ := hf
  have hx : ObjOk X.prog X.w H1 s1.heap dd (.xd fs) := I1.hok dd _ ea
  obtain ⟨mA, hns, hr⟩ := hx
  obtain ⟨od, ho, hl⟩ := lookIn_ns hns
  obtain ⟨u, hu, ru⟩ := RelO.some_of (v := v) (o := mA n) (by rw [← l]; exact hr n)
  have J : PySem.W.InstAt s1.heap a oe C (some od) := ⟨ha, hz.1, by unfold PySem.W.notCls; rw [hd] <;> rfl, by rw [hz.2]; exact ho⟩
  exact HandSPX.exc_get I1.kIn J T.ga T.gg T.exC (PySem.W.findObj_own T.hdC hno rfl (by rw [hl, hu])) (handed_of ru) ⟨v, H1, I1.tok _, ru, q⟩
end L2

/-! ### a text read from its end -/
namespace PySem
/-- z[::-1] -/
def revS (z : Str) : Str := ⟨z.cps.toList.reverse.toArray⟩
theorem revS_slice (z : Str) : (⟨((Builtin.Str.strSliceIndices none none (-1) z.length).filterMap (z.cps[·]?)).toArray⟩ : Str) = revS z := by
  have e : Builtin.Str.strSliceIndices none none (-1) z.length = sliceRange ((z.cps.size : Int) - 1) (-1) (-1) := rfl
  rw [e, PySem.W.krv_sliceRange, PySem.W.krv_range, List.filterMap_reverse, PySem.W.krv_all]
  rfl
theorem revS_len (z : Str) : (revS z).length = z.length := by
  show z.cps.toList.reverse.toArray.size = z.cps.size
  simp
end PySem
namespace L2
open PySem PySem.Spec PyProof.Rows
def tRevS (te : TE) : TE := fun σ H Q => te σ H fun x H1 => ∃ z, x = .str z ∧ z.length ≤ sizeLine ∧ Q (.str (revS z)) H1
theorem pe_revS {X : Cx} {e : Expr} {te : TE} {k : Nat} {p1 p2 p3 pos : Pos} (he : PE X e te) : PE X (.Subscript e (.Slice none none (some (.UnaryOp .USub (.Constant (.int 1) k p1) p2)) p3) pos) (tRevS te) := by
  refine ⟨fun pins s σ H Q I h => ?_⟩
  refine Subscript_ (thn (he.run pins s σ H _ I h) fun v s1 ⟨x, H1, I1, r1, q1⟩ => ?_)
  obtain ⟨z, ex, hz, q⟩ := q1
  subst ex
  obtain ⟨t, rfl⟩ := r1
  have hst : PO X (some (.UnaryOp .USub (.Constant (.int 1) k p1) p2)) (tPart (tUn (rU fun i => .int (-i)) (tC (.int 1)))) := po_some (pe_un un_neg pe_int)
  refine wpAny_Slice (thn (po_none.run pins s1 σ H1 (fun o H2 => o = none ∧ H2 = H1) I1 ⟨rfl, rfl⟩) fun vl s2 ⟨l, H2, I2, pl, el, e2⟩ => ?_)
  subst el e2
  refine thn (po_none.run pins s2 σ H2 (fun o H3 => o = none ∧ H3 = H2) I2 ⟨rfl, rfl⟩) fun vu s3 ⟨u, H3, I3, pu, eu, e3⟩ => ?_
  subst eu e3
  refine thn (hst.run pins s3 σ H3 (fun o H4 => o = some (-1) ∧ H4 = H3) I3 ⟨1, rfl, -1, rfl, rfl, rfl⟩) fun vs s4 ⟨o, H4, I4, ps, eo, e4⟩ => ?_
  subst eo e4
  have I5 : Inv X pins σ H4 { s4 with heap := s4.heap.push { cls := .type "slice", data := .fields #[vl, vu, vs] } } := I4.kept (t' := s4.toks) fun b ob q => Heap.get?_push_of_some _ q
  show wpAny (model X.prog X.w) X.A (subscriptTail e (.Slice none none (some (.UnaryOp .USub (.Constant (.int 1) k p1) p2)) p3) (.str z t) (.ref s4.heap.objs.size)) (EP X pins σ Q) X.xe { s4 with heap := s4.heap.push { cls := .type "slice", data := .fields #[vl, vu, vs] } }
  refine tail_any (ops := [.ref s4.heap.objs.size, .str z t]) (typeIs_str _ _ _) (F.slot_str_getitem.lookup) ?_ (by with_unfolding_all rfl)
  obtain ⟨l0, rfl, hl0⟩ := IsPart.raw pl
  obtain ⟨u0, rfl, hu0⟩ := IsPart.raw pu
  obtain ⟨st0, rfl, hst0⟩ := IsPart.raw ps
  have el0 : l0 = none := by cases l0 with | none => rfl | some _ => cases hl0
  have eu0 : u0 = none := by cases u0 with | none => rfl | some _ => cases hu0
  subst el0 eu0
  obtain ⟨j, tj, rfl⟩ : ∃ j tj, st0 = some (j, tj) := by cases st0 with | none => cases hst0 | some q => exact ⟨q.1, q.2, rfl⟩
  have ej : j = -1 := (Option.some.inj hst0)
  subst ej
  refine wpAny_getItem_str_slice (l := none) (u := none) (st := some (-1, tj)) (Heap.IsSliceOf.new _ _ _ _) rfl ?_
  show Made.post (if ((-1 : Int) == 1 && (Builtin.Str.strSliceIndices none none (-1) z.length).length == z.length) = true then Made.val (.str z t)
    else Made.str ⟨((Builtin.Str.strSliceIndices none none (-1) z.length).filterMap (z.cps[·]?)).toArray⟩) (EP X pins σ Q) _
  rw [if_neg (by simp)]
  rw [revS_slice]
  exact ⟨by rw [revS_len]; exact hz, .str _, H4, I5.tok _, ⟨_, rfl⟩, q⟩
end L2
end

section
set_option Elab.async false
set_option linter.all false
set_option maxRecDepth 100000
set_option maxHeartbeats 4000000
/-! a text times a number; list(text); yield from a list -/
namespace L2
open PySem PySem.Spec PyProof.Rows
/-- z, n times -/
def repS (z : Str) (n : Nat) : Str := ⟨(List.replicate n z.cps.toList).flatten.toArray⟩
theorem fold_reps (a : Array Nat) : ∀ (n : Nat) (b : Array Nat), List.foldl (fun x1 x2 => x1 ++ x2) b (List.replicate n a) = b ++ (List.replicate n a.toList).flatten.toArray
  | 0, b => by simp
  | n + 1, b => by
    rw [List.replicate_succ, List.foldl_cons, fold_reps a n (b ++ a), List.replicate_succ, List.flatten_cons]
    apply Array.toList_inj.mp
    simp
theorem repS_len (z : Str) (n : Nat) : (repS z n).length = n * z.length := by
  show ((List.replicate n z.cps.toList).flatten.toArray).size = n * z.cps.size
  simp
def rMulS : R2 := fun x y H Q => ∃ (z : Str) (n : Nat), x = .str z ∧ y = .int (n : Int) ∧ n ≤ 1000 ∧ z.length ≤ 10000 ∧ Q (.str (repS z n)) H
theorem op_mul_str {X : Cx} : OpR X (binaryOp .Mult) rMulS := by
  intro pins s σ H x y v u Q I rx ry h
  obtain ⟨z, n, rfl, rfl, hn, hz, q⟩ := h
  obtain ⟨t, rfl⟩ := rx
  obtain ⟨t', rfl⟩ := ry
  have hmul : z.length * n ≤ 10000 * 1000 := Nat.mul_le_mul hz hn
  refine PySem.P.mul_str ?_ (fun _ _ => ?_) (fun _ _ => ?_) ?_
  · have h1 : ¬ ((n : Int) < -(2 ^ 63)) := by omega
    have h2 : ¬ ((n : Int) ≥ 2 ^ 63) := by omega
    rw [decide_eq_false h1, decide_eq_false h2]
    rfl
  · have hp : 0 < (n : Int) := by omega
    have a1 : ((z.length : Int)) * (n : Int) ≤ 10000000 := by
      have := (Int.ofNat_le.mpr hmul)
      simpa using this
    intro hgt
    have hd : (2 ^ 63 - 1 : Int) / (n : Int) < (z.length : Int) := hgt
    have h3 : (2 ^ 63 - 1 : Int) < (z.length : Int) * (n : Int) := (Int.ediv_lt_iff_lt_mul hp).mp hd
    omega
  · show decide (z.length * (n : Int).toNat > sizeLine) = false
    rw [decide_eq_false_iff_not]
    have e2 : sizeLine = 16777216 := rfl
    have : z.length * (n : Int).toNat ≤ 10000000 := by simpa using hmul
    omega
  · have sz : (repS z n).length ≤ sizeLine := by
      rw [repS_len]
      have e2 : sizeLine = 16777216 := rfl
      have : n * z.length = z.length * n := Nat.mul_comm _ _
      omega
    by_cases h1 : (n : Int) < 1
    · rw [if_pos h1]
      have e : n = 0 := by omega
      subst e
      exact ⟨by decide, .str (repS z 0), H, I.tok _, ⟨_, rfl⟩, q⟩
    · rw [if_neg h1]
      by_cases h2 : ((n : Int) == 1 || z.length == 0) = true
      · rw [if_pos h2]
        have e : repS z n = z := by
          rcases Bool.or_eq_true_iff.mp h2 with h3 | h3
          · have e1 : n = 1 := by
              have := eq_of_beq h3
              omega
            subst e1
            unfold repS
            simp
          · have e0 : z.cps.size = 0 := eq_of_beq h3
            have ea : z.cps = #[] := Array.eq_empty_of_size_eq_zero e0
            obtain ⟨c⟩ := z
            simp only at ea
            subst ea
            unfold repS
            simp
        rw [e] at q
        exact ⟨.str z, H, I, ⟨_, rfl⟩, q⟩
      · rw [if_neg h2]
        have e : (⟨(List.replicate (n : Int).toNat z.cps).foldl (· ++ ·) #[]⟩ : Str) = repS z n := by
          unfold repS
          have := fold_reps z.cps (n : Int).toNat #[]
          simp only [Int.toNat_natCast] at this ⊢
          rw [this]
          simp
        rw [e]
        exact ⟨sz, .str (repS z n), H, I.tok _, ⟨_, rfl⟩, q⟩
end L2
end

section
set_option Elab.async false
set_option linter.all false
set_option maxRecDepth 100000
set_option maxHeartbeats 4000000
/-! yield from a list; list(text) -/
namespace L2
open PySem PySem.Spec PyProof.Rows GenW
section
variable {prog : Program} {w : World} {A : Around} {E : Value → Shared → Prop} {s : Shared}
theorem nx_listit {it l : Addr} {i : Nat} {ws : Array Value} {x : Value} {Q : Option Value → Shared → Prop} (a1 : s.heap.IsListIter it l i) (a2 : s.heap.IsList l ws) (hx : ws[i]? = some x)
    (hQ : ∀ h', h'.IsListIter it l (i + 1) → Heap.SameBut it s.heap h' → Q (some x) { s with heap := h' }) : wpAny (model prog w) A (callSpecial? (.ref it) "__next__") Q E s := by
  obtain ⟨oi, b1, b2, b3⟩ := id a1
  obtain ⟨ol, c1, _, nl, c2⟩ := a2
  refine wpAny_callSpecial?_slot (name := Str.ofString "__next__") a1.typeIs slot_listiter_next (wpAny_call_entry slot_listiter_next a1.typeIs entry_listiter_next ?_ (args_listiter_next _))
  show wpAny _ _ (field (.ref it) 0 >>= _) _ _ _
  refine wpAny_bind (wpAny_field b1 b3 (x := .ref l) rfl ?_)
  show wpAny _ _ (if (Value.ref l == Value.none) = true then _ else _) _ _ _
  rw [if_neg (show ¬ ((Value.ref l == Value.none) = true) from fun z => by cases z)]
  show wpAny _ _ (field (.ref it) 1 >>= _) _ _ _
  refine wpAny_bind (wpAny_field b1 b3 (x := .int i 0) rfl ?_)
  show wpAny _ _ (seqItems? (.ref l) >>= _) _ _ _
  refine wpAny_bind (wpAny_seqItems c1 c2 ?_)
  simp only [Int.toNat_natCast, hx]
  refine wpAny_bind (wpAny_setField b1 b3 (by simp) (wpAny_pure ⟨x, rfl, hQ _ ?_ (Heap.SameBut.update ..)⟩))
  exact ⟨_, Heap.get?_update_self _ b1 (Obj.isFreed_of_fields (Obj.data_mapFields b3 _)), (Obj.cls_mapFields ..).trans b2, by rw [Obj.data_mapFields b3]; simp [rawInt]⟩
theorem nx_listend {it l : Addr} {i : Nat} {ws : Array Value} {Q : Option Value → Shared → Prop} (hA : A.handled = none) (a1 : s.heap.IsListIter it l i) (a2 : s.heap.IsList l ws) (hx : ws[i]? = none)
    (hE : ∀ e h', StopX e h' → Heap.ExtBut it s.heap h' → E e { s with heap := h' }) : wpAny (model prog w) A (callSpecial? (.ref it) "__next__") Q E s := by
  obtain ⟨oi, b1, b2, b3⟩ := id a1
  obtain ⟨ol, c1, _, nl, c2⟩ := a2
  refine wpAny_callSpecial?_slot (name := Str.ofString "__next__") a1.typeIs slot_listiter_next (wpAny_call_entry slot_listiter_next a1.typeIs entry_listiter_next ?_ (args_listiter_next _))
  show wpAny _ _ (field (.ref it) 0 >>= _) _ _ _
  refine wpAny_bind (wpAny_field b1 b3 (x := .ref l) rfl ?_)
  show wpAny _ _ (if (Value.ref l == Value.none) = true then _ else _) _ _ _
  rw [if_neg (show ¬ ((Value.ref l == Value.none) = true) from fun z => by cases z)]
  show wpAny _ _ (field (.ref it) 1 >>= _) _ _ _
  refine wpAny_bind (wpAny_field b1 b3 (x := .int i 0) rfl ?_)
  show wpAny _ _ (seqItems? (.ref l) >>= _) _ _ _
  refine wpAny_bind (wpAny_seqItems c1 c2 ?_)
  simp only [Int.toNat_natCast, hx]
  refine wpAny_bind (wpAny_rule (wpAny_bind (wpAny_setField b1 b3 (by simp) ?_)))
  show wpAny _ _ (newExc (.type "StopIteration") [] >>= _) _ _ _
  refine wpAny_bind ?_
  simp only [newExc, newTuple]
  refine wpAny_bind (wpAny_newObj_type ?_ (by size_fits))
  refine wpAny_bind (m := firstArgMember _ _) (wpAny_of_eq (a := Value.none) (by first | rfl | (simp only [firstArgMember]; rfl)) ?_)
  refine wpAny_newObj_type ?_ (by size_fits)
  simp only [raiseNew]
  refine wpAny_bind (wpAny_handled ?_)
  first | rw [show A.in1.handled = none from hA] | rw [hA]
  refine wpAny_bind (wpAny_pure (wpAny_throw ?_))
  refine hE _ _ ⟨_, _, _, rfl, Heap.get?_push_size _ rfl, rfl, rfl, ?_⟩ (((Heap.SameBut.update ..).extBut.push _).push _)
  first
    | rfl
    | (rw [Array.getElem?_append_left (by decide)]; rfl)
    | kernel_rfl
end
section
variable {X : Cx} {e : Expr} {te : TE}
def tYfLst (te : TE) : TYf := fun σ H Q => te σ H fun x H1 => ∃ a xs, x = .ref a ∧ H1 a = some (.lst xs) ∧ Q xs H1
theorem close_lst : typeLookup (.type "list_iterator") "close" = pure none := by
  rw [typeLookup_type, builtinLookup_eq_fast]
  kernel_rfl
theorem yf_list (he : PE X e te) : YfE X e (tYfLst te) := by
  refine ⟨fun pins s σ H Q I h => ?_⟩
  refine thn (he.run pins s σ H _ I h) fun v s1 ⟨x, H1, I1, r1, a, xs, ex, ha, hq⟩ => ?_
  subst ex
  obtain rfl : v = Value.ref a := r1
  obtain ⟨hlen, its, c0, rits, hget⟩ := I1.hok a _ ha
  have hl : s1.heap.IsList a its.toArray := ⟨_, hget, rfl, c0, rfl⟩
  have hlt : a < s1.heap.objs.size := Heap.lt_size hget
  refine ⟨"list", hl.typeIs, by decide, wpAny_pyIter_list hl ?_⟩
  have ksz : ∀ b o, s1.heap.get? b = some o → b ≠ s1.heap.objs.size := fun b o e => Nat.ne_of_lt (Heap.lt_size e)
  have kp : ∀ b o, s1.heap.get? b = some o → (s1.heap.push { cls := .type "list_iterator", data := .fields #[.ref a, .int 0 0] }).get? b = some o := fun b o e => Heap.get?_push_of_some _ e
  refine ⟨s1.heap.objs.size, H1, xs, fun j h => h.IsListIter s1.heap.objs.size a j ∧ h.IsList a its.toArray, rfl, I1.kept (t' := s1.toks) kp, .inr I1.sz, Nat.ne_of_gt I1.lt, fun y c hy => ?_, I1.hok.fresh (Nat.le_refl _), fun p hp => ?_,
    ⟨⟨_, Heap.get?_push_size _ rfl, rfl, rfl⟩, hl.push _⟩, ⟨⟨"list_iterator", fun j h q => ?_, close_lst, by decide⟩, fun j h h' q hk => ?_, fun A' j x s2 Q' E' hA hx q hQ => ?_, fun A' s2 Q' E' hA q hE => ?_⟩, hq⟩
  · obtain ⟨v, o, ho, _⟩ := I1.cell y c hy
    exact ksz c o ho
  · exact ksz p.1 _ (I1.pin p hp).1
  · obtain ⟨⟨o, ho, hc, _⟩, _⟩ := q
    exact ⟨o, ho, hc⟩
  · obtain ⟨⟨o, ho, r⟩, o2, ho2, r2⟩ := q
    exact ⟨⟨o, hk _ o (.inl rfl) ho, r⟩, o2, hk _ o2 (.inr (by rw [ha]; exact fun z => by cases z)) ho2, r2⟩
  · obtain ⟨q1, q2⟩ := q
    obtain ⟨u, hu, ru⟩ := rits.get hx
    have hne : a ≠ s1.heap.objs.size := Nat.ne_of_lt hlt
    exact nx_listit q1 q2 (x := u) (by simpa using hu) fun h' q1' hs => hQ u h' s2.toks ru ⟨q1', q2.extBut hs.extBut hne⟩ fun b o hb eb => hs.extBut b o hb eb
  · obtain ⟨q1, q2⟩ := q
    have hnone : its.toArray[xs.length]? = none := by
      have e := rits.length
      have e2 : its[xs.length]? = none := List.getElem?_eq_none_iff.mpr (by omega)
      simpa using e2
    exact nx_listend hA q1 q2 hnone fun e h' hS hk => hE e h' s2.toks hS fun b o hb eb => hk b o hb eb
end
end L2
end

section
set_option Elab.async false
set_option linter.all false
set_option maxRecDepth 100000
set_option maxHeartbeats 4000000
/-! list(text) -/
namespace PySem.W
open PySem PySem.Calls PyProof.Rows PyProof.V PySem.Spec
section
variable {prog : Program} {w : World} {A : Around} {E : Value → Shared → Prop} {s : Shared} {x : Str} {t : Tok}
theorem ltx_hint {Q : Bool → Shared → Prop} (h : Q false s) : wpAny (model prog w) A (Builtin.List.listLengthHint (.str x t)) Q E s := by
  unfold Builtin.List.listLengthHint
  refine wpAny_bind (wpAny_specialOf (typeIs_str s x t) PySem.F.slot_str_len.lookup ?_)
  generalize hid : ("str.__len__" : String) = id0
  wp_delta
  rw [show splitId id0 = some ("str", "__len__") from by subst hid; decide +kernel]
  subst hid
  refine wpAny_bind (wpAny_isInstance (T := "str") (b := true) (typeIs_str s x t) (by rw [isSubtype_type]; kernel_rfl) ?_)
  refine wpAny_ite_split (fun z => absurd z (by decide)) (fun _ => ?_)
  refine wpAny_ite_split (fun _ => ?_) (fun z => absurd (by decide +kernel) z)
  refine wpAny_bind (wpAny_typeOf (typeIs_str s x t) ?_)
  exact wpAny_pure h
theorem ltx_extend {R : Result → Shared → Prop} (hh : A.handled = none) (S : Addr) (res : Value) (c₀ : Nat) (hS : s.heap.get? S = some { cls := .type "list", data := .seq #[] c₀ })
    (hR : ∀ h' tk acc' c', (∀ b o, b ≠ S → s.heap.get? b = some o → h'.get? b = some o) → h'.get? S = some { cls := .type "list", dict := none, data := .seq acc' c', slots := #[] } → ItemsOf (SignAt x) acc' x.cps.size → R (.ok (.ret res)) { s with heap := h', toks := tk }) (hn : x.cps.size ≤ sizeLine) :
    wpAny (model prog w) A.in1 (Builtin.List.listExtendWith (.ref S) (.str x t) res)
      (fun fin s' => match fin with | .done f => R (.ok f) s' | .again c' => c'.quiet = true ∧ codeAny (model prog w) A c' R s') (fun e s' => R (.error e) s') s := by
  have hSI : S ≠ s.heap.objs.size := Nat.ne_of_lt (Heap.lt_size hS)
  unfold Builtin.List.listExtendWith
  refine wpAny_bind (wpAny_typeOf (T := "str") (typeIs_str s x t) ?_)
  have h1 : Builtin.List.listSameRef (.ref S) (.str x t) = false := rfl
  have h2 : (Value.type "str" == Value.type "list") = false := by decide
  have h3 : (Value.type "str" == Value.type "tuple") = false := by decide
  simp only [h1, h2, h3, Bool.or_false, Bool.false_eq_true, if_false]
  refine wpAny_bind (wpAny_pyIter_str fun o St hW st => ?_)
  have hSf : S ∉ [s.heap.objs.size] := by
    simp only [List.mem_singleton]
    exact hSI
  have W := hW A.in1 hh
  have hS1 := Heap.get?_push_of_some o hS
  refine wpAny_bind (wpAny_holding (ltx_hint ?_))
  have nohint : (false || ["set", "frozenset", "dict", "dict_keys", "dict_values", "dict_items"].any (fun y => Value.type "str" == Value.type y)) = false := by decide
  refine wpAny_ite_split (fun z => absurd z (by decide)) (fun _ => ?_)
  refine wpAny_pure ⟨plainId_quiet PySem.F.plain_extend_loop _, ?_⟩
  show codeAny (model prog w) A (.builtin "list.extend.loop" ⟨[.ref S, .ref s.heap.objs.size, res], []⟩) R _
  refine codeAny_extend_loopS W.toS hn S hSf res x.cps.size 0 _ #[] c₀ rfl (Nat.zero_le _) st hS1 (ItemsOf.nil _) fun s' acc' c' hm hS' hacc => ?_
  rw [Moved.eq_with hm]
  refine hR s'.heap s'.toks acc' c' (fun b ob hb e => hm.heap b ob (fun hmem => ?_) (Heap.get?_push_of_some _ e)) hS' hacc
  rcases List.mem_cons.mp hmem with e' | hmem
  · exact hb e'
  · exact absurd (Heap.lt_size e) (by rw [List.mem_singleton.mp hmem]; exact Nat.lt_irrefl _)
theorem ltx_init {R : Result → Shared → Prop} (hh : A.handled = none) (S : Addr) (hS : s.heap.get? S = some { cls := .type "list", data := .seq #[] })
    (hR : ∀ h' tk acc' c', (∀ b o, b ≠ S → s.heap.get? b = some o → h'.get? b = some o) → h'.get? S = some { cls := .type "list", dict := none, data := .seq acc' c', slots := #[] } → ItemsOf (SignAt x) acc' x.cps.size → R (.ok (.ret .none)) { s with heap := h', toks := tk }) (hn : x.cps.size ≤ sizeLine) :
    wpAny (model prog w) A.in1 (Builtin.«list.__init__» ⟨[.ref S, .str x t], []⟩)
      (fun fin s' => match fin with | .done f => R (.ok f) s' | .again c' => c'.quiet = true ∧ codeAny (model prog w) A c' R s') (fun e s' => R (.error e) s') s := by
  show wpAny _ _ (do let old ← Builtin.List.listItems (.ref S); Builtin.List.listUpdate (.ref S) (fun _ => #[]); letGo old.toList.reverse; Builtin.List.listExtendWith (.ref S) (.str x t) .none) _ _ s
  refine wpAny_bind ?_
  unfold Builtin.List.listItems
  refine wpAny_bind (wpAny_seqItems hS rfl (wpAny_pure ?_))
  show wpAny _ _ (updateSeq S (fun _ => #[]) >>= fun _ => letGo (#[] : Array Value).toList.reverse >>= fun _ => Builtin.List.listExtendWith (.ref S) (.str x t) .none) _ _ s
  refine wpAny_bind (wpAny_updateSeq hS rfl ?_)
  have hS2 := Heap.get?_update_self (Obj.mapSeq (fun _ => (#[] : Array Value))) hS rfl
  have oth : ∀ b o, b ≠ S → s.heap.get? b = some o → (s.heap.update S (Obj.mapSeq (fun _ => (#[] : Array Value)))).get? b = some o := fun b o hb e => (Heap.get?_update_other _ _ (Ne.symm hb)).trans e
  refine wpAny_bind (wpAny_letGo ?_)
  refine ltx_extend hh S .none _ hS2 (fun h' tk acc' c' hk hS' hacc => ?_) hn
  exact hR h' tk acc' c' (fun b o hb e => hk b o hb (oth b o hb e)) hS' hacc
theorem ltx_call {Q : Value → Shared → Prop} (hh : A.handled = none) (hn : x.cps.size ≤ sizeLine)
    (hQ : ∀ h' tk acc' c', (∀ b o, s.heap.get? b = some o → h'.get? b = some o) → h'.get? s.heap.objs.size = some { cls := .type "list", dict := none, data := .seq acc' c', slots := #[] } → ItemsOf (SignAt x) acc' x.cps.size → Q (.ref s.heap.objs.size) { s with heap := h', toks := tk }) :
    wpAny (model prog w) A (call (.type "list") [.str x t]) Q E s := by
  refine callType_codes (Q₁ := fun obj s₁ => obj = .ref s.heap.objs.size ∧ s₁ = { s with heap := s.heap.push { cls := .type "list", data := .seq #[] } }) PySem.F.called_list (PySem.F.typeCall_list_1 _) PySem.F.entry_list_init
    (code_list_new _ ⟨rfl, rfl⟩) fun obj s₁ h₁ => ?_
  obtain ⟨rfl, rfl⟩ := h₁
  have hS : (s.heap.push { cls := .type "list", data := .seq #[] }).get? s.heap.objs.size = some { cls := .type "list", data := .seq #[] } := Heap.get?_push_size _ rfl
  refine ⟨⟨_, hS, rfl⟩, PySem.F.args_list_init_2 _ _, ltx_init (A := A.in1) hh _ hS (fun h' tk acc' c' hk hS' hacc => ?_) hn⟩
  exact ⟨rfl, hQ h' tk acc' c' (fun b o e => hk b o (Nat.ne_of_lt (Heap.lt_size e)) (Heap.get?_push_of_some _ e)) hS' hacc⟩
end
end PySem.W
namespace L2
open PySem PySem.Spec PyProof.Rows
/-- the signs of a text, each a text -/
def signsV (z : Str) : List V := z.cps.toList.map fun c => V.str ⟨#[c]⟩
theorem signsV_len (z : Str) : (signsV z).length = z.length := by
  unfold signsV
  rw [List.length_map, Array.length_toList]
  rfl
theorem call_list_str {X : Cx} (hc : X.calm = true) : CallR X (.type "list") (fun xs H Q => ∃ z, xs = [.str z] ∧ z.length ≤ sizeLine ∧ ∀ l, H l = none → Q (.ref l) (upd H l (.lst (signsV z)))) := by
  intro pins s σ H xs us Q I r h
  obtain ⟨z, rfl, hz, q⟩ := h
  obtain ⟨u, rfl, t, rfl⟩ := vals1 r
  refine PySem.W.ltx_call (I.ok.hd hc) hz fun h' tk acc c' hk e' hi => ?_
  have rv : Vals (signsV z) acc.toList := by
    refine vals_of_at ?_ fun j y w h1 h2 => ?_
    · rw [signsV_len, Array.length_toList, hi.1]
      rfl
    · obtain ⟨c, tt, hcx, rfl⟩ := hi.2 j w (by rw [← Array.getElem?_toList]; exact h2)
      have e1 : (signsV z)[j]? = some (.str ⟨#[c]⟩) := by
        unfold signsV
        rw [List.getElem?_map, Array.getElem?_toList, hcx]
        rfl
      have e2 : y = .str ⟨#[c]⟩ := Option.some.inj (h1.symm.trans e1)
      subst e2
      exact ⟨tt, rfl⟩
  refine ⟨.ref s.heap.objs.size, upd H s.heap.objs.size (.lst (signsV z)), I.laid hk (Nat.le_refl _) (show ObjOk X.prog X.w _ _ _ (.lst (signsV z)) from ⟨?_, acc.toList, c', rv, ?_⟩), rfl, q _ (I.hok.fresh (Nat.le_refl _))⟩
  · rw [signsV_len]
    exact hz
  · rw [Array.toArray_toList]
    exact e'
end L2
end

section
set_option Elab.async false
set_option linter.all false
set_option maxRecDepth 100000
set_option maxHeartbeats 4000000
/-! loops and comprehensions over a text; what a reading evaluates to, further -/
namespace Evl
open PySem PySem.Spec PyProof.Rows L2
section
variable {g : TG} {tb : TS} {D : Ends} {σ : L2.St} {H : Hp} {z : Str}
theorem for_text (Pv : Nat → L2.St → Hp → Prop) (h0 : Pv 0 σ H)
    (hs : ∀ i c σ' H', z.cps[i]? = some c → Pv i σ' H' → g (.str ⟨#[c]⟩) σ' H' fun σ2 H2 => tb { D with nx := Pv (i + 1), ct := Pv (i + 1), bk := D.nx } σ2 H2) (hd : ∀ σ' H', Pv z.cps.size σ' H' → D.nx σ' H') :
    ∃ W : Nat → Nat → L2.St → Hp → Prop, (∃ m, W 0 m σ H) ∧ ∀ i m σ H, W i m σ H →
      ((Its z).stop i H ∧ D.nx σ H) ∨ ((Its z).go i H ∧ ∃ N : L2.St → Hp → Prop, (∀ σ' H', N σ' H' → ∃ m', m' < m ∧ W (i + 1) m' σ' H') ∧ ∀ x H', (Its z).yld i H x H' → g x σ H' fun σ2 H2 => tb { D with nx := N, ct := N, bk := D.nx } σ2 H2) := by
  refine ⟨fun i m σ H => m = z.cps.size - i ∧ i ≤ z.cps.size ∧ Pv i σ H, ⟨z.cps.size, by simp, Nat.zero_le _, h0⟩, ?_⟩
  rintro i m σ' H' ⟨rfl, hi, p⟩
  by_cases hlt : i < z.cps.size
  · refine .inr ⟨hlt, Pv (i + 1), fun σ2 H2 p' => ⟨z.cps.size - (i + 1), by omega, rfl, hlt, p'⟩, fun x H2 y => ?_⟩
    obtain ⟨e, c, hc, ex⟩ := y
    subst e
    subst ex
    exact hs i c σ' _ hc p
  · have e : i = z.cps.size := by omega
    subst e
    exact .inl ⟨Nat.le_refl _, hd σ' H' p⟩
theorem lc_text {tt : TT} {te : TE} {vs : List Nat} {H1 : Hp} {Dl : Addr} {Qd : Hp → Prop} (Pv : Nat → Hp → Prop) (h0 : Pv 0 (upd H1 Dl (.lst [])))
    (hs : ∀ i c H, z.cps[i]? = some c → Pv i H → g (.str ⟨#[c]⟩) (wipe σ vs) H fun σ2 H2 => wipe σ2 vs = wipe σ vs ∧ tt σ2 H2 fun b H3 =>
      if b = true then te σ2 H3 fun y H4 => ∃ acc, H4 Dl = some (.lst acc) ∧ acc.length < sizeLine ∧ Pv (i + 1) (upd H4 Dl (.lst (acc ++ [y]))) else Pv (i + 1) H3) (hd : ∀ H, Pv z.cps.size H → Qd H) :
    ∃ W : Nat → Nat → Hp → Prop, (∃ m, W 0 m (upd H1 Dl (.lst []))) ∧ ∀ i m H, W i m H →
      ((Its z).stop i H ∧ Qd H) ∨ ((Its z).go i H ∧ ∃ Nx : Hp → Prop, (∀ H', Nx H' → ∃ m', m' < m ∧ W (i + 1) m' H') ∧ ∀ x H', (Its z).yld i H x H' → g x (wipe σ vs) H' fun σ2 H2 => wipe σ2 vs = wipe σ vs ∧ tt σ2 H2 fun b H3 =>
        if b = true then te σ2 H3 fun y H4 => ∃ acc, H4 Dl = some (.lst acc) ∧ acc.length < sizeLine ∧ Nx (upd H4 Dl (.lst (acc ++ [y]))) else Nx H3) := by
  refine ⟨fun i m H => m = z.cps.size - i ∧ i ≤ z.cps.size ∧ Pv i H, ⟨z.cps.size, by simp, Nat.zero_le _, h0⟩, ?_⟩
  rintro i m H ⟨rfl, hi, p⟩
  by_cases hlt : i < z.cps.size
  · refine .inr ⟨hlt, Pv (i + 1), fun H' p' => ⟨z.cps.size - (i + 1), by omega, rfl, hlt, p'⟩, fun x H' y => ?_⟩
    obtain ⟨e, c, hc, ex⟩ := y
    subst e
    subst ex
    exact hs i c _ hc p
  · have e : i = z.cps.size := by omega
    subst e
    exact .inl ⟨Nat.le_refl _, hd H p⟩
end
section
variable {σ : L2.St} {H : Hp} {te : TE} {t : TT} {D : Ends} {tu tz : TS} {g : TG}
/-- [e for c in z if ..] -/
theorem el_lcS {z : Str} {tl : TE} {j : Nat} {vs : List Nat} (f : Nat → Bool) (v : Nat → V) (h : Ev tl σ H (.str z)) (hz : z.length ≤ 40000) (hw : ∀ x, wipe ((wipe σ vs).set j (some x)) vs = wipe σ vs)
    (ht : ∀ (i c : Nat) H1, Ex H H1 → z.cps[i]? = some c → EvT t ((wipe σ vs).set j (some (.str ⟨#[c]⟩))) H1 (f i)) (he : ∀ (i c : Nat) H1, Ex H H1 → z.cps[i]? = some c → f i = true → Ev te ((wipe σ vs).set j (some (.str ⟨#[c]⟩))) H1 (v i)) :
    EvL (tLc (iStr tl) (gName j) t te vs) σ H (given z.cps.size f v) := fun H0 e Q q => h H0 e _ fun H1 e1 => ⟨z, rfl, fun Dl hD =>
  lc_text (z := z) (Cw H1 f v Dl) ⟨hD, Ex.new hD, upd_same⟩ (fun i c H' hi p => ⟨hw _, cw_turn p (by have h1 := (Array.getElem?_eq_some_iff.mp hi).1; have h2 : z.cps.size ≤ 40000 := hz; omega) (ht i c H1 (e.trans e1) hi) (fun hf => he i c H1 (e.trans e1) hi hf)⟩)
    (fun H' p => q Dl H' (fresh_back e1 p.1) (e1.trans p.2.1) p.2.2)⟩
theorem s_forS {z : Str} {tl : TE} {j : Nat} (h : Ev tl σ H (.str z)) (Pv : Nat → L2.St → Hp → Prop) (h0 : ∀ H1, Ex H H1 → Pv 0 σ H1)
    (hs : ∀ i c σ' H', z.cps[i]? = some c → Pv i σ' H' → tu { D with nx := Pv (i + 1), ct := Pv (i + 1), bk := D.nx } (σ'.set j (some (.str ⟨#[c]⟩))) H') (hd : ∀ σ' H', Pv z.cps.size σ' H' → D.nx σ' H') : tFor (iStr tl) (gName j) tu D σ H :=
  h H (Ex.refl H) _ fun H1 e => ⟨z, rfl, for_text Pv (h0 H1 e) hs hd⟩
theorem q_forS {z : Str} {tl : TE} {j : Nat} (h : Ev tl σ H (.str z)) (Pv : Nat → L2.St → Hp → Prop) (h0 : ∀ H1, Ex H H1 → Pv 0 σ H1)
    (hs : ∀ i c σ' H', z.cps[i]? = some c → Pv i σ' H' → tu { D with nx := Pv (i + 1), ct := Pv (i + 1), bk := tz D } (σ'.set j (some (.str ⟨#[c]⟩))) H') (hd : ∀ σ' H', Pv z.cps.size σ' H' → tz D σ' H') : tSeq (tFor (iStr tl) (gName j) tu) tz D σ H :=
  s_forS (D := { D with nx := tz D }) h Pv h0 hs hd
variable {ta tb tc : TE} {x y v : V} {K : PySem.W.Frag}
theorem et_yes : EvT tYes σ H true := fun H1 _ _ q => q H1 (Ex.refl H1)
/-- text + text; the order of texts; a sign in a text -/
theorem ev_addS {a b : Str} (ha : Ev ta σ H (.str a)) (hb : Ev tb σ H (.str b)) (hz : a.length + b.length ≤ 100000) : Ev (tOp (fun x y H Q => ∃ i j, x = .str i ∧ y = .str j ∧ i.length + j.length ≤ sizeLine ∧ Q (.str (i ++ j)) H) ta tb) σ H (.str (a ++ b)) :=
  ev_op ha hb fun H1 _ _ q => ⟨a, b, rfl, rfl, sz_of hz, q H1 (Ex.refl H1)⟩
theorem ev_lenS {z : Str} (h : Ev te σ H (.str z)) (hz : z.length ≤ 100000) : Ev (tCB (fun xs H Q => ∃ z : Str, xs = [.str z] ∧ z.length ≤ sizeLine ∧ Q (.int z.length) H) (tCons te tNil)) σ H (.int z.length) := fun H1 e Q q =>
  h H1 e _ fun H2 e2 => ⟨z, rfl, sz_of hz, q H2 e2⟩
theorem ev_all {xs : List V} (bs : List Bool) (h : EvL te σ H xs) (hb : xs = bs.map V.bl) : Ev (tCB (rAll K) (tCons te tNil)) σ H (.bl (bs.all id)) := fun H1 e Q q =>
  h H1 e _ fun p H2 hp e2 h2 => ⟨p, bs, rfl, sq_of (by rw [h2, hb]), q H2 e2⟩
end

section
variable {σ : L2.St} {H : Hp} {te ta tb tc : TE} {t : TT} {D : Ends} {tu tz : TS} {g : TG} {x y v z : V} {K : PySem.W.Frag}
/-- int(n), int(flag) -/
def rInt1 : List V → Hp → VK → Prop := fun xs H Q => (∃ i, xs = [.int i] ∧ Q (.int i) H) ∨ ∃ k, xs = [.bl k] ∧ Q (.int (if k then 1 else 0)) H
theorem ev_int1 {i : Int} (h : Ev te σ H (.int i)) : Ev (tCB rInt1 (tCons te tNil)) σ H (.int i) := fun H1 e Q q => h H1 e _ fun H2 e2 => Or.inl ⟨i, rfl, q H2 e2⟩
theorem ev_intB {b : Bool} (h : Ev te σ H (.bl b)) : Ev (tCB rInt1 (tCons te tNil)) σ H (.int (if b then 1 else 0)) := fun H1 e Q q => h H1 e _ fun H2 e2 => Or.inr ⟨b, rfl, q H2 e2⟩
/-- by values -/
def rAddT : R2 := fun x y H Q => ∃ i j, x = .str i ∧ y = .str j ∧ i.length + j.length ≤ sizeLine ∧ Q (.str (i ++ j)) H
def rInSg : R2 := fun x y H Q => ∃ (c : Nat) (z : Str), x = .str ⟨#[c]⟩ ∧ y = .str z ∧ Q (.bl (decide (c ∈ z.cps.toList))) H
def rNiSg : R2 := fun x y H Q => ∃ (c : Nat) (z : Str), x = .str ⟨#[c]⟩ ∧ y = .str z ∧ Q (.bl (!decide (c ∈ z.cps.toList))) H
def rLtS : R2 := fun x y H Q => ∃ i j, x = .str i ∧ y = .str j ∧ Q (.bl (decide (i.cps.toList < j.cps.toList))) H
theorem rv_addT {a b : Str} (hz : a.length + b.length ≤ 100000) : RV rAddT (.str a) (.str b) H (.str (a ++ b)) := fun H1 _ _ q => ⟨a, b, rfl, rfl, sz_of hz, q H1 (Ex.refl H1)⟩
theorem rv_inSg {c : Nat} {z : Str} : RV rInSg (.str ⟨#[c]⟩) (.str z) H (.bl (decide (c ∈ z.cps.toList))) := fun H1 _ _ q => ⟨c, z, rfl, rfl, q H1 (Ex.refl H1)⟩
theorem rv_niSg {c : Nat} {z : Str} : RV rNiSg (.str ⟨#[c]⟩) (.str z) H (.bl (!decide (c ∈ z.cps.toList))) := fun H1 _ _ q => ⟨c, z, rfl, rfl, q H1 (Ex.refl H1)⟩
theorem rv_ltS {a b : Str} : RV rLtS (.str a) (.str b) H (.bl (decide (a.cps.toList < b.cps.toList))) := fun H1 _ _ q => ⟨a, b, rfl, rfl, q H1 (Ex.refl H1)⟩
theorem rv_mulS {a : Str} {n : Nat} (hn : n ≤ 1000) (hz : a.length ≤ 10000) : RV rMulS (.str a) (.int (n : Int)) H (.str (repS a n)) := fun H1 _ _ q => ⟨a, n, rfl, rfl, hn, hz, q H1 (Ex.refl H1)⟩
theorem ev_chain {r r' : R2} {b1 b2 : Bool} (ha : Ev ta σ H x) (hb : Ev tb σ H y) (hr : RV r x y H (.bl b1)) (hc : Ev tc σ H z) (hr2 : RV r' y z H (.bl b2)) : Ev (tChain r r' ta tb tc) σ H (.bl (b1 && b2)) := fun H1 e Q q => by
  refine ha H1 e _ fun H2 e2 => hb H2 (e.trans e2) _ fun H3 e3 => hr H3 ((e.trans e2).trans e3) _ fun H4 e4 => ⟨b1, rfl, ?_⟩
  cases b1 with
  | true =>
    show tc σ H4 _
    exact hc H4 (((e.trans e2).trans e3).trans e4) _ fun H5 e5 => hr2 H5 ((((e.trans e2).trans e3).trans e4).trans e5) _ fun H6 e6 => q H6 ((((e2.trans e3).trans e4).trans e5).trans e6)
  | false =>
    show Q (.bl false) H4
    exact q H4 ((e2.trans e3).trans e4)
end
section
variable {σ : L2.St} {H : Hp} {te ta tb tc : TE} {t : TT} {x y v z : V} {K : PySem.W.Frag}
/-- range(n), n perhaps below 0 -/
theorem el_lcR0 {ta : TA} {j : Nat} {vs : List Nat} {n : Int} (f : Nat → Bool) (v : Nat → V) (h : EvA ta σ H [.int n]) (hn : -100000 ≤ n ∧ n ≤ 40000) (hw : ∀ x, wipe ((wipe σ vs).set j (some x)) vs = wipe σ vs)
    (ht : ∀ (i : Nat) H1, Ex H H1 → (i : Int) < n → EvT t ((wipe σ vs).set j (some (.int (i : Int)))) H1 (f i)) (he : ∀ (i : Nat) H1, Ex H H1 → (i : Int) < n → f i = true → Ev te ((wipe σ vs).set j (some (.int (i : Int)))) H1 (v i)) :
    EvL (tLc (iRng1 ta) (gName j) t te vs) σ H (given n.toNat f v) := fun H0 e Q q => h H0 e _ fun H1 e1 => ⟨n, rfl, by omega, by omega, fun Dl hD =>
  lc_range (lo := 0) (n := n.toNat) (Cw H1 f v Dl) ⟨hD, Ex.new hD, upd_same⟩ (fun i H' hi p => by
    have e0 : (0 : Int) + (i : Int) = (i : Int) := Int.zero_add _
    show wipe ((wipe σ vs).set j (some (.int ((0 : Int) + (i : Int))))) vs = wipe σ vs ∧ t ((wipe σ vs).set j (some (.int ((0 : Int) + (i : Int))))) H' fun b H3 => if b = true then te ((wipe σ vs).set j (some (.int ((0 : Int) + (i : Int))))) H3 fun y H4 => ∃ acc, H4 Dl = some (.lst acc) ∧ acc.length < sizeLine ∧ Cw H1 f v Dl (i + 1) (upd H4 Dl (.lst (acc ++ [y]))) else Cw H1 f v Dl (i + 1) H3
    rw [e0]
    exact ⟨hw _, cw_turn p (by omega) (ht i H1 (e.trans e1) (by omega)) (fun hf => he i H1 (e.trans e1) (by omega) hf)⟩) (fun H' p => q Dl H' (fresh_back e1 p.1) (e1.trans p.2.1) p.2.2)⟩
/-- the place i of a list, told as a value -/
def vOf {α : Type} (l : List α) (g : α → V) (i : Nat) : V := match l[i]? with
  | some a => g a
  | none => .non
theorem vOf_at {α : Type} {l : List α} {g : α → V} {i : Nat} {a : α} (h : l[i]? = some a) : vOf l g i = g a := by
  unfold vOf
  rw [h]
theorem given_map {α : Type} (l : List α) (g : α → V) : given l.length (fun _ => true) (vOf l g) = l.map g := by
  unfold given
  rw [List.filter_eq_self.mpr (fun _ _ => rfl)]
  apply List.ext_getElem?
  intro i
  rw [List.getElem?_map, List.getElem?_map]
  by_cases hi : i < l.length
  · rw [List.getElem?_range hi, List.getElem?_eq_getElem hi]
    show some (vOf l g i) = some (g l[i])
    rw [vOf_at (List.getElem?_eq_getElem hi)]
  · rw [List.getElem?_eq_none (l := l) (by omega), List.getElem?_eq_none (l := List.range l.length) (by rw [List.length_range]; omega)]
    rfl
theorem given_range (n : Nat) (v : Nat → V) : given n (fun _ => true) v = (List.range n).map v := by
  unfold given
  rw [List.filter_eq_self.mpr (fun _ _ => rfl)]
theorem cps_at {z : Str} {i c : Nat} (h : z.cps[i]? = some c) : z.cps.toList[i]? = some c := by
  rw [Array.getElem?_toList]
  exact h
theorem cps_len (z : Str) : z.cps.size = z.cps.toList.length := Array.length_toList.symm
theorem ev_lenS' {z : Str} (h : Ev te σ H (.str z)) (hz : z.length ≤ 100000) : Ev (tCB (fun xs H Q => ∃ z : Str, xs = [.str z] ∧ z.length ≤ sizeLine ∧ Q (.int z.length) H) (tCons te tNil)) σ H (.int (z.length : Int)) := ev_lenS h hz
end
section
variable {σ : L2.St} {H : Hp} {te : TE} {D : Ends} {tu tz : TS}
theorem s_forR0 {ta : TA} {j : Nat} {n : Int} (h : EvA ta σ H [.int n]) (hn : -100000 ≤ n ∧ n ≤ 100000) (Pv : Nat → L2.St → Hp → Prop) (h0 : ∀ H1, Ex H H1 → Pv 0 σ H1)
    (hs : ∀ (i : Nat) σ' H', (i : Int) < n → Pv i σ' H' → tu { D with nx := Pv (i + 1), ct := Pv (i + 1), bk := D.nx } (σ'.set j (some (.int (i : Int)))) H') (hd : ∀ σ' H', Pv n.toNat σ' H' → D.nx σ' H') : tFor (iRng1 ta) (gName j) tu D σ H :=
  h H (Ex.refl H) _ fun H1 e => ⟨n, rfl, by omega, by omega, for_range (lo := 0) (n := n.toNat) Pv (h0 H1 e) (fun i σ' H' hi p => by
    have e0 : (0 : Int) + (i : Int) = (i : Int) := Int.zero_add _
    show tu { D with nx := Pv (i + 1), ct := Pv (i + 1), bk := D.nx } (σ'.set j (some (.int ((0 : Int) + (i : Int))))) H'
    rw [e0]
    exact hs i σ' H' (by omega) p) hd⟩
theorem q_forR0 {ta : TA} {j : Nat} {n : Int} (h : EvA ta σ H [.int n]) (hn : -100000 ≤ n ∧ n ≤ 100000) (Pv : Nat → L2.St → Hp → Prop) (h0 : ∀ H1, Ex H H1 → Pv 0 σ H1)
    (hs : ∀ (i : Nat) σ' H', (i : Int) < n → Pv i σ' H' → tu { D with nx := Pv (i + 1), ct := Pv (i + 1), bk := tz D } (σ'.set j (some (.int (i : Int)))) H') (hd : ∀ σ' H', Pv n.toNat σ' H' → tz D σ' H') : tSeq (tFor (iRng1 ta) (gName j) tu) tz D σ H :=
  s_forR0 (D := { D with nx := tz D }) h hn Pv h0 hs hd
end
/-! ### texts -/
theorem str_ext {a b : Str} (h : a.cps.toList = b.cps.toList) : a = b := by
  obtain ⟨x⟩ := a
  obtain ⟨y⟩ := b
  congr 1
  exact Array.toList_inj.mp h
theorem cps_append (a b : Str) : (a ++ b).cps.toList = a.cps.toList ++ b.cps.toList := TL.tl_append a b
theorem joinL_none : ∀ ps : List (List Nat), TL.joinL [] ps = ps.flatten
  | [] => rfl
  | [p] => by simp [TL.joinL]
  | p :: q :: r => by
    show p ++ ([] ++ TL.joinL [] (q :: r)) = _
    rw [joinL_none (q :: r)]
    simp
theorem join_signs (l : List Nat) : PySem.Txt.join "" (l.map fun c => (⟨#[c]⟩ : Str)) = ⟨l.toArray⟩ := by
  apply str_ext
  rw [TL.join_eq]
  have h := TL.tl_join ("" : Str) (l.map fun c => (⟨#[c]⟩ : Str))
  refine h.trans ?_
  clear h
  rw [show TL.tl ("" : Str) = [] from rfl, joinL_none, List.map_map]
  induction l with
  | nil => rfl
  | cons a r ih =>
    rw [List.map_cons, List.flatten_cons, ih]
    rfl
theorem find_no {z : Str} {c : Nat} (h : c ∉ z.cps.toList) : PySem.Txt.find z ⟨#[c]⟩ = -1 := by
  have e := PySem.StrLaws.found_one z c
  rw [decide_eq_false h] at e
  unfold PySem.Txt.find
  cases q : PySem.Builtin.Str.occurrences z ⟨#[c]⟩ 0 z.length 1 with
  | nil => rfl
  | cons i r =>
    rw [q] at e
    cases e
theorem find_yes {z : Str} {c : Nat} (h : c ∈ z.cps.toList) : ∃ k : Nat, PySem.Txt.find z ⟨#[c]⟩ = (k : Int) ∧ k < z.length := by
  have e := PySem.StrLaws.found_one z c
  rw [decide_eq_true h] at e
  unfold PySem.Txt.find
  cases q : PySem.Builtin.Str.occurrences z ⟨#[c]⟩ 0 z.length 1 with
  | nil =>
    rw [q] at e
    cases e
  | cons i r =>
    have h2 := (PySem.StrLaws.occ_spec z ⟨#[c]⟩ 0 z.length 1 i (by rw [q]; exact List.mem_cons_self)).1
    have h3 : i + 1 ≤ z.length := h2
    exact ⟨i, rfl, by omega⟩
end Evl
end

section
set_option Elab.async false
set_option linter.all false
set_option maxRecDepth 100000
set_option maxHeartbeats 4000000
/-! a for in a generator's body -/
namespace L2
open PySem PySem.Spec PyProof.Rows GenW
/-- what a loop's code does with an exception -/
def outT (env : Env) (x : Value) : Sem PySem.Fin := (do noteFrame x env; theTreesLotGoes x : Sem Unit).bind fun _ => .raise x
section
variable {M : Model} {A : Around} {R : GenEnd} {Y : Protocol} {n : Nat} {s₀ : Shared} {c : Code} {fs : List Frame} {s : Shared} {env : Env}
theorem seg_two {α β : Type} {m : Sem α} {f : α → Sem β} {K : β → Sem PySem.Fin} {J : Value → Sem PySem.Fin} {gd : Bool → Bool} {lv : List Value → List Value}
    (h : wpAny M (A.over c fs) m (fun a s' => Seg M A R Y n s₀ c ((f a).wrap K J gd lv) fs s') (fun x s' => Seg M A R Y n s₀ c (J x) fs s') s) : Seg M A R Y n s₀ c ((m >>= f).wrap K J gd lv) fs s := by
  rw [Sem.bind_eq_wrap', Sem.wrap_wrap]
  exact seg_wrap h
theorem seg_For {tg iter : Expr} {body : List Stmt} {pos : Pos} {K : Flow → Sem PySem.Fin} {J : Value → Sem PySem.Fin} {gd : Bool → Bool} {lv : List Value → List Value}
    (h : wpAny M (A.over c fs) (eval iter env) (fun x s1 => wpAny M (A.over c fs) (pyIter x) (fun it s2 => ∀ p, Seg M A R Y n s₀ (.forLoop tg it body [] env) (M.den (.forLoop tg it body [] env))
      (.ret (fun r => ((match r with | .ok f => (.pure f : Sem Flow) | .error e => .raise e).onRaise (cameBack env)).wrap K J gd lv) none (gd false) (lv []) c p [] :: fs) s2)
      (fun x s' => Seg M A R Y n s₀ c (J x) fs s') s1) (fun x s' => Seg M A R Y n s₀ c (J x) fs s') s) (hs : ∀ x, foldedSetIterable iter env x = pure x) :
    Seg M A R Y n s₀ c ((exec (.For tg iter body [] pos) env).wrap K J gd lv) fs s := by
  rw [exec_For]
  refine seg_two (wpAny_standAt ?_)
  refine seg_two (wpAny_mono h (fun x s1 h1 => ?_) fun _ _ z => z)
  rw [hs x]
  refine seg_two (wpAny_pure ?_)
  refine seg_two (wpAny_standAt ?_)
  refine seg_two (wpAny_holding (wpAny_mono h1 (fun it s2 h2 => ?_) fun _ _ z => z))
  exact seg_call h2
end
section
variable {prog : Program} {w : World} {A : Around} {R : GenEnd} {Y : Protocol} {n : Nat} {s₀ : Shared} {fs : List Frame} {s : Shared} {env : Env}
theorem seg_forLoop {tg : Expr} {it : Value} {body : List Stmt}
    (h : wpAny (model prog w) (A.over (.forLoop tg it body [] env) fs) (pyNext it) (fun r s1 => match r with
      | none => Seg (model prog w) A R Y n s₀ (.block [] env) (.pure (.done .next)) fs s1
      | some v => wpAny (model prog w) (A.over (.forLoop tg it body [] env) fs) (letOwnedTupleGo tg it v) (fun _ s2 => wpAny (model prog w) (A.over (.forLoop tg it body [] env) fs) (assign tg env v) (fun _ s3 =>
          Seg (model prog w) A R Y n s₀ (.forLoop tg it body [] env) ((execs body env).wrap (fun f => match f with
            | .next | .cont => .pure (.again (.forLoop tg it body [] env))
            | .brk => .pure (.done .next)
            | .ret v => .pure (.done (.ret v))) (outT env) id id) fs s3)
          (fun x s' => Seg (model prog w) A R Y n s₀ (.forLoop tg it body [] env) (outT env x) fs s') s2) (fun x s' => Seg (model prog w) A R Y n s₀ (.forLoop tg it body [] env) (outT env x) fs s') s1)
      (fun x s' => Seg (model prog w) A R Y n s₀ (.forLoop tg it body [] env) (outT env x) fs s') s) :
    Seg (model prog w) A R Y n s₀ (.forLoop tg it body [] env) ((model prog w).den (.forLoop tg it body [] env)) fs s := by
  show Seg _ A R Y n s₀ _ ((forTurn tg it body [] env).onRaise (fun x => do noteFrame x env; theTreesLotGoes x)) fs s
  unfold forTurn
  rw [Sem.onRaise_eq_wrap]
  refine seg_two (wpAny_standAt ?_)
  refine seg_two (wpAny_onRaise (wpAny_mono h (fun r s1 hr => ?_) fun x s' hx => wpAny_standAt hx))
  cases r with
  | none =>
    show Seg _ A R Y n s₀ _ (.pure (.again (.block [] env))) fs s1
    exact seg_again rfl hr
  | some v =>
    refine seg_two (wpAny_mono hr (fun _ s2 h2 => ?_) fun _ _ z => z)
    refine seg_two (wpAny_mono h2 (fun _ s3 h3 => ?_) fun _ _ z => z)
    rw [Sem.bind_eq_wrap', Sem.wrap_wrap]
    rw [Sem.wrap_congr (execs body env) _ _ (K' := fun f => match f with
            | .next | .cont => .pure (.again (.forLoop tg it body [] env))
            | .brk => .pure (.done .next)
            | .ret v => .pure (.done (.ret v))) (H' := outT env) (fun f => by cases f <;> rfl) (fun e => by rfl)]
    exact h3
end
section
variable {X : Cx} {tg iter : Expr} {body : List Stmt}
def tGFor (wi : TI) (g : TG) (tb : TGn) : TGn := fun D ys σ H => wi σ H fun J H1 => ∃ W : Nat → Nat → List V → St → Hp → Prop, (∃ m, W 0 m ys σ H1) ∧ ∀ i m ys σ H, W i m ys σ H →
  (J.stop i H ∧ D.nx ys σ H) ∨ (J.go i H ∧ ∃ N : List V → St → Hp → Prop, (∀ ys' σ' H', N ys' σ' H' → ∃ m', m' < m ∧ W (i + 1) m' ys' σ' H') ∧ ∀ x H', J.yld i H x H' → g x σ H' fun σ2 H2 => tb { D with nx := N, ct := N, bk := D.nx } ys σ2 H2)
theorem gs_for {wi : TI} {g : TG} {tb : TGn} {pos : Pos} (hp : PassesOwn (model X.prog X.w) X.A X.env X.xe) (hc : X.calm = true) (hi : PI X tg iter wi) (hg : PG X tg g) (hb : GSs X body tb)
    (hs : ∀ x, foldedSetIterable iter X.env x = pure x := by intro _; rfl) : GS X (.For tg iter body [] pos) (tGFor wi g tb) := by
  refine ⟨fun A S ip R n ys s₀ c fs K J gd lv s σ H D gc hn k hI ht => ?_⟩
  obtain ⟨acc0, cc0, r0, I0⟩ := hI
  refine seg_For ?_ hs
  rw [gc.over]
  refine wpAny_mono (hi.run _ s σ H _ I0 ht) (fun v s1 h1 => ?_) fun x s' hx => k.exc n s₀ x s' hx
  refine wpAny_mono h1 (fun itv s2 h2 p => ?_) fun x s' hx => k.exc n s₀ x s' hx
  obtain ⟨it, fp, tn, Jt, H2, e, I2, T, st2, f2, W, ⟨m0, w0⟩, turn⟩ := h2
  subst e
  have nS : ∀ b ∈ fp, S ≠ b := fun b hb => (f2 b hb).2.2.2.2.2 (S, lstObj acc0 cc0) (List.mem_append_right _ List.mem_cons_self)
  have stat : ∀ {H' : Hp} {acc : Array Value} {cc : Nat}, (∀ b ∈ fp, H' b = none) → ∀ b ∈ fp, FpOk X ((S, lstObj acc cc) :: ip) H' b := fun {H' acc cc} hn b hb => by
    obtain ⟨_, f1, f3, f4, f5, f6⟩ := f2 b hb
    refine ⟨hn b hb, f1, f3, f4, f5, fun q hq => ?_⟩
    rcases List.mem_append.mp hq with z | z
    · exact f6 q (List.mem_append_left _ z)
    · rcases List.mem_cons.mp z with z | z
      · rw [z]
        exact nS b hb
      · exact f6 q (List.mem_append_right _ (List.mem_cons_of_mem _ z))
  have gl := fun (kk : Result → Sem PySem.Fin) => gc_loop (k := kk) (c' := .forLoop tg (.ref it) body [] X.env) (l := lv []) (kp := []) (p := p) gc rfl rfl
  have loop : ∀ (m n i : Nat) (ys : List V) (s₀ s : Shared) (σ : St) (H : Hp), n + ys.length = sizeLine → W i m ys σ H → GI X S ip ys σ H s → tn i s.heap → (∀ b ∈ fp, H b = none) →
      Seg (model X.prog X.w) A R (GY X S) n s₀ (.forLoop tg (.ref it) body [] X.env) ((model X.prog X.w).den (.forLoop tg (.ref it) body [] X.env))
        (.ret (fun r => ((match r with | .ok f => (.pure f : Sem Flow) | .error e => .raise e).onRaise (cameBack X.env)).wrap K J gd lv) none (gd false) (lv []) c p [] :: fs) s := by
    intro m
    induction m using Nat.strongRecOn with
    | ind m ih =>
      intro n i ys s₀ s σ H hn w hI st fr
      have ee : ∀ (n : Nat) (s₀ : Shared) (x : Value) (s' : Shared), X.xe x s' → Seg (model X.prog X.w) A R (GY X S) n s₀ (.forLoop tg (.ref it) body [] X.env) (outT X.env x)
          (.ret (fun r => ((match r with | .ok f => (.pure f : Sem Flow) | .error e => .raise e).onRaise (cameBack X.env)).wrap K J gd lv) none (gd false) (lv []) c p [] :: fs) s' := fun n s₀ x s' hx => by
        unfold outT
        rw [Sem.bind_eq_wrap]
        refine seg_wrap ?_
        rw [(gl _).over]
        refine wpAny_bind (wpAny_mono (hp x s' hx) (fun _ s'' hcb => wpAny_theTreesLotGoes ?_) fun y s'' hcb => ?_)
        · exact seg_leaf (.error x) (seg_cameBack gc k hcb)
        · exact seg_leaf (.error y) (seg_cameBack gc k hcb)
      refine seg_forLoop ?_
      rw [(gl _).over]
      obtain ⟨acc, cc, r, I⟩ := hI
      rcases turn i m ys σ H w with ⟨stop, qn⟩ | ⟨go, N, hN, step⟩
      · refine wpAny_mono (T.done X rfl rfl rfl hc i _ s σ H X.xe I (stat fr) st stop) (fun r4 s4 h4 => ?_) fun x s' hx => ee n s₀ x s' hx
        obtain ⟨hr, I4⟩ := h4
        subst hr
        exact seg_leaf (.ok .next) (k.ok n ys s₀ s4 .next hn ⟨σ, H, ⟨acc, cc, r, I4⟩, qn⟩)
      · refine wpAny_mono (T.item X rfl rfl rfl hc i _ s σ H X.xe I (stat fr) st go) (fun r4 s4 h4 => ?_) fun x s' hx => ee n s₀ x s' hx
        obtain ⟨u, hr, h4⟩ := h4
        subst hr
        refine wpAny_mono h4 (fun _ s5 h5 => ?_) fun x s' hx => ee n s₀ x s' hx
        obtain ⟨x, H5, I5, r5, y5, st5, fr5⟩ := h5
        have I5' := I5.pinned (stat fr5) (T.obj _ _ st5)
        refine wpAny_mono (hg.run _ s5 σ H5 x u _ I5' r5 (step x H5 y5)) (fun _ s6 h6 => ?_) fun x s' hx => ee n s₀ x s' hx
        obtain ⟨σ6, H6, I6, q6⟩ := h6
        have gl2 := gl (fun r => ((match r with | .ok f => (.pure f : Sem Flow) | .error e => .raise e).onRaise (cameBack X.env)).wrap K J gd lv)
        have gip : GC X S (ip ++ pinsAt fp s5.heap) A (.forLoop tg (.ref it) body [] X.env) (.ret (fun r => ((match r with | .ok f => (.pure f : Sem Flow) | .error e => .raise e).onRaise (cameBack X.env)).wrap K J gd lv) none (gd false) (lv []) c p [] :: fs) id :=
          ⟨gl2.pn, fun q hq => (List.mem_append.mp hq).elim (fun z => gl2.ip q z) fun z => fun ez => nS q.1 (of_pinsAt z).1 ez.symm, gl2.apart, gl2.over, gl2.split, gl2.guard, gl2.gd⟩
        have back : ∀ {ys' : List V} {σ7 : St} {H7 : Hp} {s7 : Shared}, GI X S (ip ++ pinsAt fp s5.heap) ys' σ7 H7 s7 → GI X S ip ys' σ7 H7 s7 ∧ tn (i + 1) s7.heap ∧ ∀ b ∈ fp, H7 b = none := fun {ys' σ7 H7 s7} h => by
          obtain ⟨acc7, cc7, r7, I7⟩ := h
          have pin7 : ∀ b ∈ fp, ∀ o, s5.heap.get? b = some o → s7.heap.get? b = some o ∧ H7 b = none := fun b hb o e =>
            let z := I7.pin (b, o) (List.mem_append_right _ (List.mem_cons_of_mem _ (List.mem_append_right _ (mem_pinsAt hb e))))
            ⟨z.1, z.2.1⟩
          refine ⟨⟨acc7, cc7, r7, I7.pins_of fun q hq => I7.pin q (List.mem_append_right _ ?_)⟩, T.keep _ _ _ st5 fun b hb o e => (pin7 b hb o e).1, fun b hb => ?_⟩
          · rcases List.mem_cons.mp hq with z | z
            · rw [z]
              exact List.mem_cons_self
            · exact List.mem_cons_of_mem _ (List.mem_append_left _ z)
          · obtain ⟨o, e, _⟩ := T.obj _ _ st5 b hb
            exact (pin7 b hb o e).2
        refine hb.run A S (ip ++ pinsAt fp s5.heap) R n ys s₀ _ _ _ _ id id s6 σ6 H6 { D with nx := N, ct := N, bk := D.nx } gip hn ⟨fun n' ys' s₀' s7 f hn' hq => ?_, fun n' s₀' x s3 hx => ee n' s₀' x s3 hx⟩ ⟨acc, cc, r, I6⟩ q6
        cases f with
        | next =>
          obtain ⟨σ7, H7, I7, n7⟩ := hq
          obtain ⟨b1, b2, b3⟩ := back I7
          obtain ⟨m', hm, w7⟩ := hN ys' σ7 H7 n7
          exact seg_again rfl (ih m' hm n' (i + 1) ys' s₀' s7 σ7 H7 hn' w7 b1 b2 b3)
        | cont =>
          obtain ⟨σ7, H7, I7, n7⟩ := hq
          obtain ⟨b1, b2, b3⟩ := back I7
          obtain ⟨m', hm, w7⟩ := hN ys' σ7 H7 n7
          exact seg_again rfl (ih m' hm n' (i + 1) ys' s₀' s7 σ7 H7 hn' w7 b1 b2 b3)
        | brk =>
          obtain ⟨σ7, H7, I7, q7⟩ := hq
          exact seg_leaf (.ok .next) (k.ok n' ys' s₀' s7 .next hn' ⟨σ7, H7, (back I7).1, q7⟩)
        | ret v =>
          obtain ⟨x7, σ7, H7, I7, r7, q7⟩ := hq
          exact seg_leaf (.ok (.ret v)) (k.ok n' ys' s₀' s7 (.ret v) hn' ⟨x7, σ7, H7, (back I7).1, r7, q7⟩)
  exact loop m0 n 0 ys s₀ s2 σ H2 hn w0 ⟨acc0, cc0, r0, I2⟩ st2 fun b hb => (f2 b hb).1
theorem gfor_range {lo : Int} {n : Nat} {g : TG} {tb : TGn} {D : GEnds} {ys : List V} {σ : St} {H : Hp} (Pv : Nat → List V → St → Hp → Prop) (h0 : Pv 0 ys σ H)
    (hs : ∀ i ys σ H, i < n → Pv i ys σ H → g (.int (lo + i)) σ H fun σ2 H2 => tb { D with nx := Pv (i + 1), ct := Pv (i + 1), bk := D.nx } ys σ2 H2) (hd : ∀ ys σ H, Pv n ys σ H → D.nx ys σ H) :
    ∃ W : Nat → Nat → List V → St → Hp → Prop, (∃ m, W 0 m ys σ H) ∧ ∀ i m ys σ H, W i m ys σ H →
      ((Itr lo n).stop i H ∧ D.nx ys σ H) ∨ ((Itr lo n).go i H ∧ ∃ N : List V → St → Hp → Prop, (∀ ys' σ' H', N ys' σ' H' → ∃ m', m' < m ∧ W (i + 1) m' ys' σ' H') ∧ ∀ x H', (Itr lo n).yld i H x H' → g x σ H' fun σ2 H2 => tb { D with nx := N, ct := N, bk := D.nx } ys σ2 H2) := by
  refine ⟨fun i m ys σ H => m = n - i ∧ i ≤ n ∧ Pv i ys σ H, ⟨n, by simp, Nat.zero_le _, h0⟩, ?_⟩
  rintro i m ys σ H ⟨rfl, hi, p⟩
  by_cases hlt : i < n
  · refine .inr ⟨hlt, Pv (i + 1), fun ys' σ' H' p' => ⟨n - (i + 1), by omega, rfl, hlt, p'⟩, fun x H' y => ?_⟩
    obtain ⟨e, y⟩ := y
    subst e y
    exact hs i ys σ _ hlt p
  · have e : i = n := by omega
    subst e
    exact .inl ⟨Nat.le_refl _, hd ys σ H p⟩
end
end L2
end

section
set_option Elab.async false
set_option linter.all false
set_option maxRecDepth 100000
set_option maxHeartbeats 4000000
/-! the special methods of an own class, called by len, abs, [] -/
namespace GrO
open PySem PySem.Spec PyProof.Rows L2
section
variable {X : Cx} {CX : CXT} {k : Nat} {C f : Addr} {fd : FuncData} {ps : List Str} {sp : Sp} {E : XK}
/-- a def run with values at hand, where what it raises may leave -/
theorem run_own {pins : List (Addr × Obj)} {s : Shared} {σ : L2.St} {H : Hp} {A : Around} {us : List Value} {vs : List V} {Q : VK} (I : Inv X pins σ H s) (hA : A = X.A ∨ A = X.A.in1)
    (F : FnOk X.prog X.w X.K X.mg X.base CX k f fd ps sp) (hr : Room (k + 1) X.A) (hb : Binds X.K fd ps []) (hx : Passes CX X E) (r : Vals vs us) (h : sp vs H Q E) :
    wpAny (model X.prog X.w) A (call (.ref f) us) (EP X pins σ Q) X.xe s := by
  have hl : us.length = ps.length := by rw [← F.len _ _ _ _ h, r.length]
  have hb' := hb s us I.kIn (by simpa using hl)
  have e1 : us ++ ([] : List Value) = us := List.append_nil us
  rw [e1] at hb'
  rcases hA with rfl | rfl
  · refine wpAny_call (codeAny_mono (F.run X.A X.stack s H ⟨us, []⟩ us vs Q E (hr.mono (Nat.le_succ k)) I.env0 hb' r h) fun r s' hq => ?_)
    cases r with
    | error e => exact hx pins σ H s e s' I hq
    | ok fl =>
      cases fl with
      | ret w => exact I.after hq
      | next => exact False.elim hq
      | brk => exact False.elim hq
      | cont => exact False.elim hq
  · refine wpAny_call (codeAny_mono (F.run X.A.in1 X.stack s H ⟨us, []⟩ us vs Q E hr.in1 I.env0.in1 hb' r h) fun r s' hq => ?_)
    cases r with
    | error e => exact hx pins σ H s e s' I hq
    | ok fl =>
      cases fl with
      | ret w => exact I.after hq
      | next => exact False.elim hq
      | brk => exact False.elim hq
      | cont => exact False.elim hq
/-- len(o) by the class's own __len__ -/
def rLenO (C : Addr) (sp : Sp) (E : XK) : List V → Hp → VK → Prop := fun xs H Q => ∃ a dx fs, xs = [.ref a] ∧ H a = some (.ins C dx fs) ∧ sp [.ref a] H (fun v H' => ∃ n : Nat, v = .int (n : Int) ∧ n < 100000000 ∧ Q (.int (n : Int)) H') E
theorem call_lenO (F : FnOk X.prog X.w X.K X.mg X.base CX k f fd ps sp) (hs : PySem.W.findIn X.K (.ref C) "__len__" = some (some (.ref f))) (hf : PySem.W.isFn X.K (.ref f) = true) (hb : Binds X.K fd ps []) (hr : Room (k + 1) X.A) (hx : Passes CX X E) :
    CallR X (.builtin "len") (rLenO C sp E) := by
  intro pins s σ H xs us Q I r h
  obtain ⟨a, dx, fs, rfl, ea, h⟩ := h
  obtain ⟨u, rfl, ru⟩ := vals1 r
  obtain rfl : u = Value.ref a := ru
  obtain ⟨mA, O, _, _, _, _⟩ := ins_get I.hok ea
  obtain ⟨od, J, _⟩ := O.look
  obtain ⟨m, hF⟩ := I.fr
  refine PySem.W.len_K hF I.ok.mod.kin J hs hf (wpAny_mono (run_own (us := [.ref a]) (vs := [.ref a]) I (Or.inr rfl) F hr hb hx (.cons rfl .nil) h) (fun v s' q => ?_) fun _ _ x => x)
  obtain ⟨x, H', I', rv, n, rfl, hn, q⟩ := q
  obtain ⟨t, rfl⟩ := rv
  refine ⟨⟨by omega, by omega⟩, .int (n : Int), H', I'.tok _, ⟨_, rfl⟩, q⟩
/-- abs(o) by the class's own __abs__ -/
def rAbsO (C : Addr) (sp : Sp) (E : XK) : List V → Hp → VK → Prop := fun xs H Q => ∃ a dx fs, xs = [.ref a] ∧ H a = some (.ins C dx fs) ∧ sp [.ref a] H Q E
theorem call_absO (F : FnOk X.prog X.w X.K X.mg X.base CX k f fd ps sp) (hs : PySem.W.findIn X.K (.ref C) "__abs__" = some (some (.ref f))) (hf : PySem.W.isFn X.K (.ref f) = true) (hb : Binds X.K fd ps []) (hr : Room (k + 1) X.A) (hx : Passes CX X E) :
    CallR X (.builtin "abs") (rAbsO C sp E) := by
  intro pins s σ H xs us Q I r h
  obtain ⟨a, dx, fs, rfl, ea, h⟩ := h
  obtain ⟨u, rfl, ru⟩ := vals1 r
  obtain rfl : u = Value.ref a := ru
  obtain ⟨mA, O, _, _, _, _⟩ := ins_get I.hok ea
  obtain ⟨od, J, _⟩ := O.look
  refine PySem.Calls.call_function_entry kind_abs plain_abs entry_abs (args_abs _) ?_
  unfold Builtin.«abs»
  refine wpAny_bind (m := oneArg "abs" _) (wpAny_pure ?_)
  refine wpAny_bind (m := callSpecial? (.ref a) (Str.ofString "__abs__")) (PySem.W.special_fn I.kIn J hs (beq_iff_eq.mp hf) (wpAny_mono (run_own (us := [.ref a]) (vs := [.ref a]) I (Or.inr rfl) F hr hb hx (.cons rfl .nil) h) (fun v s' q => ?_) fun _ _ x => x))
  exact wpAny_pure ⟨_, rfl, q⟩
/-- o[i] by the class's own __getitem__ -/
def rIxO (C : Addr) (sp : Sp) (E : XK) : R2 := fun x y H Q => ∃ a dx fs, x = .ref a ∧ H a = some (.ins C dx fs) ∧ sp [.ref a, y] H Q E
theorem pe_ixO {a b : Expr} {ta tb : TE} {pos : Pos} (F : FnOk X.prog X.w X.K X.mg X.base CX k f fd ps sp) (hs : PySem.W.findIn X.K (.ref C) "__getitem__" = some (some (.ref f))) (hf : PySem.W.isFn X.K (.ref f) = true) (hfn : PySem.W.fnIn X.K f = true) (hb : Binds X.K fd ps []) (hr : Room (k + 1) X.A) (hx : Passes CX X E)
    (pa : PE X a ta) (pb : PE X b tb) (hsl : ∀ v u, subscripted b true v u = runValue (.builtin "lifetime.subscript" ⟨[v, u], []⟩) := by intro _ _; with_unfolding_all rfl) :
    PE X (.Subscript a b pos) (tOp (rIxO C sp E) ta tb) := by
  refine ⟨fun pins s σ H Q I h => ?_⟩
  refine Subscript_ (binT pa pb I h fun v u s2 x y H2 I2 rx ry q => ?_)
  obtain ⟨p, dx, fs, rfl, ea, q⟩ := q
  cases rx
  obtain ⟨mA, O, _, _, _, _⟩ := ins_get I2.hok ea
  obtain ⟨od, J, _⟩ := O.look
  obtain ⟨m, hF⟩ := I2.fr
  exact PySem.W.sub_K hF I2.ok.mod.kin J hs hfn hf (run_own (us := [.ref p, u]) (vs := [.ref p, y]) I2 (Or.inr rfl) F hr hb hx (.cons rfl (.cons ry .nil)) q) (hsl _ _)
theorem no_ni : ∀ {z : V}, RelV z .notImplemented → False
  | .non, h => Value.noConfusion h
  | .bl _, h => Value.noConfusion h
  | .int _, ⟨_, h⟩ => Value.noConfusion h
  | .str _, ⟨_, h⟩ => Value.noConfusion h
  | .byt _, ⟨_, h⟩ => Value.noConfusion h
  | .flt _, ⟨_, h⟩ => Value.noConfusion h
  | .ref _, h => Value.noConfusion h
  | .ty _, h => Value.noConfusion h
/-- o == p, o < p, .. by the class's own method, p of the same class -/
def rCmpO (C : Addr) (sp : Sp) (E : XK) : R2 := fun x y H Q => ∃ a b dx dy fs gs, x = .ref a ∧ y = .ref b ∧ H a = some (.ins C dx fs) ∧ H b = some (.ins C dy gs) ∧ sp [x, y] H Q E
theorem op_cmpO {op : CmpOp} (F : FnOk X.prog X.w X.K X.mg X.base CX k f fd ps sp) (hs : PySem.W.findIn X.K (.ref C) (cmpInfo op).2.1 = some (some (.ref f))) (hf : PySem.W.isFn X.K (.ref f) = true) (hb : Binds X.K fd ps []) (hr : Room (k + 1) X.A) (hx : Passes CX X E)
    (hop : ∀ v u, compareOp op v u = richCompare op v u := by intro _ _; rfl) : OpR X (compareOp op) (rCmpO C sp E) := by
  intro pins s σ H x y v u Q I rx ry h
  obtain ⟨a, b, dx, dy, fs, gs, rfl, rfl, ha, hb2, q⟩ := h
  cases rx
  cases ry
  obtain ⟨mA, J, _⟩ := ins_get I.hok ha
  obtain ⟨mB, J', _⟩ := ins_get I.hok hb2
  obtain ⟨od, J, _⟩ := J.look
  obtain ⟨od', J', _⟩ := J'.look
  obtain ⟨m, hF⟩ := I.fr
  rw [hop]
  refine PySem.W.cmp_K (op := op) (tb := .ref C) hr.units0 hF I.ok.mod.kin J J'.type (by simp [PySem.W.notFirst]) hs hf (wpAny_mono (run_own (us := [.ref a, .ref b]) (vs := [.ref a, .ref b]) I (Or.inl rfl) F hr hb hx (.cons rfl (.cons rfl .nil)) q) (fun v s' q => ?_) fun _ _ x => x)
  obtain ⟨z, H', I', rv, q⟩ := q
  cases v <;> first | exact ⟨z, H', I', rv, q⟩ | exact no_ni rv
end
section
variable {X : Cx}
/-- xs[a:c] = ys, another list -/
def gSl (to : TE) (tl th : TO) : TG := fun v σ H Q => to σ H fun x H1 => tl σ H1 fun lo H2 => th σ H2 fun hi H3 => ∃ (l b : Addr) (xs ys : List V) (i j : Int), x = .ref l ∧ v = .ref b ∧ lo = some i ∧ hi = some j ∧ H3 l = some (.lst xs) ∧ H3 b = some (.lst ys) ∧ l ≠ b ∧ 0 ≤ i ∧ i ≤ j ∧ j ≤ xs.length ∧ xs.length + ys.length ≤ sizeLine ∧
  Q σ (upd H3 l (.lst (xs.take i.toNat ++ ys ++ xs.drop j.toNat)))
theorem pg_slice {o : Expr} {lo hi : Option Expr} {to : TE} {tl th : TO} {p2 pos : Pos} (ho : PE X o to) (hl : PO X lo tl) (hu : PO X hi th)
    (ha : ∀ v, assign (.Subscript o (.Slice lo hi none p2) pos) X.env v = (do
      let ov ← holding [v] (eval o X.env)
      let iv ← holding [v, ov] (eval (.Slice lo hi none p2) X.env)
      standAt pos
      holding [v, ov, iv] (setItem ov iv v)
      release [iv, v, ov] []) := by intro _; rfl) : PG X (.Subscript o (.Slice lo hi none p2) pos) (gSl to tl th) := by
  refine ⟨fun pins s σ H v u Q I r h => ?_⟩
  rw [ha]
  refine wpAny_bind (wpAny_holding (thn (ho.run pins s σ H _ I h) fun ov s1 ⟨x, H1, I1, r1, q1⟩ => ?_))
  refine wpAny_bind (wpAny_holding (wpAny_Slice (thn (hl.run pins s1 σ H1 _ I1 q1) fun vl s2 ⟨l, H2, I2, pl, q2⟩ => thn (hu.run pins s2 σ H2 _ I2 q2) fun vu s3 ⟨c, H3, I3, pu, q3⟩ => ?_)))
  rw [evalPart_none]
  refine wpAny_pure ?_
  have I4 : Inv X pins σ H3 { s3 with heap := s3.heap.push { cls := .type "slice", data := .fields #[vl, vu, .none] } } := I3.kept (t' := s3.toks) fun b ob q => Heap.get?_push_of_some _ q
  obtain ⟨la, b, xs, ys, i, j, rfl, rfl, rfl, rfl, h1, h2, hne, h0, hij, hj, hz, q⟩ := q3
  cases r1
  cases r
  cases pl
  cases pu
  refine wpAny_bind (wpAny_standAt (wpAny_bind (wpAny_holding (set_slice I4 h1 h2 hne (Heap.IsSliceOf.new ..) ⟨_, rfl⟩ ⟨_, rfl⟩ h0 hij hj hz fun s' I5 => ?_))))
  exact wpAny_release ⟨σ, _, I5, q⟩
end
end GrO
end

section
set_option Elab.async false
set_option linter.all false
set_option maxRecDepth 100000
set_option maxHeartbeats 4000000
/-! iter(tuple); for over an own object whose __iter__ gives a tuple's iterator -/
namespace GrO
open PySem PySem.Spec PyProof.Rows L2 ItX
def ItTO (t it : Addr) (i : Nat) : HO := .ext fun h => h.IsTupleIter it t i
theorem itTO_ok {P : Program} {w : World} {H : Hp} {h : Heap} {t it : Addr} {i : Nat} (e : h.IsTupleIter it t i) : ObjOk P w H h it (ItTO t it i) := ⟨e, ⟨_, e.choose_spec.1⟩, fun _ _ q k => q.at k⟩
section
variable {prog : Program} {w : World} {A : Around} {E : Value → Shared → Prop} {s : Shared} {t : Addr} {items : Array Value}
theorem call_iter_tup {Q : Value → Shared → Prop} (ht : s.heap.IsTuple t items) (h : Q (.ref s.heap.objs.size) { s with heap := s.heap.push { cls := .type "tuple_iterator", data := .fields #[.ref t, .int 0 0] } }) :
    wpAny (model prog w) A (call (.builtin "iter") [.ref t]) Q E s := by
  refine Calls.call_function_entry (by decide +kernel) (by decide +kernel) PySem.W.kdk_entry_iter (PySem.W.kdk_args_iter _) ?_
  unfold Builtin.«iter»
  refine wpAny_bind (m := someArgs "iter" 1 2 _) (wpAny_of_eq (a := [Value.ref t]) (by first | rfl | kernel_rfl!) ?_)
  show wpAny _ _ (pyIter (.ref t) >>= _) _ _ _
  refine wpAny_bind (wpAny_pyIter_tuple ht ?_)
  exact wpAny_pure ⟨_, rfl, h⟩
end
section
variable {X : Cx}
def rIterT (K : PySem.W.Frag) : List V → Hp → VK → Prop := fun xs H Q => ∃ (t : Addr) (zs : List V), xs = [.ref t] ∧ SqT K H t zs ∧ ∀ it, H it = none → Q (.ref it) (upd H it (ItTO t it 0))
theorem call_iterT : CallR X (.builtin "iter") (rIterT X.K) := by
  intro pins s σ H xs us Q I r h
  obtain ⟨t, zs, rfl, hq, q⟩ := h
  obtain ⟨u, rfl, ru⟩ := vals1 r
  cases ru
  obtain ⟨its, rv, p, hz⟩ := I.tuple hq
  refine call_iter_tup (show s.heap.IsTuple t its.toArray from p) ?_
  exact ⟨.ref s.heap.objs.size, _, I.laid (t' := s.toks) (fun b u e => Heap.get?_push_of_some _ e) (Nat.le_refl _) (itTO_ok ⟨_, Heap.get?_push_size _ rfl, rfl, rfl⟩), rfl, q _ (I.hok.fresh (Nat.le_refl _))⟩
end
section
variable {X : Cx} {CX : CXT} {k : Nat} {C f : Addr} {fd : FuncData} {ps : List Str} {sp : Sp} {E : XK}
/-- a promise that may speak of the number of objects at its call -/
def FnN (P : Program) (w : World) (K : PySem.W.Frag) (mg : Str → Option Value) (base : Heap) (CX : CXT) (k : Nat) (f : Addr) (fd : FuncData) (ps : List Str) (sp : Nat → Sp) : Prop :=
  ∀ (A : Around) (up : List Env) (s : Shared) (H : Hp) (ar : Args) (us : List Value) (vs : List V) (Q : VK) (E : XK), Room k A → Env0 P w K mg base A up s H → BindsTo s fd ar (ps.zip us) → Vals vs us → vs.length = ps.length → sp s.heap.objs.size vs H Q E →
    codeAny (model P w) A (.call (.ref f) ar) (CR CX up P w H s Q E) s
theorem fn_N {P : Program} {w : World} {mg : Str → Option Value} {base : Heap} {K : PySem.W.Frag} {nm ql : Str} {pr : Arguments} {bd : List Stmt} {sc : Scope} {dV kV dc pm cd ct oc : Value} {an od : Option Addr} {sl : Array (Option Value)} {N : List Str} {spN : Nat → Sp}
    (lk : K.lookup f = some ⟨oc, od, .func (PySem.W.fnOf nm ql pr bd sc dV kV dc pm an cd ct), sl⟩) (hc : PySem.W.codeIn K cd ql = true) (S : FnScope N ps sc)
    (rd : ∀ (A : Around) (up : List Env) (s : Shared) (H : Hp) (vs : List V) (Q : VK) (E : XK), Room k (A.deeper (envOfC ql sc s.heap.objs.size f cd)) → spN s.heap.objs.size vs H Q E →
      ∃ t, PSs (cxOf CX P w K mg base N ql sc f cd A up s H E) bd t ∧ t { nx := fun _ H1 => Q .non H1, rt := Q } (start N vs) H) :
    FnN P w K mg base CX (k + 1) f (PySem.W.fnOf nm ql pr bd sc dV kV dc pm an cd ct) ps spN := by
  intro A up s H ar us vs Q E hr e0 hb r hl q
  have held : ∀ (b : Addr) (o : Obj), base.get? b = some o → s.heap.get? b = some o := fun b o e => (e0.bs b o e).1
  have KX := e0.mod.kin.keeps held
  have kinds : ∀ y ∈ ps.zip us, sc.names.lookup y.1 = some .local ∨ (sc.names.lookup y.1 = some .cell ∧ ((cellsFrom (s.heap.objs.size + 1) sc.names []).lookup y.1).isSome = true) := by
    intro y hy
    cases y with
    | mk n v =>
      exact (S.par n (List.of_mem_zip hy).1).elim Or.inl fun z => Or.inr ⟨z, PySem.W.cellsFrom_some _ _ _ (Or.inl z)⟩
  apply codeAny_call_function hr.depth (KX _ _ lk) rfl S.co S.gen rfl (PySem.W.codeRec_of KX hc)
  apply hb
  apply wpAny_newFunctionEnv_cells S.kind kinds
  intro env he s1 x
  cases he
  refine ⟨(e0.mod.nolimit.keeps held).keeps x.toInCall.keep, codeAny_func ?_⟩
  obtain ⟨t, pt, rt⟩ := rd A up s H vs Q E (hr.deeper _) q
  have I := inv_start (CX := CX) (E := E) S hr.hd e0 hl r x
  refine wpAny_mono (pt.run [] s1 (start N vs) H _ I rt) (fun fl s2 e => ?_) fun _ _ z => z
  cases fl with
  | ret u =>
    obtain ⟨v, _, H2, J, rv, z⟩ := e
    exact ⟨v, H2, J.os, J.bare, J.base, J.hok, rv, z⟩
  | next =>
    obtain ⟨_, H2, J, z⟩ := e
    exact ⟨.non, H2, J.os, J.bare, J.base, J.hok, rfl, z⟩
  | brk => exact (e.choose_spec.choose_spec.2).elim
  | cont => exact (e.choose_spec.choose_spec.2).elim
end
section
variable {X : Cx} {CX : CXT} {k : Nat} {C f : Addr} {fd : FuncData} {ps : List Str} {E : XK} {fld : Str}
def rIterTN (K : PySem.W.Frag) (n : Nat) : List V → Hp → VK → Prop := fun xs H Q => ∃ (t : Addr) (zs : List V), xs = [.ref t] ∧ SqT K H t zs ∧ ∀ it, H it = none → n ≤ it → Q (.ref it) (upd H it (ItTO t it 0))
theorem call_iterTN : CallR X (.builtin "iter") (rIterTN X.K X.s_0.heap.objs.size) := by
  intro pins s σ H xs us Q I r h
  obtain ⟨t, zs, rfl, hq, q⟩ := h
  obtain ⟨u, rfl, ru⟩ := vals1 r
  cases ru
  obtain ⟨its, rv, p, hz⟩ := I.tuple hq
  refine call_iter_tup (show s.heap.IsTuple t its.toArray from p) ?_
  exact ⟨.ref s.heap.objs.size, _, I.laid (t' := s.toks) (fun b u e => Heap.get?_push_of_some _ e) (Nat.le_refl _) (itTO_ok ⟨_, Heap.get?_push_size _ rfl, rfl, rfl⟩), rfl, q _ (I.hok.fresh (Nat.le_refl _)) I.sz⟩
/-- def __iter__(self): return iter(self.fld) -/
def spIter (K : PySem.W.Frag) (C : Addr) (fld : Str) (n : Nat) : Sp := fun vs H Q _ => ∃ (a dx : Addr) (fs : List (Str × V)) (t : Addr) (zs : List V), vs = [.ref a] ∧ H a = some (.ins C dx fs) ∧ fs.lookup fld = some (.ref t) ∧ SqT K H t zs ∧ ∀ it, H it = none → n ≤ it → Q (.ref it) (upd H it (ItTO t it 0))
/-- for .. in o, by such an __iter__ -/
def iOwnI (K : PySem.W.Frag) (C : Addr) (fld : Str) (te : TE) : TI := fun σ H R => te σ H fun x H1 => ∃ (a dx : Addr) (fs : List (Str × V)) (t : Addr) (zs : List V), x = .ref a ∧ H1 a = some (.ins C dx fs) ∧ fs.lookup fld = some (.ref t) ∧ SqT K H1 t zs ∧ R (Itt K t) H1
theorem pi_ownI {tg e : Expr} {te : TE} (he : PE X e te) (F : FnN X.prog X.w X.K X.mg X.base CX k f fd ["self"] (spIter X.K C fld)) (hs : PySem.W.findIn X.K (.ref C) "__iter__" = some (some (.ref f))) (hf : PySem.W.isFn X.K (.ref f) = true) (hb : Binds X.K fd ["self"] []) (hr : Room k X.A) (hx : Passes CX X E0) :
    PI X tg e (iOwnI X.K C fld te) := by
  refine ⟨fun pins s σ H R I h => ?_⟩
  refine thn (he.run pins s σ H _ I h) fun v s1 ⟨x, H1, I1, r1, q1⟩ => ?_
  obtain ⟨a, dx, fs, t, zs, rfl, ea, hl, hq, q⟩ := q1
  cases r1
  obtain ⟨mA, O, _, _, _, _⟩ := ins_get I1.hok ea
  obtain ⟨od, J, _⟩ := O.look
  obtain ⟨m, hF⟩ := I1.fr
  have hb' := hb s1 [.ref a] I1.kIn rfl
  refine PySem.W.owit_iter hF I1.ok.mod.kin J hs hf ?_
  refine wpAny_call (codeAny_mono (F X.A X.stack s1 H1 ⟨[.ref a], []⟩ [.ref a] [.ref a] (fun v H2 => ∃ it, v = .ref it ∧ H1 it = none ∧ s1.heap.objs.size ≤ it ∧ H2 = upd H1 it (ItTO t it 0)) E0 hr I1.env0 hb' (.cons rfl .nil) rfl ⟨a, dx, fs, t, zs, rfl, ea, hl, hq, fun it hn hz => ⟨it, rfl, hn, hz, rfl⟩⟩) fun r s2 hq2 => ?_)
  cases r with
  | error e => exact hx pins σ H1 s1 e s2 I1 hq2
  | ok fl =>
    cases fl with
    | ret w =>
      obtain ⟨v, H2, I2, rv, it, rfl, hn, hz, rfl⟩ := I1.after hq2
      cases rv
      have hi : (upd H1 it (ItTO t it 0)) it = some (ItTO t it 0) := upd_same
      have st : s2.heap.IsTupleIter it t 0 := (I2.hok it _ hi).1
      refine wpAny_specialOf (name := Str.ofString "__next__") st.typeIs PySem.F.slot_tuple_iterator_next.lookup ?_
      have I3 := inv_drop I2 hi
      have fp := inv_fp I2 hi (Nat.le_trans I1.sz hz)
      rw [dropH_upd hn] at I3 fp
      refine ⟨it, [it], _, _, H1, rfl, I3, turn_tuple t it, st, fun b hb => ?_, q⟩
      have e : b = it := by simpa using hb
      rw [e]
      exact fp
    | next => exact False.elim hq2
    | brk => exact False.elim hq2
    | cont => exact False.elim hq2
end
section
variable {X : Cx} {CX : CXT} {k : Nat} {f C : Addr} {fd : FuncData} {ps : List Str} {sp : Sp} {dvs : List V} {ds : List Value} {E : L2.St → XK}
/-- a new instance, where what its making raises is wished for at the caller's slots -/
theorem run_mkS {pins : List (Addr × Obj)} {σ : L2.St} {H : Hp} {s : Shared} {Q : VK} {us : List Value} {vs : List V} (mk : Mk X.K C f) (fo : FnOk X.prog X.w X.K X.mg X.base CX k f fd ps sp) (room : Room (k + 1) X.A) (bi : Binds X.K fd ps ds) (dv : Vals dvs ds)
    (px : PassesAt CX X σ (E σ)) (inv : Inv X pins σ H s) (va : Vals vs us)
    (want : ∀ x dx, H x = none → H dx = none → dx ≠ x → sp (.ref x :: (vs ++ dvs)) (upd (upd H dx (.own x)) x (.ins C dx [])) (fun v H2 => v = .non ∧ Q (.ref x) H2) (E σ)) :
    wpAny (model X.prog X.w) X.A (call (.ref C) us) (EP X pins σ Q) X.xe s := by
  have q0 := want (s.heap.objs.size + 1) s.heap.objs.size (inv.hok.fresh (Nat.le_succ _)) (inv.hok.fresh (Nat.le_refl _)) (Nat.ne_of_lt (Nat.lt_succ_self _))
  have made := Inv.made (C := C) inv
  have all : Vals (V.ref (s.heap.objs.size + 1) :: (vs ++ dvs)) (Value.ref (s.heap.objs.size + 1) :: (us ++ ds)) := .cons rfl (va.append dv)
  have len : (Value.ref (s.heap.objs.size + 1) :: us ++ ds).length = ps.length := (fo.len _ _ _ _ q0).symm.trans all.length |>.symm
  have bind := bi _ (Value.ref (s.heap.objs.size + 1) :: us) made.kIn len
  have run := fo.run _ X.stack _ _ ⟨Value.ref (s.heap.objs.size + 1) :: us, []⟩ (Value.ref (s.heap.objs.size + 1) :: (us ++ ds)) _ _ (E σ) (room.make C us []) (made.env0.make C us []) bind all q0
  apply wpAny_call
  apply make_map (f := f) inv.kIn mk.makes mk.init (beq_iff_eq.mp mk.fn)
  refine codeAny_mono run fun r s2 hq => ?_
  cases r with
  | error e => exact px pins _ _ e s2 made hq
  | ok fl =>
    cases fl with
    | ret u =>
      obtain ⟨v, H2, I3, rv, rfl, q3⟩ := made.after hq
      exact ⟨rv, V.ref (s.heap.objs.size + 1), H2, I3, rfl, q3⟩
    | next => exact hq.elim
    | brk => exact hq.elim
    | cont => exact hq.elim
def tMkS (C : Addr) (sp : Sp) (dvs : List V) (E : L2.St → XK) (t : TA) : TE := fun σ H Q => t σ H fun vs H1 => ∀ x dx, H1 x = none → H1 dx = none → dx ≠ x → sp (.ref x :: (vs ++ dvs)) (upd (upd H1 dx (.own x)) x (.ins C dx [])) (fun v H2 => v = .non ∧ Q (.ref x) H2) (E σ)
theorem pe_makeS {x : Str} {p pos : Pos} {e : Expr} {es : List Expr} {t : TA} (mk : Mk X.K C f) (fo : FnOk X.prog X.w X.K X.mg X.base CX k f fd ps sp) (room : Room (k + 1) X.A) (gl : Gl X x) (hm : X.mg x = some (.ref C)) (bi : Binds X.K fd ps ds) (dv : Vals dvs ds) (px : ∀ σ, PassesAt CX X σ (E σ))
    (ar : PA X (e :: es) t) (nd : (x == ("__debug__" : Str)) = false := by decide) (se : starEach (e :: es) X.env = (false, eval e X.env) :: starEach es X.env := by rfl) (np : (backTo pos (starEach es X.env)).any (·.1) = false := by rfl) :
    PE X (.Call (.Name x p) (e :: es) [] pos) (tMkS C sp dvs E t) := by
  constructor
  intro pins s σ H Q I h
  apply wpAny_Call_Name_kw (ld_glob I gl hm _ nd)
  exact PySem.W.callWith_K (h₀ := X.base) I.ok.mod.kin mk.kp (thn (ar.run pos pins s σ H _ I h) fun us s1 ⟨vs, H1, I1, r, q⟩ => ⟨I1.kIn, run_mkS mk fo room bi dv (px σ) I1 r q⟩) se np
end
end GrO
end

section
set_option Elab.async false
set_option linter.all false
set_option maxRecDepth 100000
set_option maxHeartbeats 4000000
/-! enumerate(tuple), walked -/
namespace PySem
open Sem (wp)
open AutoSeq1 (wpAny_loadPart')
theorem enumT_new (t : Addr) (its : Array Value) (o : Obj) (hc : o.cls = .type "tuple") (hd : ∃ n, o.data = .seq its n) :
    Meets (Builtin.«enumerate.__new__» ⟨[.type "enumerate", .ref t], []⟩) (fun _ R s => s.heap.get? t = some o ∧
      R (.ok (.ret (.ref (s.heap.push { cls := .type "tuple_iterator", data := .fields #[.ref t, .int 0 0] }).objs.size)))
        { s with heap := (s.heap.push { cls := .type "tuple_iterator", data := .fields #[.ref t, .int 0 0] }).push { cls := .type "enumerate", data := .fields #[.none, .bool false, .ref s.heap.objs.size, rawInt 0, .none, .none] } }) :=
  .of_wp fun prog w A R s h => by
    obtain ⟨n, hd⟩ := hd
    obtain ⟨hp, g, d, tk, os⟩ := s
    obtain ⟨ht, h⟩ := h
    have hsub := sub_enumerate
    have hT : Heap.IsTuple (Shared.heap ⟨hp, g, d, tk, os⟩) t its := ⟨_, ht, hc, n, hd⟩
    wp_walk using wpAny_loadPart' ht
    refine wpAny_stack_any fun st => wpAny_pure ?_
    split
    · rename_i c _ _ _ _ _
      cases (c == Value.type "enumerate")
      all_goals
        wp_walk using wpAny_loadPart' ht, wpAny_pyIter_tuple hT
        exact ⟨_, rfl, h⟩
    · wp_walk using wpAny_loadPart' ht, wpAny_pyIter_tuple hT
      exact ⟨_, rfl, h⟩
section
variable {prog : Program} {w : World} {A : Around} {E : Value → Shared → Prop} {s : Shared}
theorem call_enumT {t : Addr} {its : Array Value} {Q : Value → Shared → Prop} (hT : s.heap.IsTuple t its)
    (h : ∀ h', IsEnum h' (s.heap.objs.size + 1) s.heap.objs.size 0 .none → h'.IsTupleIter s.heap.objs.size t 0 → h'.objs.size = s.heap.objs.size + 2 →
      (∀ b o, s.heap.get? b = some o → h'.get? b = some o) → Q (.ref (s.heap.objs.size + 1)) { s with heap := h' }) :
    wpAny (model prog w) A (call (.type "enumerate") [.ref t]) Q E s := by
  obtain ⟨o, ho, hc, hd⟩ := hT
  refine callType_new F.called_enumerate (by decide) (F.typeCall_enumerate_1 _) (F.newCall_enumerate_1 _) (fun obj => F.args_object_init_2 obj _) F.entry_enumerate_new (enumT_new t its o hc hd) ⟨ho, ?_⟩
  generalize hg : s.heap.push { cls := .type "tuple_iterator", data := .fields #[.ref t, .int 0 0] } = h1
  have hz : h1.objs.size = s.heap.objs.size + 1 := by rw [← hg]; exact Heap.size_push ..
  have hi : h1.get? s.heap.objs.size = some { cls := .type "tuple_iterator", data := .fields #[.ref t, .int 0 0] } := by rw [← hg]; exact Heap.get?_push_size _ rfl
  have hk : ∀ b o, s.heap.get? b = some o → h1.get? b = some o := fun b o x => by rw [← hg]; exact Heap.get?_push_of_some _ x
  show _ ∧ _
  rw [hz]
  have he : IsEnum (h1.push { cls := .type "enumerate", data := .fields #[.none, .bool false, .ref s.heap.objs.size, rawInt 0, .none, .none] }) (s.heap.objs.size + 1) s.heap.objs.size 0 .none := by
    have z := Heap.get?_push_size h1 (o := { cls := .type "enumerate", data := .fields #[.none, .bool false, .ref s.heap.objs.size, rawInt 0, .none, .none] }) rfl
    rw [hz] at z
    exact z
  exact ⟨⟨_, he, rfl⟩, h _ he ⟨_, Heap.get?_push_of_some _ hi, rfl, rfl⟩ (by rw [Heap.size_push, hz]) fun b o x => Heap.get?_push_of_some _ (hk b o x)⟩
end
end PySem
namespace GrO
open PySem PySem.Spec PyProof.Rows L2
/-- the tuple at a, each item in a new pair -/
def IteT (K : PySem.W.Frag) (a : Addr) : It :=
  ⟨fun i H => ∃ (xs : List V) (x : V), SqT K H a xs ∧ xs[i]? = some x, fun i H v H2 => ∃ q x, v = .ref q ∧ H q = none ∧ H2 = upd H q (.tup [.int (i : Nat), x]) ∧ ∀ xs, SqT K H a xs → xs[i]? = some x, fun i H => ∃ xs : List V, SqT K H a xs ∧ xs.length ≤ i⟩
theorem tup_apart {h : Heap} {a it : Addr} {i : Nat} {its : Array Value} (p : h.IsTuple a its) (q : h.IsTupleIter it a i) : a ≠ it := fun z => by
  obtain ⟨o, ho, hc, _⟩ := p
  obtain ⟨o2, ho2, hc2, _⟩ := q
  rw [z, ho2] at ho
  cases ho
  rw [hc2] at hc
  exact absurd hc (by decide)
theorem enum_apart {h : Heap} {a e it : Addr} {i : Int} {old : Value} {its : Array Value} (p : h.IsTuple a its) (q : IsEnum h e it i old) : e ≠ a := fun z => by
  obtain ⟨o, ho, hc, _⟩ := p
  have q : h.get? e = _ := q
  rw [z, ho] at q
  cases q
  have hc : Value.type "enumerate" = Value.type "tuple" := hc
  exact absurd (Value.type.inj hc) (by decide)
theorem turn_enumT {P : Program} {w : World} {K : PySem.W.Frag} {elts : List Expr} {kk : Nat} {tpos : Pos} (a e it : Addr) :
    Turn P w K (.Tuple elts kk tpos) (IteT K a) [e, it] e (fun i h => (∃ old, IsEnum h e it ((i : Nat) : Int) old) ∧ h.IsTupleIter it a i ∧ e ≠ it) where
  mem := List.mem_cons_self ..
  obj := fun i h st b hb => by
    obtain ⟨⟨old, he⟩, ⟨o, ho, _, hd⟩, _⟩ := st
    rcases List.mem_cons.mp hb with z | z
    · rw [z]
      exact ⟨_, he, fun v q => by cases q⟩
    · exact ⟨o, by rw [List.mem_singleton.mp z]; exact ho, fun v q => by rw [hd] at q; cases q⟩
  keep := fun i h h2 st k => ⟨let ⟨old, he⟩ := st.1; ⟨old, k e (List.mem_cons_self ..) _ he⟩, st.2.1.at fun o q => k it (List.mem_cons_of_mem _ (List.mem_cons_self ..)) o q, st.2.2⟩
  item := by
    intro X hP hw hK hc i pins s σ H E I hf st hg
    cases hP
    cases hw
    cases hK
    obtain ⟨⟨old, he⟩, hit, hne⟩ := st
    obtain ⟨xs, x, hq, hx⟩ := hg
    obtain ⟨its, rv, p, hz⟩ := I.tuple hq
    have p : s.heap.IsTuple a its.toArray := p
    obtain ⟨u, hu, ru⟩ := rv.get hx
    have hel := Heap.lt_size (show s.heap.get? e = _ from he)
    have hil : it < s.heap.objs.size := Heap.lt_size hit.choose_spec.1
    have hlt : i < its.toArray.size := by
      rw [List.size_toArray]
      exact (List.getElem?_eq_some_iff.mp hu).1
    refine wpAny_pyNext_enum_itemD (Draws.tuple (A := X.A.in1) (I.ok.hd hc) it a (tup_apart p hit) its.toArray) he ⟨hit, p⟩ hlt hne (fun z => (List.mem_cons.mp z).elim hne fun z => enum_apart p he (List.mem_singleton.mp z)) fun y h2 tk hy ho st2 hT hsz hk => ?_
    have ey : y = u := by
      have hy : its.toArray[i]? = some y := hy
      rw [show its.toArray[i]? = its[i]? by simp, hu] at hy
      exact (Option.some.inj hy).symm
    subst ey
    refine ⟨_, rfl, wpAny_letOwnedTupleGo_enum (s := { s with heap := h2, toks := tk + 1 }) ho fun h3 he3 sb => ?_⟩
    have hT2 : h3.get? s.heap.objs.size = some { cls := .type "tuple", data := .seq #[.int i tk, y] } := (sb.2 _ (Nat.ne_of_gt hel)).trans hT
    have new : ObjOk X.prog X.w (upd H s.heap.objs.size (.tup [.int (i : Nat), x])) h3 s.heap.objs.size (.tup [.int (i : Nat), x]) := ⟨by show 2 ≤ sizeLine; decide, [.int i tk, y], .cons ⟨_, rfl⟩ (.cons ru .nil), ⟨_, hT2, rfl, _, rfl⟩⟩
    have I1 : Inv X pins σ (upd H s.heap.objs.size (.tup [.int (i : Nat), x])) { s with heap := h3, toks := tk + 1 } :=
      I.turnedNew (ch := [e, it]) (fun b o hb q => (sb.2 b fun z => hb (by simp [z])).trans (hk b o (fun z => hb (by simp [z])) (fun z => hb (by simp [z])) q)) hf (Nat.le_refl _) new
    have fresh := I.hok.fresh (Nat.le_refl s.heap.objs.size)
    refine ⟨.ref s.heap.objs.size, _, I1, rfl, ⟨_, x, rfl, fresh, rfl, fun ys hy => ?_⟩, ⟨⟨y, ?_⟩, st2.1.at fun o q => (sb.2 it (Ne.symm hne)).trans q, hne⟩, fun b hb => ?_⟩
    · rw [I.tuple_inj hy hq]
      exact hx
    · have e1 : ((i + 1 : Nat) : Int) = (i : Int) + 1 := by omega
      rw [e1]
      exact he3
    · have hb2 : b < s.heap.objs.size := by
        rcases List.mem_cons.mp hb with z | z
        · rw [z]; exact hel
        · rw [List.mem_singleton.mp z]; exact hil
      rw [upd_ne (Nat.ne_of_lt hb2)]
      exact (hf b hb).1
  done := by
    intro X hP hw hK hc i pins s σ H E I hf st hg
    cases hP
    cases hw
    cases hK
    obtain ⟨⟨old, he⟩, hit, hne⟩ := st
    obtain ⟨xs, hq, hx⟩ := hg
    obtain ⟨its, rv, p, hz⟩ := I.tuple hq
    have p : s.heap.IsTuple a its.toArray := p
    have hno : its.toArray[i]? = none := by
      have := rv.length
      simp
      omega
    have D : Draws X.prog X.w X.A.in1 it [it, a] i (fun _ _ => True) (fun j h => j = i ∧ h.IsTupleIter it a i ∧ h.IsTuple a its.toArray) :=
      { live := fun _ _ z => let ⟨o, ho, _⟩ := z.2.1; ⟨o, ho⟩
        frame := fun _ _ _ z k => ⟨z.1, z.2.1.at fun o e => k it (List.mem_cons_self ..) o e, z.2.2.at fun o e => k a (List.mem_cons_of_mem _ (List.mem_cons_self ..)) o e⟩
        item := fun j _ _ _ hj z _ => absurd z.1 (Nat.ne_of_lt hj)
        done := fun _ _ _ z hE => wpAny_nextOf_tuple_end (I.ok.hd hc) z.2.1 z.2.2 hno hE }
    have hif := hf it (List.mem_cons_of_mem _ (List.mem_cons_self ..))
    exact wpAny_pyNext_enum_endD D he ⟨rfl, hit, p⟩ fun h2 eb => ⟨rfl, I.turned (t' := s.toks) (fun b o hb q => eb b o hb q) hif.1 hif.2.1 hif.2.2.2.1 hif.2.2.2.2.1 hif.2.2.2.2.2⟩
  self := fun A i s Q E st h => wpAny_pyIter_enum st.1.choose_spec h
/-- enumerate(t), t a tuple -/
def iEnumT (K : PySem.W.Frag) (ta : TA) : TI := fun σ H R => ta σ H fun vs H1 => ∃ a xs, vs = [.ref a] ∧ SqT K H1 a xs ∧ R (IteT K a) H1
theorem pi_enumT {X : Cx} {e : Expr} {ta : TA} {p pos tpos : Pos} {elts : List Expr} {kk : Nat} (gl : Gl X "enumerate") (nm : X.mg "enumerate" = none) (ar : PA X [e] ta) (se : starEach [e] X.env = [(false, eval e X.env)] := by rfl) :
    PI X (.Tuple elts kk tpos) (.Call (.Name "enumerate" p) [e] [] pos) (iEnumT X.K ta) := by
  constructor
  intro pins s σ H R I h
  refine Call_ (ld_blt I gl nm boot_enumerate (PyProof.Rows.callWith_type1 (thn (ar.run pos pins s σ H _ I h) fun us s1 ⟨vs, H1, I1, r1, q1⟩ => ?_) se rfl))
  obtain ⟨a, xs, rfl, hq, q⟩ := q1
  cases r1 with
  | cons r rr =>
    cases rr
    cases r
    obtain ⟨its, rv, pt, hz⟩ := I1.tuple hq
    refine call_enumT (show s1.heap.IsTuple a its.toArray from pt) fun h2 he hit hsz hk => wpAny_pyIter_enum he ?_
    have I2 : Inv X pins σ H1 { s1 with heap := h2 } := I1.kept (t' := s1.toks) hk
    refine ⟨s1.heap.objs.size + 1, [s1.heap.objs.size + 1, s1.heap.objs.size], _, _, H1, rfl, I2, turn_enumT a (s1.heap.objs.size + 1) s1.heap.objs.size, ⟨⟨.none, he⟩, hit, Nat.succ_ne_self _⟩, fun b hb => ?_, q⟩
    have hle : s1.heap.objs.size ≤ b := by
      rcases List.mem_cons.mp hb with z | z
      · rw [z]; exact Nat.le_add_right _ _
      · rw [List.mem_singleton.mp z]; exact Nat.le_refl _
    exact I1.fpOk hle (I1.hok.fresh hle)
end GrO
end

section
set_option Elab.async false
set_option linter.all false
set_option maxRecDepth 100000
set_option maxHeartbeats 1000000
/-! Dn: values without a heap, runs as trees of what may happen, and what stands for what. -/
namespace Dn
open PySem PySem.Spec PyProof.Rows L2 Evl

/-- data that no one changes any more -/
inductive D where
  | non | bl (b : Bool) | int (i : Int) | str (s : Str)
  | tup (xs : List D) | lst (xs : List D)
  | obj (c : Nat) (fs : List D)
  | dK (kvs : List (Key × D))
  | st
/-- what a slot holds: nothing known, data, a list that is one's own (bo: to be read only), an instance in the making -/
inductive LV where
  | un | fz (d : D) | os (xs : List D) | ol (xs : List LV) | bo (l : LV) | ok (kvs : List (Key × D)) | sf (c : Nat) (p : Addr) (fs : List D) | ex (a dx : Addr) (c : Nat) (d : D)
/-- a run: a value; something out of S; only where p; an own error of the class c with the value d; no promise -/
inductive M (α : Type) where
  | ret (a : α) | pick (S : D → Prop) (k : D → M α) | need (p : Prop) (m : M α) | exc (c : Nat) (d : D) | bad
namespace M
variable {α β : Type}
def bind : M α → (α → M β) → M β
  | .ret a, f => f a
  | .pick S k, f => .pick S fun d => (k d).bind f
  | .need p m, f => .need p (m.bind f)
  | .exc c d, _ => .exc c d
  | .bad, _ => .bad
instance : Monad M where
  pure := .ret
  bind := bind
def wp : M α → (α → Prop) → (Nat → D → Prop) → Prop
  | .ret a, P, _ => P a
  | .pick S k, P, E => ∀ d, S d → (k d).wp P E
  | .need p m, P, E => p ∧ m.wp P E
  | .exc c d, _, E => E c d
  | .bad, _, _ => False
theorem wp_mono {P P' : α → Prop} {E E' : Nat → D → Prop} : ∀ {m : M α}, m.wp P E → (∀ a, P a → P' a) → (∀ c d, E c d → E' c d) → m.wp P' E'
  | .ret a, h, hP, _ => hP a h
  | .pick _ k, h, hP, hE => fun d hd => wp_mono (h d hd) hP hE
  | .need _ _, h, hP, hE => ⟨h.1, wp_mono h.2 hP hE⟩
  | .exc _ _, h, _, hE => hE _ _ h
  | .bad, h, _, _ => h
theorem wp_bind {P : β → Prop} {E : Nat → D → Prop} {f : α → M β} : ∀ {m : M α}, (m.bind f).wp P E ↔ m.wp (fun a => (f a).wp P E) E
  | .ret _ => Iff.rfl
  | .pick _ _ => ⟨fun h d hd => wp_bind.mp (h d hd), fun h d hd => wp_bind.mpr (h d hd)⟩
  | .need _ _ => ⟨fun h => ⟨h.1, wp_bind.mp h.2⟩, fun h => ⟨h.1, wp_bind.mpr h.2⟩⟩
  | .exc _ _ => Iff.rfl
  | .bad => Iff.rfl
end M

/-- what the text's classes are called here; where the draws' state and the script lie -/
structure Wd where
  a : Addr
  q : Addr
  cl : Nat → Addr
  nm : Nat → List Str

section
variable (K : PySem.W.Frag) (W : Wd) (F H : Hp)
def Rep : D → V → Prop
  | .non, v => v = .non
  | .bl b, v => v = .bl b
  | .int i, v => v = .int i
  | .str s, v => v = .str s
  | .tup ds, v => ∃ p vs, v = .ref p ∧ SqT K F p vs ∧ Reps ds vs
  | .lst ds, v => ∃ p vs, v = .ref p ∧ F p = some (.lst vs) ∧ Reps ds vs
  | .obj c fs, v => ∃ p dx gs, v = .ref p ∧ F p = some (.ins (W.cl c) dx gs) ∧ gs.map (·.1) = W.nm c ∧ Reps fs (gs.map (·.2))
  | .dK kvs, v => ∃ p ws, v = .ref p ∧ F p = some (.dK ws) ∧ RepK kvs ws
  | .st, v => v = .ref W.a
where
  Reps : List D → List V → Prop
  | [], vs => vs = []
  | d :: ds, vs => ∃ v r, vs = v :: r ∧ Rep d v ∧ Reps ds r
  RepK : List (Key × D) → List (Key × V) → Prop
  | [], vs => vs = []
  | (k, d) :: ds, vs => ∃ v r, vs = (k, v) :: r ∧ Rep d v ∧ RepK ds r
abbrev Reps := Rep.Reps K W F
abbrev RepK := Rep.RepK K W F
def RepO : LV → V → List Addr → Prop
  | .un, _, _ => False
  | .fz d, v, fp => Rep K W F d v ∧ fp = []
  | .os ds, v, fp => ∃ p vs, v = .ref p ∧ H p = some (.lst vs) ∧ Reps K W F ds vs ∧ fp = [p]
  | .ol ls, v, fp => ∃ p vs f, v = .ref p ∧ H p = some (.lst vs) ∧ RepOs ls vs f ∧ fp = p :: f
  | .bo l, v, fp => RepO l v fp
  | .ex a dx _ d, v, fp => v = .ref a ∧ (∃ v', F dx = some (.xd [(("value" : Str), v')]) ∧ Rep K W F d v') ∧ fp = []
  | .ok kvs, v, fp => ∃ p ws, v = .ref p ∧ H p = some (.dK ws) ∧ RepK K W F kvs ws ∧ fp = [p]
  | .sf c p fs, v, fp => ∃ dx gs, v = .ref p ∧ H p = some (.ins (W.cl c) dx gs) ∧ gs.map (·.1) = (W.nm c).take fs.length ∧ Reps K W F fs (gs.map (·.2)) ∧ fp = [p]
where
  RepOs : List LV → List V → List Addr → Prop
  | [], vs, fp => vs = [] ∧ fp = []
  | l :: ls, vs, fp => ∃ v r f g, vs = v :: r ∧ RepO l v f ∧ RepOs ls r g ∧ fp = f ++ g
abbrev RepOs := RepO.RepOs K W F H
/-- the slots -/
def RepS : LV → Option V → List Addr → Prop
  | .un, _, fp => fp = []
  | l, some v, fp => RepO K W F H l v fp
  | _, none, _ => False
def RepE : List LV → L2.St → List Addr → Prop
  | [], σ, fp => σ = [] ∧ fp = []
  | l :: ls, σ, fp => ∃ x r f g, σ = x :: r ∧ RepS K W F H l x f ∧ RepE ls r g ∧ fp = f ++ g
end
end Dn
end

section
set_option Elab.async false
set_option linter.all false
set_option maxRecDepth 100000
set_option maxHeartbeats 1000000
namespace Dn
open PySem PySem.Spec PyProof.Rows L2 Evl
section
variable {K : PySem.W.Frag} {W : Wd} {F F' H H' : Hp}
mutual
theorem Rep.ex (e : Ex F F') : ∀ {d : D} {v : V}, Rep K W F d v → Rep K W F' d v
  | .non, _, h => h
  | .bl _, _, h => h
  | .int _, _, h => h
  | .str _, _, h => h
  | .st, _, h => h
  | .tup _, _, ⟨p, vs, a, b, c⟩ => ⟨p, vs, a, ex_t e b, Reps.ex e c⟩
  | .lst _, _, ⟨p, vs, a, b, c⟩ => ⟨p, vs, a, e _ _ b, Reps.ex e c⟩
  | .obj _ _, _, ⟨p, dx, gs, a, b, n, c⟩ => ⟨p, dx, gs, a, e _ _ b, n, Reps.ex e c⟩
  | .dK _, _, ⟨p, ws, a, b, c⟩ => ⟨p, ws, a, e _ _ b, RepK.ex e c⟩
theorem Reps.ex (e : Ex F F') : ∀ {ds : List D} {vs : List V}, Reps K W F ds vs → Reps K W F' ds vs
  | [], _, h => h
  | _ :: _, _, ⟨v, r, a, b, c⟩ => ⟨v, r, a, Rep.ex e b, Reps.ex e c⟩
theorem RepK.ex (e : Ex F F') : ∀ {ds : List (Key × D)} {vs : List (Key × V)}, RepK K W F ds vs → RepK K W F' ds vs
  | [], _, h => h
  | _ :: _, _, ⟨v, r, a, b, c⟩ => ⟨v, r, a, Rep.ex e b, RepK.ex e c⟩
end
mutual
theorem RepO.ex (e : Ex F F') : ∀ {l : LV} {v : V} {fp : List Addr}, RepO K W F H l v fp → (∀ q ∈ fp, ∀ o, H q = some o → H' q = some o) → RepO K W F' H' l v fp
  | .un, _, _, h, _ => h
  | .fz _, _, _, ⟨h, z⟩, _ => ⟨Rep.ex e h, z⟩
  | .ol _, _, _, ⟨p, vs, f, a, b, c, z⟩, k => ⟨p, vs, f, a, k p (by rw [z]; exact List.mem_cons_self) _ b, RepOs.ex e c (fun q hq => k q (by rw [z]; exact List.mem_cons_of_mem _ hq)), z⟩
  | .bo l, v, fp, h, k => RepO.ex (l := l) (v := v) (fp := fp) e h k
  | .ex _ _ _ _, _, _, ⟨a, ⟨v, b, c⟩, z⟩, _ => ⟨a, ⟨v, e _ _ b, Rep.ex e c⟩, z⟩
  | .os _, _, _, ⟨p, vs, a, b, c, z⟩, k => ⟨p, vs, a, k p (by rw [z]; exact List.mem_cons_self) _ b, Reps.ex e c, z⟩
  | .ok _, _, _, ⟨p, vs, a, b, c, z⟩, k => ⟨p, vs, a, k p (by rw [z]; exact List.mem_cons_self) _ b, RepK.ex e c, z⟩
  | .sf _ p _, _, _, ⟨dx, gs, a, b, n, c, z⟩, k => ⟨dx, gs, a, k p (by rw [z]; exact List.mem_cons_self) _ b, n, Reps.ex e c, z⟩
theorem RepOs.ex (e : Ex F F') : ∀ {l : List LV} {v : List V} {fp : List Addr}, RepOs K W F H l v fp → (∀ q ∈ fp, ∀ o, H q = some o → H' q = some o) → RepOs K W F' H' l v fp
  | [], _, _, h, _ => h
  | _ :: _, _, _, ⟨v, r, f, g, a, b, c, z⟩, k => ⟨v, r, f, g, a, RepO.ex e b (fun q hq => k q (by rw [z]; exact List.mem_append_left _ hq)), RepOs.ex e c (fun q hq => k q (by rw [z]; exact List.mem_append_right _ hq)), z⟩
end
mutual
theorem RepO.there : ∀ {l : LV} {v : V} {fp : List Addr}, RepO K W F H l v fp → ∀ q ∈ fp, ∃ o, H q = some o
  | .un, _, _, h, _, _ => h.elim
  | .fz _, _, _, ⟨_, z⟩, q, hq => by rw [z] at hq; cases hq
  | .ol _, _, _, ⟨p, vs, f, a, b, c, z⟩, q, hq => by
    rw [z] at hq
    exact (List.mem_cons.mp hq).elim (fun e => ⟨_, e ▸ b⟩) (RepOs.there c q)
  | .bo l, v, fp, h, q, hq => RepO.there (l := l) (v := v) (fp := fp) h q hq
  | .ex _ _ _ _, _, _, ⟨_, _, z⟩, q, hq => by rw [z] at hq; cases hq
  | .os _, _, _, ⟨p, vs, a, b, c, z⟩, q, hq => by
    rw [z] at hq
    exact (List.mem_cons.mp hq).elim (fun e => ⟨_, e ▸ b⟩) (fun e => by cases e)
  | .ok _, _, _, ⟨p, vs, a, b, c, z⟩, q, hq => by
    rw [z] at hq
    exact (List.mem_cons.mp hq).elim (fun e => ⟨_, e ▸ b⟩) (fun e => by cases e)
  | .sf _ p _, _, _, ⟨dx, gs, a, b, n, c, z⟩, q, hq => by
    rw [z] at hq
    exact (List.mem_cons.mp hq).elim (fun e => ⟨_, e ▸ b⟩) (fun e => by cases e)
theorem RepOs.there : ∀ {l : List LV} {v : List V} {fp : List Addr}, RepOs K W F H l v fp → ∀ q ∈ fp, ∃ o, H q = some o
  | [], _, _, ⟨_, z⟩, q, hq => by rw [z] at hq; cases hq
  | _ :: _, _, _, ⟨v, r, f, g, a, b, c, z⟩, q, hq => by
    rw [z] at hq
    exact (List.mem_append.mp hq).elim (RepO.there b q) (RepOs.there c q)
end
theorem RepS.ex (e : Ex F F') {l : LV} {x : Option V} {fp : List Addr} (h : RepS K W F H l x fp) (k : ∀ q ∈ fp, ∀ o, H q = some o → H' q = some o) : RepS K W F' H' l x fp := by
  cases l with
  | un => exact h
  | _ =>
    cases x with
    | none => exact h
    | some v => exact RepO.ex e h k
theorem RepS.there {l : LV} {x : Option V} {fp : List Addr} (h : RepS K W F H l x fp) : ∀ q ∈ fp, ∃ o, H q = some o := by
  cases l with
  | un =>
    intro q hq
    have z : fp = [] := by cases x <;> exact h
    rw [z] at hq
    cases hq
  | _ =>
    cases x with
    | none => exact h.elim
    | some v => exact RepO.there h
theorem RepE.ex (e : Ex F F') : ∀ {l : List LV} {σ : L2.St} {fp : List Addr}, RepE K W F H l σ fp → (∀ q ∈ fp, ∀ o, H q = some o → H' q = some o) → RepE K W F' H' l σ fp
  | [], _, _, h, _ => h
  | _ :: _, _, _, ⟨v, r, f, g, a, b, c, z⟩, k => ⟨v, r, f, g, a, RepS.ex e b (fun q hq => k q (by rw [z]; exact List.mem_append_left _ hq)), RepE.ex e c (fun q hq => k q (by rw [z]; exact List.mem_append_right _ hq)), z⟩
theorem RepE.there : ∀ {l : List LV} {σ : L2.St} {fp : List Addr}, RepE K W F H l σ fp → ∀ q ∈ fp, ∃ o, H q = some o
  | [], _, _, ⟨_, z⟩, q, hq => by rw [z] at hq; cases hq
  | _ :: _, _, _, ⟨v, r, f, g, a, b, c, z⟩, q, hq => by
    rw [z] at hq
    exact (List.mem_append.mp hq).elim (RepS.there b q) (RepE.there c q)
theorem Reps.length : ∀ {ds : List D} {vs : List V}, Reps K W F ds vs → vs.length = ds.length
  | [], _, h => by rw [show _ = [] from h]; rfl
  | _ :: _, _, ⟨v, r, a, b, c⟩ => by rw [a, List.length_cons, List.length_cons, Reps.length c]
theorem RepOs.length : ∀ {ds : List LV} {vs : List V} {fp : List Addr}, RepOs K W F H ds vs fp → vs.length = ds.length
  | [], _, _, h => by rw [h.1]; rfl
  | _ :: _, _, _, ⟨v, r, f, g, a, b, c, _⟩ => by rw [a, List.length_cons, List.length_cons, RepOs.length c]
theorem RepE.length : ∀ {ds : List LV} {vs : L2.St} {fp : List Addr}, RepE K W F H ds vs fp → vs.length = ds.length
  | [], _, _, h => by rw [h.1]; rfl
  | _ :: _, _, _, ⟨v, r, f, g, a, b, c, _⟩ => by rw [a, List.length_cons, List.length_cons, RepE.length c]
theorem Reps.get : ∀ {ds : List D} {vs : List V} {i : Nat} {d : D}, Reps K W F ds vs → ds[i]? = some d → ∃ v, vs[i]? = some v ∧ Rep K W F d v
  | _ :: _, _, 0, _, ⟨v, r, a, b, c⟩, h => ⟨v, by rw [a]; rfl, by cases h; exact b⟩
  | _ :: _, _, i + 1, _, ⟨v, r, a, b, c⟩, h => by
    obtain ⟨v', h1, h2⟩ := Reps.get (i := i) c h
    exact ⟨v', by rw [a]; exact h1, h2⟩
theorem Reps.append : ∀ {ds es : List D} {vs ws : List V}, Reps K W F ds vs → Reps K W F es ws → Reps K W F (ds ++ es) (vs ++ ws)
  | [], _, _, _, h, k => by rw [show _ = [] from h]; exact k
  | _ :: _, _, _, _, ⟨v, r, a, b, c⟩, k => ⟨v, r ++ _, by rw [a]; rfl, b, Reps.append c k⟩
theorem Reps.take : ∀ {ds : List D} {vs : List V} (n : Nat), Reps K W F ds vs → Reps K W F (ds.take n) (vs.take n)
  | _, _, 0, _ => by rw [List.take_zero, List.take_zero]; rfl
  | [], _, _ + 1, h => by rw [show _ = [] from h]; rfl
  | _ :: _, _, n + 1, ⟨v, r, a, b, c⟩ => ⟨v, r.take n, by rw [a]; rfl, b, Reps.take n c⟩
theorem Reps.drop : ∀ {ds : List D} {vs : List V} (n : Nat), Reps K W F ds vs → Reps K W F (ds.drop n) (vs.drop n)
  | _, _, 0, h => h
  | [], _, _ + 1, h => by rw [show _ = [] from h]; rfl
  | _ :: _, _, n + 1, ⟨v, r, a, b, c⟩ => by rw [a]; exact Reps.drop n c
/-- the place i: what stands there, and how it is put anew -/
theorem RepE.at : ∀ {ρ : List LV} {σ : L2.St} {fp : List Addr} {i : Nat} {l : LV}, RepE K W F H ρ σ fp → ρ[i]? = some l → ∃ x f g h, σ[i]? = some x ∧ RepS K W F H l x f ∧ fp = g ++ f ++ h ∧
    ∀ (F' H' : Hp) (l' : LV) (x' : Option V) (f' : List Addr), Ex F F' → (∀ q ∈ g ++ h, ∀ o, H q = some o → H' q = some o) → RepS K W F' H' l' x' f' → RepE K W F' H' (ρ.set i l') (σ.set i x') (g ++ f' ++ h)
  | _ :: _, _, _, 0, _, ⟨x, r, f, g, a, b, c, z⟩, e => by
    cases e
    refine ⟨x, f, [], g, by rw [a]; rfl, b, by rw [z]; rfl, fun F' H' l' x' f' ef k hl => ?_⟩
    rw [a]
    exact ⟨x', r, f', g, rfl, hl, RepE.ex ef c (fun q hq => k q (by simpa using hq)), rfl⟩
  | _ :: _, _, _, i + 1, _, ⟨x, r, f, g, a, b, c, z⟩, e => by
    obtain ⟨x1, f1, g1, h1, e1, r1, z1, k1⟩ := RepE.at (i := i) c e
    refine ⟨x1, f1, f ++ g1, h1, by rw [a]; exact e1, r1, by rw [z, z1]; simp only [List.append_assoc], fun F' H' l' x' f' ef k hl => ?_⟩
    rw [a]
    refine ⟨x, r.set i x', f, g1 ++ f' ++ h1, rfl, RepS.ex ef b (fun q hq => k q ?_), k1 F' H' l' x' f' ef (fun q hq => k q ?_) hl, by simp only [List.append_assoc]⟩
    · simp only [List.mem_append]
      exact Or.inl (Or.inl hq)
    · simp only [List.mem_append] at hq ⊢
      exact hq.elim (fun z => Or.inl (Or.inr z)) Or.inr
theorem RepOs.at : ∀ {ρ : List LV} {σ : List V} {fp : List Addr} {i : Nat} {l : LV}, RepOs K W F H ρ σ fp → ρ[i]? = some l → ∃ x f g h, σ[i]? = some x ∧ RepO K W F H l x f ∧ fp = g ++ f ++ h ∧
    ∀ (F' H' : Hp) (l' : LV) (x' : V) (f' : List Addr), Ex F F' → (∀ q ∈ g ++ h, ∀ o, H q = some o → H' q = some o) → RepO K W F' H' l' x' f' → RepOs K W F' H' (ρ.set i l') (σ.set i x') (g ++ f' ++ h)
  | _ :: _, _, _, 0, _, ⟨x, r, f, g, a, b, c, z⟩, e => by
    cases e
    refine ⟨x, f, [], g, by rw [a]; rfl, b, by rw [z]; rfl, fun F' H' l' x' f' ef k hl => ?_⟩
    rw [a]
    exact ⟨x', r, f', g, rfl, hl, RepOs.ex ef c (fun q hq => k q (by simpa using hq)), rfl⟩
  | _ :: _, _, _, i + 1, _, ⟨x, r, f, g, a, b, c, z⟩, e => by
    obtain ⟨x1, f1, g1, h1, e1, r1, z1, k1⟩ := RepOs.at (i := i) c e
    refine ⟨x1, f1, f ++ g1, h1, by rw [a]; exact e1, r1, by rw [z, z1]; simp only [List.append_assoc], fun F' H' l' x' f' ef k hl => ?_⟩
    rw [a]
    refine ⟨x, r.set i x', f, g1 ++ f' ++ h1, rfl, RepO.ex ef b (fun q hq => k q ?_), k1 F' H' l' x' f' ef (fun q hq => k q ?_) hl, by simp only [List.append_assoc]⟩
    · simp only [List.mem_append]
      exact Or.inl (Or.inl hq)
    · simp only [List.mem_append] at hq ⊢
      exact hq.elim (fun z => Or.inl (Or.inr z)) Or.inr
theorem RepOs.append : ∀ {ds es : List LV} {vs ws : List V} {f g : List Addr}, RepOs K W F H ds vs f → RepOs K W F H es ws g → RepOs K W F H (ds ++ es) (vs ++ ws) (f ++ g)
  | [], _, _, _, _, _, h, k => by rw [h.1, h.2]; exact k
  | _ :: _, _, _, _, _, _, ⟨v, r, f1, g1, a, b, c, z⟩, k => ⟨v, r ++ _, f1, g1 ++ _, by rw [a]; rfl, b, RepOs.append c k, by rw [z, List.append_assoc]⟩
/-- data as one's own items -/
theorem RepOs.fz : ∀ {ds : List D} {vs : List V}, Reps K W F ds vs → RepOs K W F H (ds.map .fz) vs []
  | [], _, h => ⟨h, rfl⟩
  | _ :: _, _, ⟨v, r, a, b, c⟩ => ⟨v, r, [], [], a, ⟨b, rfl⟩, RepOs.fz c, rfl⟩
/-- frozen -/
def toD : LV → Option D
  | .fz d => some d
  | .os ds => some (.lst ds)
  | .ol ls => (toDs ls).map .lst
  | .ok kvs => some (.dK kvs)
  | _ => none
where
  toDs : List LV → Option (List D)
  | [] => some []
  | l :: ls => match toD l, toDs ls with
    | some d, some ds => some (d :: ds)
    | _, _ => none
abbrev toDs := toD.toDs
theorem toDs_fz : ∀ ds : List D, toDs (ds.map .fz) = some ds
  | [] => rfl
  | d :: r => by
    show (match toD (.fz d), toDs (r.map .fz) with
    | some d, some ds => some (d :: ds)
    | _, _ => none) = _
    rw [toDs_fz r]
    rfl
/-- F with the objects at fp of H -/
def mix (F H : Hp) (fp : List Addr) : Hp := fun p => if p ∈ fp then H p else F p
mutual
theorem Rep.frz {P : List Addr} (e : Ex F H) (he : Ex F (mix F H P)) : ∀ {l : LV} {v : V} {fp : List Addr} {d : D}, RepO K W F H l v fp → (∀ q ∈ fp, q ∈ P) → toD l = some d → Rep K W (mix F H P) d v
  | .un, _, _, _, h, _, _ => h.elim
  | .fz _, _, _, _, ⟨h, _⟩, _, t => by cases t; exact Rep.ex he h
  | .bo _, _, _, _, _, _, t => by cases t
  | .ex _ _ _ _, _, _, _, _, _, t => by cases t
  | .sf _ _ _, _, _, _, _, _, t => by cases t
  | .ol ls, _, _, _, ⟨p, vs, f, a, b, c, z⟩, hp, t => by
    have t : (toDs ls).map D.lst = some _ := t
    cases q : toDs ls with
    | none => rw [q] at t; cases t
    | some ds =>
      rw [q] at t
      cases t
      refine ⟨p, vs, a, ?_, Reps.frz e he c (fun q hq => hp q (by rw [z]; exact List.mem_cons_of_mem _ hq)) q⟩
      show (if p ∈ P then H p else F p) = _
      rw [if_pos (hp p (by rw [z]; exact List.mem_cons_self))]
      exact b
  | .os ls, _, _, _, ⟨p, vs, a, b, c, z⟩, hp, t => by
    cases t
    refine ⟨p, vs, a, ?_, Reps.ex he c⟩
    show (if p ∈ P then H p else F p) = _
    rw [if_pos (hp p (by rw [z]; exact List.mem_cons_self))]
    exact b
  | .ok ls, _, _, _, ⟨p, vs, a, b, c, z⟩, hp, t => by
    cases t
    refine ⟨p, vs, a, ?_, RepK.ex he c⟩
    show (if p ∈ P then H p else F p) = _
    rw [if_pos (hp p (by rw [z]; exact List.mem_cons_self))]
    exact b
theorem Reps.frz {P : List Addr} (e : Ex F H) (he : Ex F (mix F H P)) : ∀ {l : List LV} {v : List V} {fp : List Addr} {d : List D}, RepOs K W F H l v fp → (∀ q ∈ fp, q ∈ P) → toDs l = some d → Reps K W (mix F H P) d v
  | [], _, _, _, h, _, t => by cases t; exact h.1
  | l :: ls, _, _, _, ⟨v, r, f, g, a, b, c, z⟩, hp, t => by
    have t : (match toD l, toDs ls with
    | some d, some ds => some (d :: ds)
    | _, _ => none) = some _ := t
    cases q1 : toD l with
    | none => rw [q1] at t; cases t
    | some d =>
      cases q2 : toDs ls with
      | none => rw [q1, q2] at t; cases t
      | some ds =>
        rw [q1, q2] at t
        cases t
        exact ⟨v, r, a, Rep.frz e he b (fun q hq => hp q (by rw [z]; exact List.mem_append_left _ hq)) q1, Reps.frz e he c (fun q hq => hp q (by rw [z]; exact List.mem_append_right _ hq)) q2⟩
end
theorem mix_ex {fp : List Addr} (hn : ∀ q ∈ fp, F q = none) : Ex F (mix F H fp) := fun a o h => by
  show (if a ∈ fp then H a else F a) = _
  by_cases m : a ∈ fp
  · rw [hn a m] at h; cases h
  · rw [if_neg m]; exact h
theorem mix_sub {fp : List Addr} (e : Ex F H) : Ex (mix F H fp) H := fun a o h => by
  have h : (if a ∈ fp then H a else F a) = some o := h
  by_cases m : a ∈ fp
  · rw [if_pos m] at h; exact h
  · rw [if_neg m] at h; exact e _ _ h
theorem mix_none {fp : List Addr} {p : Addr} (m : p ∉ fp) : mix F H fp p = F p := if_neg m
end

/-! ### the state at a moment, and a step -/
def StOk (W : Wd) (H : Hp) : Prop := ∃ (ns : List Int) (i : Nat) (b c d : Int), H W.a = some (.lst [.ref W.q, .int (i : Int), .int b, .int c, .int d]) ∧ H W.q = some (.lst (ns.map V.int)) ∧ ns.length ≤ 100
structure Ok (K : PySem.W.Frag) (W : Wd) (F H : Hp) (ρ : List LV) (σ : L2.St) (fp : List Addr) : Prop where
  sub : Ex F H
  fa : F W.a = none
  st : StOk W H
  own : ∀ q ∈ fp, F q = none ∧ q ≠ W.a ∧ q ≠ W.q
  nod : fp.Nodup
  rep : RepE K W F H ρ σ fp
structure Step (W : Wd) (A : List Addr) (F H F' H' : Hp) : Prop where
  ff : Ex F F'
  nf : ∀ p, F p = none → F' p = none ∨ H p = none ∨ p ∈ A
  keep : ∀ b o, H b = some o → b ∉ A → b ≠ W.a → H' b = some o
  there : ∀ b o, H b = some o → ∃ o', H' b = some o'
  sub : Ex F' H'
  fa : F' W.a = none
  st : StOk W H'
section
variable {K : PySem.W.Frag} {W : Wd} {F F' F'' H H' H'' : Hp} {ρ : List LV} {σ : L2.St} {fp A B : List Addr}
theorem Step.refl (e : Ex F H) (fa : F W.a = none) (st : StOk W H) : Step W A F H F H := ⟨Ex.refl F, fun _ h => Or.inl h, fun _ _ h _ _ => h, fun _ _ h => ⟨_, h⟩, e, fa, st⟩
theorem Ok.refl (h : Ok K W F H ρ σ fp) : Step W A F H F H := Step.refl h.sub h.fa h.st
/-- what is gone through: A may grow by what is new -/
theorem Step.trans (a : Step W A F H F' H') (b : Step W B F' H' F'' H'') (hB : ∀ q ∈ B, q ∈ A ∨ H q = none) : Step W A F H F'' H'' where
  ff := a.ff.trans b.ff
  nf := fun p h => by
    rcases a.nf p h with h1 | h1 | h1
    · rcases b.nf p h1 with h2 | h2 | h2
      · exact Or.inl h2
      · refine Or.inr (Or.inl ?_)
        cases q : H p with
        | none => rfl
        | some o =>
          obtain ⟨o', e⟩ := a.there p o q
          rw [e] at h2
          cases h2
      · rcases hB p h2 with z | z
        · exact Or.inr (Or.inr z)
        · exact Or.inr (Or.inl z)
    · exact Or.inr (Or.inl h1)
    · exact Or.inr (Or.inr h1)
  keep := fun p o h n na => b.keep p o (a.keep p o h n na) (fun z => (hB p z).elim n (fun z => by rw [h] at z; cases z)) na
  there := fun p o h => by
    obtain ⟨o', e⟩ := a.there p o h
    exact b.there p o' e
  sub := b.sub
  fa := b.fa
  st := b.st
theorem Step.trans0 (a : Step W A F H F' H') (b : Step W [] F' H' F'' H'') : Step W A F H F'' H'' := a.trans b (fun _ h => by cases h)
theorem Step.mono (a : Step W A F H F' H') (h : ∀ q ∈ A, q ∈ B) : Step W B F H F' H' := ⟨a.ff, fun p q => (a.nf p q).imp id (Or.imp id (h p)), fun b o e n => a.keep b o e (fun z => n (h b z)), a.there, a.sub, a.fa, a.st⟩
theorem Step.any (a : Step W [] F H F' H') : Step W B F H F' H' := a.mono (fun _ h => by cases h)
theorem Step.free (a : Step W A F H F' H') {p : Addr} (h : H' p = none) : H p = none := by
  cases q : H p with
  | none => rfl
  | some o =>
    obtain ⟨o', e⟩ := a.there p o q
    rw [e] at h
    cases h
theorem Ok.there (h : Ok K W F H ρ σ fp) : ∀ q ∈ fp, ∃ o, H q = some o := h.rep.there
theorem Ok.step (h : Ok K W F H ρ σ fp) (s : Step W [] F H F' H') : Ok K W F' H' ρ σ fp where
  sub := s.sub
  fa := s.fa
  st := s.st
  own := fun q hq => by
    obtain ⟨a, b, c⟩ := h.own q hq
    refine ⟨?_, b, c⟩
    obtain ⟨o, e⟩ := h.there q hq
    rcases s.nf q a with z | z | z
    · exact z
    · rw [e] at z; cases z
    · cases z
  nod := h.nod
  rep := RepE.ex s.ff h.rep (fun q hq o e => s.keep q o e (fun z => by cases z) (h.own q hq).2.1)
/-- a value's own objects, behind a further step -/
theorem RepO.step {l : LV} {v : V} {f : List Addr} (h : RepO K W F H l v f) (hf : ∀ q ∈ f, q ≠ W.a) (s : Step W [] F H F' H') : RepO K W F' H' l v f :=
  RepO.ex s.ff h (fun q hq o e => s.keep q o e (fun z => by cases z) (hf q hq))
theorem StOk.put {p : Addr} {o : HO} (h : StOk W H) (ha : p ≠ W.a) (hq : p ≠ W.q) : StOk W (upd H p o) := by
  obtain ⟨ns, i, b, c, d, h1, h2, h3⟩ := h
  exact ⟨ns, i, b, c, d, by rw [upd_ne (Ne.symm ha)]; exact h1, by rw [upd_ne (Ne.symm hq)]; exact h2, h3⟩
theorem StOk.ne (h : StOk W H) {p : Addr} (hp : H p = none) : p ≠ W.a ∧ p ≠ W.q := by
  obtain ⟨ns, i, b, c, d, h1, h2, h3⟩ := h
  constructor
  · intro e
    rw [← e, hp] at h1
    cases h1
  · intro e
    rw [← e, hp] at h2
    cases h2
theorem StOk.sub (h : StOk W H) (e : Ex H H') : StOk W H' := by
  obtain ⟨ns, i, b, c, d, h1, h2, h3⟩ := h
  exact ⟨ns, i, b, c, d, e _ _ h1, e _ _ h2, h3⟩
/-- nothing but new objects -/
theorem Step.of_ex (e : Ex H H') (hs : Ex F H) (fa : F W.a = none) (st : StOk W H) : Step W A F H F H' := ⟨Ex.refl F, fun _ h => Or.inl h, fun _ _ h _ _ => e _ _ h, fun _ _ h => ⟨_, e _ _ h⟩, hs.trans e, fa, st.sub e⟩
end
end Dn
end

section
set_option Elab.async false
set_option linter.all false
set_option maxRecDepth 100000
set_option maxHeartbeats 1000000
namespace Dn
open PySem PySem.Spec PyProof.Rows L2 Evl
/-! ## expressions -/
def isBo : LV → Bool
  | .bo _ => true
  | _ => false
/-- what a value's evaluation leaves -/
structure Res (K : PySem.W.Frag) (W : Wd) (F H F' H' : Hp) (lv : LV) (v : V) (f : List Addr) : Prop where
  step : Step W [] F H F' H'
  rep : RepO K W F' H' lv v f
  own : ∀ q ∈ f, F' q = none ∧ q ≠ W.a ∧ q ≠ W.q
  new : isBo lv = false → f.Nodup ∧ ∀ q ∈ f, H q = none
structure ResA (K : PySem.W.Frag) (W : Wd) (F H F' H' : Hp) (lvs : List LV) (vs : List V) (f : List Addr) : Prop where
  step : Step W [] F H F' H'
  rep : RepOs K W F' H' lvs vs f
  own : ∀ q ∈ f, F' q = none ∧ q ≠ W.a ∧ q ≠ W.q
  new : (∀ l ∈ lvs, isBo l = false) → f.Nodup ∧ ∀ q ∈ f, H q = none
/-- an own error of the class c with the value d flies -/
def excE (K : PySem.W.Frag) (W : Wd) (Wx : WX) (σ : L2.St) (F H : Hp) : Nat → D → Prop := fun c d =>
  ∀ F' H' dx v, Step W [] F H F' H' → H dx = none → H' dx = some (.xd [(("value" : Str), v)]) → Rep K W F' d v → Wx (.ref (W.cl c)) (some dx) σ H'
abbrev Em := List LV → M LV
abbrev Ema := List LV → M (List LV)
def teM (K : PySem.W.Frag) (W : Wd) (Wx : WX) (m : Em) : TE := fun σ H Q => ∃ F ρ fp, Ok K W F H ρ σ fp ∧ (m ρ).wp (fun lv => ∀ F' H' v f, Res K W F H F' H' lv v f → Q v H') (excE K W Wx σ F H)
def taM (K : PySem.W.Frag) (W : Wd) (Wx : WX) (m : Ema) : TA := fun σ H Q => ∃ F ρ fp, Ok K W F H ρ σ fp ∧ (m ρ).wp (fun lvs => ∀ F' H' vs f, ResA K W F H F' H' lvs vs f → Q vs H') (excE K W Wx σ F H)
def ttM (K : PySem.W.Frag) (W : Wd) (Wx : WX) (m : List LV → M Bool) : TT := fun σ H Q => ∃ F ρ fp, Ok K W F H ρ σ fp ∧ (m ρ).wp (fun b => ∀ F' H', Step W [] F H F' H' → Q b H') (excE K W Wx σ F H)
def toM (K : PySem.W.Frag) (W : Wd) (Wx : WX) (m : List LV → M (Option Int)) : TO := fun σ H Q => ∃ F ρ fp, Ok K W F H ρ σ fp ∧ (m ρ).wp (fun b => ∀ F' H', Step W [] F H F' H' → Q b H') (excE K W Wx σ F H)
def DE (X : Cx) (W : Wd) (Wx : WX) (e : Expr) (m : Em) : Prop := PE X e (teM X.K W Wx m)
def DA (X : Cx) (W : Wd) (Wx : WX) (es : List Expr) (m : Ema) : Prop := PA X es (taM X.K W Wx m)
def DT (X : Cx) (W : Wd) (Wx : WX) (e : Expr) (m : List LV → M Bool) : Prop := PT X e (ttM X.K W Wx m)
def DW (X : Cx) (W : Wd) (Wx : WX) (e : Expr) (m : List LV → M Bool) : Prop := PW X e (ttM X.K W Wx m)
def DO (X : Cx) (W : Wd) (Wx : WX) (e : Option Expr) (m : List LV → M (Option Int)) : Prop := PO X e (toM X.K W Wx m)
section
variable {X : Cx} {e : Expr}
theorem PE_imp {t t' : TE} (h : PE X e t) (i : ∀ σ H Q, t' σ H Q → t σ H Q) : PE X e t' := ⟨fun pins s σ H Q I q => h.run pins s σ H Q I (i _ _ _ q)⟩
theorem PA_imp {es : List Expr} {t t' : TA} (h : PA X es t) (i : ∀ σ H Q, t' σ H Q → t σ H Q) : PA X es t' := ⟨fun pos pins s σ H Q I q => h.run pos pins s σ H Q I (i _ _ _ q)⟩
theorem PT_imp {t t' : TT} (h : PT X e t) (i : ∀ σ H Q, t' σ H Q → t σ H Q) : PT X e t' := ⟨fun pins s σ H Q I q => h.run pins s σ H Q I (i _ _ _ q)⟩
theorem PW_imp {t t' : TT} (h : PW X e t) (i : ∀ σ H Q, t' σ H Q → t σ H Q) : PW X e t' := ⟨fun w pins s σ H Q I q => h.run w pins s σ H Q I (i _ _ _ q)⟩
theorem PO_imp {e : Option Expr} {t t' : TO} (h : PO X e t) (i : ∀ σ H Q, t' σ H Q → t σ H Q) : PO X e t' := ⟨fun pins s σ H Q I q => h.run pins s σ H Q I (i _ _ _ q)⟩
theorem PS_imp {st : Stmt} {t t' : TS} (h : PS X st t) (i : ∀ D σ H, t' D σ H → t D σ H) : PS X st t' := ⟨fun pins s σ H D I q => h.run pins s σ H D I (i _ _ _ q)⟩
theorem PSs_imp {st : List Stmt} {t t' : TS} (h : PSs X st t) (i : ∀ D σ H, t' D σ H → t D σ H) : PSs X st t' := ⟨fun pins s σ H D I q => h.run pins s σ H D I (i _ _ _ q)⟩
theorem PI_imp {tg : Expr} {t t' : TI} (h : PI X tg e t) (i : ∀ σ H R, t' σ H R → t σ H R) : PI X tg e t' := ⟨fun pins s σ H R I q => h.run pins s σ H R I (i _ _ _ q)⟩
end
section
variable {K : PySem.W.Frag} {W : Wd} {Wx : WX} {F F' H H' : Hp} {ρ : List LV} {σ : L2.St} {fp : List Addr}
theorem excE.step {c : Nat} {d : D} (h : excE K W Wx σ F H c d) (s : Step W [] F H F' H') : excE K W Wx σ F' H' c d := fun F2 H2 dx v s2 n e r => h F2 H2 dx v (s.trans0 s2) (s.free n) e r
theorem Res.val {d : D} {v : V} (e : Ex F H) (fa : F W.a = none) (st : StOk W H) (r : Rep K W F d v) : Res K W F H F H (.fz d) v [] := ⟨Step.refl e fa st, ⟨r, rfl⟩, fun _ h => absurd h List.not_mem_nil, fun _ => ⟨List.nodup_nil, fun _ h => absurd h List.not_mem_nil⟩⟩
/-- a new tuple -/
theorem Step.tup {p : Addr} {o : HO} (e : Ex F H) (fa : F W.a = none) (st : StOk W H) (hp : H p = none) : Step W [] F H (upd F p o) (upd H p o) := by
  have hF : F p = none := by
    cases q : F p with
    | none => rfl
    | some o => rw [e _ _ q] at hp; cases hp
  have np := st.ne hp
  refine ⟨Ex.new hF, fun q h => ?_, fun b u h _ _ => Ex.new hp _ _ h, fun b u h => ⟨_, Ex.new hp _ _ h⟩, fun a u h => ?_, by rw [upd_ne (Ne.symm np.1)]; exact fa, st.put np.1 np.2⟩
  · by_cases hq : q = p
    · exact Or.inr (Or.inl (by rw [hq]; exact hp))
    · exact Or.inl (by rw [upd_ne hq]; exact h)
  · by_cases hq : a = p
    · rw [hq, upd_same] at h ⊢
      exact h
    · rw [upd_ne hq] at h ⊢
      exact e _ _ h
theorem Res.tup {p : Addr} {vs : List V} {ds : List D} (e : Ex F H) (fa : F W.a = none) (st : StOk W H) (hp : H p = none) (r : Reps K W F ds vs) : Res K W F H (upd F p (.tup vs)) (upd H p (.tup vs)) (.fz (.tup ds)) (.ref p) [] := by
  have s := Step.tup (o := .tup vs) e fa st hp
  exact ⟨s, ⟨⟨p, vs, rfl, SqT.of upd_same, Reps.ex s.ff r⟩, rfl⟩, fun _ h => absurd h List.not_mem_nil, fun _ => ⟨List.nodup_nil, fun _ h => absurd h List.not_mem_nil⟩⟩
/-- a new list of one's own -/
theorem Step.new {p : Addr} {o : HO} (e : Ex F H) (fa : F W.a = none) (st : StOk W H) (hp : H p = none) : Step W [] F H F (upd H p o) := Step.of_ex (Ex.new hp) e fa st
theorem Res.lst {p : Addr} {vs : List V} {ls : List LV} {f : List Addr} (e : Ex F H) (fa : F W.a = none) (st : StOk W H) (hp : H p = none) (r : RepOs K W F H ls vs f) (own : ∀ q ∈ f, F q = none ∧ q ≠ W.a ∧ q ≠ W.q) (nd : f.Nodup) (H0 : Hp) (F0 : Hp) (s0 : Step W [] F0 H0 F H) (nw : ∀ q ∈ f, H0 q = none) :
    Res K W F0 H0 F (upd H p (.lst vs)) (.ol ls) (.ref p) (p :: f) := by
  have np := st.ne hp
  have nf : p ∉ f := fun z => by
    obtain ⟨o, h⟩ := RepOs.there r p z
    rw [h] at hp
    cases hp
  refine ⟨s0.trans0 (Step.new e fa st hp), ⟨p, vs, f, rfl, upd_same, RepOs.ex (Ex.refl _) r (fun q hq o h => ?_), rfl⟩, fun q hq => ?_, fun _ => ⟨List.nodup_cons.mpr ⟨nf, nd⟩, fun q hq => ?_⟩⟩
  · have nqp : q ≠ p := fun z => nf (by rw [← z]; exact hq)
    rw [upd_ne nqp]
    exact h
  · rcases List.mem_cons.mp hq with rfl | hq
    · refine ⟨?_, np⟩
      cases h : F q with
      | none => rfl
      | some o => rw [e _ _ h] at hp; cases hp
    · exact own q hq
  · rcases List.mem_cons.mp hq with rfl | hq
    · exact s0.free hp
    · exact nw q hq
theorem Res.lst0 {p : Addr} {vs : List V} {ds : List D} (e : Ex F H) (fa : F W.a = none) (st : StOk W H) (hp : H p = none) (r : Reps K W F ds vs) : Res K W F H F (upd H p (.lst vs)) (.os ds) (.ref p) [p] := by
  have np := st.ne hp
  refine ⟨Step.new e fa st hp, ⟨p, vs, rfl, upd_same, r, rfl⟩, fun q hq => ?_, fun _ => ⟨List.nodup_cons.mpr ⟨List.not_mem_nil, List.nodup_nil⟩, fun q hq => ?_⟩⟩
  · have e1 : q = p := by simpa using hq
    subst e1
    refine ⟨?_, np⟩
    cases h : F q with
    | none => rfl
    | some o => rw [e _ _ h] at hp; cases hp
  · have e1 : q = p := by simpa using hq
    rw [e1]
    exact hp
theorem Res.pre {lv : LV} {v : V} {f : List Addr} {F0 H0 : Hp} (h : Res K W F H F' H' lv v f) (s : Step W [] F0 H0 F H) : Res K W F0 H0 F' H' lv v f := ⟨s.trans0 h.step, h.rep, h.own, fun n => ⟨(h.new n).1, fun q hq => s.free ((h.new n).2 q hq)⟩⟩
theorem ResA.pre {lv : List LV} {v : List V} {f : List Addr} {F0 H0 : Hp} (h : ResA K W F H F' H' lv v f) (s : Step W [] F0 H0 F H) : ResA K W F0 H0 F' H' lv v f := ⟨s.trans0 h.step, h.rep, h.own, fun n => ⟨(h.new n).1, fun q hq => s.free ((h.new n).2 q hq)⟩⟩
theorem Ok.len (h : Ok K W F H ρ σ fp) : σ.length = ρ.length := RepE.length h.rep
/-- an item of what is known of the slots -/
theorem Ok.get {i : Nat} {l : LV} (h : Ok K W F H ρ σ fp) (e : ρ[i]? = some l) : ∃ x f, σ[i]? = some x ∧ RepS K W F H l x f ∧ ∀ q ∈ f, q ∈ fp := by
  obtain ⟨x, f, g, h', h1, h2, h3, _⟩ := RepE.at h.rep e
  exact ⟨x, f, h1, h2, fun q hq => by rw [h3]; simp only [List.mem_append]; exact Or.inl (Or.inr hq)⟩
end
/-! ### names and constants -/
def mC (d : D) : Em := fun _ => .ret (.fz d)
def mVar (i : Nat) : Em := fun ρ => match ρ[i]? with
  | some (.fz d) => .ret (.fz d)
  | some (.ol ls) => .ret (.bo (.ol ls))
  | some (.os ls) => .ret (.bo (.os ls))
  | some (.ok ls) => .ret (.bo (.ok ls))
  | some (.sf c p fs) => .ret (.bo (.sf c p fs))
  | some (.ex a dx c d) => .ret (.bo (.ex a dx c d))
  | _ => .bad
section
variable {X : Cx} {W : Wd} {Wx : WX} {e : Expr}
theorem de_c {d : D} {v : V} (h : PE X e (tC v)) (r : ∀ F, Rep X.K W F d v) : DE X W Wx e (mC d) := PE_imp h fun σ H Q ⟨F, ρ, fp, ok, w⟩ => w F H v [] (Res.val ok.sub ok.fa ok.st (r F))
theorem de_var (i : Nat) (h : PE X e (tVar i)) : DE X W Wx e (mVar i) := PE_imp h fun σ H Q ⟨F, ρ, fp, ok, w⟩ => by
  unfold mVar at w
  cases q : ρ[i]? with
  | none => rw [q] at w; exact w.elim
  | some l =>
    obtain ⟨x, f, hx, hr, hf⟩ := ok.get q
    rw [q] at w
    cases l with
    | un => exact w.elim
    | bo l => exact w.elim
    | fz d =>
      cases x with
      | none => exact hr.elim
      | some v => exact ⟨v, hx, w F H v [] (Res.val ok.sub ok.fa ok.st hr.1)⟩
    | ol ls =>
      cases x with
      | none => exact hr.elim
      | some v => exact ⟨v, hx, w F H v f ⟨ok.refl, hr, fun q hq => ok.own q (hf q hq), fun z => by cases z⟩⟩
    | os ls =>
      cases x with
      | none => exact hr.elim
      | some v => exact ⟨v, hx, w F H v f ⟨ok.refl, hr, fun q hq => ok.own q (hf q hq), fun z => by cases z⟩⟩
    | ok ls =>
      cases x with
      | none => exact hr.elim
      | some v => exact ⟨v, hx, w F H v f ⟨ok.refl, hr, fun q hq => ok.own q (hf q hq), fun z => by cases z⟩⟩
    | sf c p fs =>
      cases x with
      | none => exact hr.elim
      | some v => exact ⟨v, hx, w F H v f ⟨ok.refl, hr, fun q hq => ok.own q (hf q hq), fun z => by cases z⟩⟩
    | ex a dx c d =>
      cases x with
      | none => exact hr.elim
      | some v => exact ⟨v, hx, w F H v f ⟨ok.refl, hr, fun q hq => ok.own q (hf q hq), fun z => by cases z⟩⟩
end
/-! ### two operands -/
def m2 (f : LV → LV → M LV) (ma mb : Em) : Em := fun ρ => (ma ρ).bind fun x => (mb ρ).bind fun y => f x y
def m1 (f : LV → M LV) (ma : Em) : Em := fun ρ => (ma ρ).bind f
def OpM (K : PySem.W.Frag) (W : Wd) (r : R2) (f : LV → LV → M LV) : Prop := ∀ ⦃F H : Hp⦄ ⦃x y : LV⦄ ⦃v u : V⦄ ⦃fx fy : List Addr⦄ ⦃Q : VK⦄ ⦃E : Nat → D → Prop⦄, Ex F H → F W.a = none → StOk W H → RepO K W F H x v fx → RepO K W F H y u fy →
  (∀ q ∈ fx, F q = none ∧ q ≠ W.a ∧ q ≠ W.q) → (∀ q ∈ fy, F q = none ∧ q ≠ W.a ∧ q ≠ W.q) → (f x y).wp (fun lv => ∀ F' H' z f', Res K W F H F' H' lv z f' → Q z H') E → r v u H Q
def UnM (K : PySem.W.Frag) (W : Wd) (r : V → Hp → VK → Prop) (f : LV → M LV) : Prop := ∀ ⦃F H : Hp⦄ ⦃x : LV⦄ ⦃v : V⦄ ⦃fx : List Addr⦄ ⦃Q : VK⦄ ⦃E : Nat → D → Prop⦄, Ex F H → F W.a = none → StOk W H → RepO K W F H x v fx →
  (∀ q ∈ fx, F q = none ∧ q ≠ W.a ∧ q ≠ W.q) → (f x).wp (fun lv => ∀ F' H' z f', Res K W F H F' H' lv z f' → Q z H') E → r v H Q
section
variable {X : Cx} {W : Wd} {Wx : WX} {a b e : Expr} {ma mb : Em} {r : R2} {f : LV → LV → M LV} {pos : Pos}
theorem te_op2 {K : PySem.W.Frag} (hf : OpM K W r f) {σ : L2.St} {H : Hp} {Q : VK} (h : teM K W Wx (m2 f ma mb) σ H Q) : tOp r (teM K W Wx ma) (teM K W Wx mb) σ H Q := by
  obtain ⟨F, ρ, fp, ok, w⟩ := h
  refine ⟨F, ρ, fp, ok, M.wp_mono (M.wp_bind.mp w) (fun x wx F1 H1 v f1 r1 => ?_) (fun c d h => h)⟩
  refine ⟨F1, ρ, fp, ok.step r1.step, M.wp_mono (M.wp_bind.mp wx) (fun y wy F2 H2 u f2 r2 => ?_) (fun c d h => h.step r1.step)⟩
  have r12 : RepO K W F2 H2 x v f1 := RepO.step r1.rep (fun q hq => (r1.own q hq).2.1) r2.step
  refine hf r2.step.sub r2.step.fa r2.step.st r12 r2.rep (fun q hq => ⟨?_, (r1.own q hq).2⟩) r2.own (M.wp_mono wy (fun lv k F' H' z f' rz => k F' H' z f' (rz.pre (r1.step.trans0 r2.step))) (fun c d h => h))
  rcases r2.step.nf q (r1.own q hq).1 with z | z | z
  · exact z
  · obtain ⟨o, e⟩ := RepO.there r1.rep q hq
    rw [e] at z
    cases z
  · cases z
theorem de_op {op : Operator} (ho : OpR X (binaryOp op) r) (hf : OpM X.K W r f) (ha : DE X W Wx a ma) (hb : DE X W Wx b mb) : DE X W Wx (.BinOp a op b pos) (m2 f ma mb) := PE_imp (pe_op ho ha hb) fun σ H Q h => te_op2 hf h
theorem de_cmp {op : CmpOp} (ho : OpR X (compareOp op) r) (hf : OpM X.K W r f) (ha : DE X W Wx a ma) (hb : DE X W Wx b mb) (hm : behindInMarks op b = false) : DE X W Wx (.Compare a [op] [b] pos) (m2 f ma mb) := PE_imp (pe_cmpR ho ha hb hm) fun σ H Q h => te_op2 hf h
theorem te_op1 {K : PySem.W.Frag} {r : V → Hp → VK → Prop} {f : LV → M LV} (hf : UnM K W r f) {σ : L2.St} {H : Hp} {Q : VK} (h : teM K W Wx (m1 f ma) σ H Q) : tUn r (teM K W Wx ma) σ H Q := by
  obtain ⟨F, ρ, fp, ok, w⟩ := h
  refine ⟨F, ρ, fp, ok, M.wp_mono (M.wp_bind.mp w) (fun x wx F1 H1 v f1 r1 => ?_) (fun c d h => h)⟩
  exact hf r1.step.sub r1.step.fa r1.step.st r1.rep r1.own (M.wp_mono wx (fun lv k F' H' z f' rz => k F' H' z f' (rz.pre r1.step)) (fun c d h => h))
theorem de_un {op : UnaryOp} {r : V → Hp → VK → Prop} {f : LV → M LV} (ho : UnR X (unaryOp op) r) (hf : UnM X.K W r f) (ha : DE X W Wx a ma) : DE X W Wx (.UnaryOp op a pos) (m1 f ma) := PE_imp (pe_un ho ha) fun σ H Q h => te_op1 hf h
end
/-! ### tests, and, or, not -/
def truth : LV → M Bool
  | .fz (.bl b) => .ret b
  | .fz (.int i) => .ret (i != 0)
  | .fz (.str s) => .need (s.length ≤ 100000) (.ret ((s.length : Int) != 0))
  | .fz .non => .ret false
  | .fz (.lst ds) => .ret (!ds.isEmpty)
  | .fz (.tup ds) => .ret (!ds.isEmpty)
  | .bo (.ol ls) => .ret (!ls.isEmpty)
  | .ol ls => .ret (!ls.isEmpty)
  | .bo (.os ls) => .ret (!ls.isEmpty)
  | .os ls => .ret (!ls.isEmpty)
  | _ => .bad
def tVal (ma : Em) : List LV → M Bool := fun ρ => (ma ρ).bind fun x => match x with
  | .fz (.bl b) => .ret b
  | _ => .bad
def tTru (ma : Em) : List LV → M Bool := fun ρ => (ma ρ).bind truth
def tAndM (t u : List LV → M Bool) : List LV → M Bool := fun ρ => (t ρ).bind fun b => if b = true then u ρ else .ret false
def tOrM (t u : List LV → M Bool) : List LV → M Bool := fun ρ => (t ρ).bind fun b => if b = true then .ret true else u ρ
def tNotM (t : List LV → M Bool) : List LV → M Bool := fun ρ => (t ρ).bind fun b => .ret (!b)
def mAnd (ma mb : Em) : Em := fun ρ => (ma ρ).bind fun x => match x with
  | .fz (.bl b) => if b = true then mb ρ else .ret (.fz (.bl false))
  | _ => .bad
def mOr (ma mb : Em) : Em := fun ρ => (ma ρ).bind fun x => match x with
  | .fz (.bl b) => if b = true then .ret (.fz (.bl true)) else mb ρ
  | _ => .bad
def mNot (ma : Em) : Em := fun ρ => (ma ρ).bind fun x => match x with
  | .fz (.bl b) => .ret (.fz (.bl (!b)))
  | _ => .bad
def mIf (t : List LV → M Bool) (ma mb : Em) : Em := fun ρ => (t ρ).bind fun b => if b = true then ma ρ else mb ρ
section
variable {X : Cx} {W : Wd} {Wx : WX} {a b c e : Expr} {rest : List Expr} {ma mb : Em} {t u : List LV → M Bool} {pos : Pos}
theorem dt_val (ha : DE X W Wx e ma) (he : ∀ whole, isTrue e X.env whole = (do let v ← whole; standAt e.pos; holding [v] (truthy v)) := by intro _; rfl) : DT X W Wx e (tVal ma) := PT_imp (pt_val ha he) fun σ H Q ⟨F, ρ, fp, ok, w⟩ => by
  refine ⟨F, ρ, fp, ok, M.wp_mono (M.wp_bind.mp w) (fun x wx F1 H1 v f1 r1 => ?_) (fun c d h => h)⟩
  cases x with
  | fz d =>
    cases d with
    | bl b => exact ⟨b, r1.rep.1, wx F1 H1 r1.step⟩
    | _ => exact wx.elim
  | _ => exact wx.elim
theorem Reps.isEmpty {K : PySem.W.Frag} {F : Hp} : ∀ {ds : List D} {vs : List V}, Reps K W F ds vs → vs.isEmpty = ds.isEmpty
  | [], _, h => by rw [show _ = [] from h]; rfl
  | _ :: _, _, ⟨_, _, a, _⟩ => by rw [a]; rfl
theorem RepOs.isEmpty {K : PySem.W.Frag} {F H : Hp} : ∀ {ds : List LV} {vs : List V} {f : List Addr}, RepOs K W F H ds vs f → vs.isEmpty = ds.isEmpty
  | [], _, _, h => by rw [h.1]; rfl
  | _ :: _, _, _, ⟨_, _, _, _, a, _⟩ => by rw [a]; rfl
theorem dt_tru (ha : DE X W Wx e ma) (he : ∀ whole, isTrue e X.env whole = (do let v ← whole; standAt e.pos; holding [v] (truthy v)) := by intro _; rfl) : DT X W Wx e (tTru ma) := PT_imp (pt_truth ha he) fun σ H Q ⟨F, ρ, fp, ok, w⟩ => by
  refine ⟨F, ρ, fp, ok, M.wp_mono (M.wp_bind.mp w) (fun x wx F1 H1 v f1 r1 => ?_) (fun c d h => h)⟩
  have ex := r1.step.sub
  have li : ∀ {ls : List LV}, RepO X.K W F1 H1 (.ol ls) v f1 → (M.ret (!ls.isEmpty)).wp (fun b => ∀ F' H', Step W [] F1 H1 F' H' → Q b H') (fun _ _ => True) → ∃ k, TruV X.K v H1 k ∧ Q k H1 := fun {ls} hr wx => by
    obtain ⟨p, vs, f, rfl, h1, h2, _⟩ := hr
    exact ⟨_, Or.inl ⟨vs, SqL.of h1, by rw [RepOs.isEmpty h2]⟩, wx F1 H1 (Step.refl ex r1.step.fa r1.step.st)⟩
  have ls' : ∀ {ls : List D}, RepO X.K W F1 H1 (.os ls) v f1 → (M.ret (!ls.isEmpty)).wp (fun b => ∀ F' H', Step W [] F1 H1 F' H' → Q b H') (fun _ _ => True) → ∃ k, TruV X.K v H1 k ∧ Q k H1 := fun {ls} hr wx => by
    obtain ⟨p, vs, rfl, h1, h2, _⟩ := hr
    exact ⟨_, Or.inl ⟨vs, SqL.of h1, by rw [Reps.isEmpty h2]⟩, wx F1 H1 (Step.refl ex r1.step.fa r1.step.st)⟩
  have wx := M.wp_mono (E' := fun _ _ => True) wx (fun b (h : ∀ F' H', Step W [] F H F' H' → Q b H') F' H' s => h F' H' (r1.step.trans0 s)) (fun _ _ _ => trivial)
  have go : ∀ b, (∀ F' H', Step W [] F1 H1 F' H' → Q b H') → Q b H1 := fun b h => h F1 H1 (Step.refl ex r1.step.fa r1.step.st)
  cases x with
  | fz d =>
    have hr := r1.rep.1
    cases d with
    | bl b => exact ⟨b, by rw [show v = .bl b from hr]; exact rfl, go _ wx⟩
    | int i => exact ⟨_, by rw [show v = .int i from hr]; exact rfl, go _ wx⟩
    | str i => exact ⟨_, by rw [show v = .str i from hr]; exact ⟨sz_of wx.1, rfl⟩, go _ wx.2⟩
    | non => exact ⟨_, by rw [show v = .non from hr]; exact rfl, go _ wx⟩
    | lst ds =>
      obtain ⟨p, vs, rfl, h1, h2⟩ := hr
      exact ⟨_, Or.inl ⟨vs, SqL.of (ex _ _ h1), by rw [Reps.isEmpty h2]⟩, go _ wx⟩
    | tup ds =>
      obtain ⟨p, vs, rfl, h1, h2⟩ := hr
      exact ⟨_, Or.inr (Or.inl ⟨vs, ex_t ex h1, by rw [Reps.isEmpty h2]⟩), go _ wx⟩
    | _ => exact wx.elim
  | ol ls => exact li r1.rep wx
  | os ls => exact ls' r1.rep wx
  | bo l =>
    cases l with
    | ol ls => exact li r1.rep wx
    | os ls => exact ls' r1.rep wx
    | _ => exact wx.elim
  | _ => exact wx.elim
theorem dt_and (ha : DT X W Wx a t) (hb : DW X W Wx (.BoolOp .And (b :: rest) pos) u) : DW X W Wx (.BoolOp .And (a :: b :: rest) pos) (tAndM t u) := PW_imp (pw_and ha hb) fun σ H Q ⟨F, ρ, fp, ok, w⟩ => by
  refine ⟨F, ρ, fp, ok, M.wp_mono (M.wp_bind.mp w) (fun x wx F1 H1 s1 => ?_) (fun c d h => h)⟩
  cases x with
  | true => exact ⟨F1, ρ, fp, ok.step s1, M.wp_mono wx (fun b k F' H' s => k F' H' (s1.trans0 s)) (fun c d h => h.step s1)⟩
  | false => exact wx F1 H1 s1
theorem dt_or (ha : DT X W Wx a t) (hb : DW X W Wx (.BoolOp .Or (b :: rest) pos) u) : DW X W Wx (.BoolOp .Or (a :: b :: rest) pos) (tOrM t u) := PW_imp (pw_or ha hb) fun σ H Q ⟨F, ρ, fp, ok, w⟩ => by
  refine ⟨F, ρ, fp, ok, M.wp_mono (M.wp_bind.mp w) (fun x wx F1 H1 s1 => ?_) (fun c d h => h)⟩
  cases x with
  | false => exact ⟨F1, ρ, fp, ok.step s1, M.wp_mono wx (fun b k F' H' s => k F' H' (s1.trans0 s)) (fun c d h => h.step s1)⟩
  | true => exact wx F1 H1 s1
theorem dt_and1 (ha : DT X W Wx a t) : DW X W Wx (.BoolOp .And [a] pos) t := PW_imp (pw_and1 ha) fun _ _ _ h => h
theorem dt_or1 (ha : DT X W Wx a t) : DW X W Wx (.BoolOp .Or [a] pos) t := PW_imp (pw_or1 ha) fun _ _ _ h => h
theorem dt_w (h : DW X W Wx a t) : DT X W Wx a t := PW.pt h
theorem dt_not (ha : DT X W Wx a t) : DT X W Wx (.UnaryOp .Not a pos) (tNotM t) := PT_imp (pt_not ha) fun σ H Q ⟨F, ρ, fp, ok, w⟩ =>
  ⟨F, ρ, fp, ok, M.wp_mono (M.wp_bind.mp w) (fun x wx F1 H1 s1 => wx F1 H1 s1) (fun c d h => h)⟩
theorem de_and (ha : DE X W Wx a ma) (hb : DE X W Wx (.BoolOp .And (b :: rest) pos) mb) : DE X W Wx (.BoolOp .And (a :: b :: rest) pos) (mAnd ma mb) := PE_imp (pe_and ha hb) fun σ H Q ⟨F, ρ, fp, ok, w⟩ => by
  refine ⟨F, ρ, fp, ok, M.wp_mono (M.wp_bind.mp w) (fun x wx F1 H1 v f1 r1 => ?_) (fun c d h => h)⟩
  cases x with
  | fz d =>
    cases d with
    | bl b =>
      refine ⟨b, r1.rep.1, ?_⟩
      cases b with
      | true => exact ⟨F1, ρ, fp, ok.step r1.step, M.wp_mono wx (fun b k F' H' v f s => k F' H' v f (s.pre r1.step)) (fun c d h => h.step r1.step)⟩
      | false => exact wx F1 H1 _ [] ((Res.val (d := .bl false) (v := .bl false) r1.step.sub r1.step.fa r1.step.st rfl).pre r1.step)
    | _ => exact wx.elim
  | _ => exact wx.elim
theorem de_or (ha : DE X W Wx a ma) (hb : DE X W Wx (.BoolOp .Or (b :: rest) pos) mb) : DE X W Wx (.BoolOp .Or (a :: b :: rest) pos) (mOr ma mb) := PE_imp (pe_or ha hb) fun σ H Q ⟨F, ρ, fp, ok, w⟩ => by
  refine ⟨F, ρ, fp, ok, M.wp_mono (M.wp_bind.mp w) (fun x wx F1 H1 v f1 r1 => ?_) (fun c d h => h)⟩
  cases x with
  | fz d =>
    cases d with
    | bl b =>
      refine ⟨b, r1.rep.1, ?_⟩
      cases b with
      | false => exact ⟨F1, ρ, fp, ok.step r1.step, M.wp_mono wx (fun b k F' H' v f s => k F' H' v f (s.pre r1.step)) (fun c d h => h.step r1.step)⟩
      | true => exact wx F1 H1 _ [] ((Res.val (d := .bl true) (v := .bl true) r1.step.sub r1.step.fa r1.step.st rfl).pre r1.step)
    | _ => exact wx.elim
  | _ => exact wx.elim
theorem de_one {op : BoolOp} (h : DE X W Wx a ma) : DE X W Wx (.BoolOp op [a] pos) ma := pe_one h
theorem de_not (ha : DE X W Wx a ma) : DE X W Wx (.UnaryOp .Not a pos) (mNot ma) := PE_imp (pe_not ha) fun σ H Q ⟨F, ρ, fp, ok, w⟩ => by
  refine ⟨F, ρ, fp, ok, M.wp_mono (M.wp_bind.mp w) (fun x wx F1 H1 v f1 r1 => ?_) (fun c d h => h)⟩
  cases x with
  | fz d =>
    cases d with
    | bl b => exact ⟨b, r1.rep.1, wx F1 H1 _ [] ((Res.val (d := .bl (!b)) (v := .bl (!b)) r1.step.sub r1.step.fa r1.step.st rfl).pre r1.step)⟩
    | _ => exact wx.elim
  | _ => exact wx.elim
theorem de_if (hc : DT X W Wx c t) (ha : DE X W Wx a ma) (hb : DE X W Wx b mb) : DE X W Wx (.IfExp c a b pos) (mIf t ma mb) := PE_imp (pe_ifExp hc ha hb) fun σ H Q ⟨F, ρ, fp, ok, w⟩ => by
  refine ⟨F, ρ, fp, ok, M.wp_mono (M.wp_bind.mp w) (fun x wx F1 H1 s1 => ?_) (fun c d h => h)⟩
  cases x with
  | true => exact ⟨F1, ρ, fp, ok.step s1, M.wp_mono wx (fun b k F' H' v f s => k F' H' v f (s.pre s1)) (fun c d h => h.step s1)⟩
  | false => exact ⟨F1, ρ, fp, ok.step s1, M.wp_mono wx (fun b k F' H' v f s => k F' H' v f (s.pre s1)) (fun c d h => h.step s1)⟩
end
/-! ### several expressions; displays -/
def maNil : Ema := fun _ => .ret []
def maCons (ma : Em) (mr : Ema) : Ema := fun ρ => (ma ρ).bind fun x => (mr ρ).bind fun xs => .ret (x :: xs)
def frz (lvs : List LV) (k : List D → M LV) : M LV := match toDs lvs with
  | some ds => k ds
  | none => .bad
def mTup (ma : Ema) : Em := fun ρ => (ma ρ).bind fun xs => frz xs fun ds => .need (ds.length ≤ 100000) (.ret (.fz (.tup ds)))
def mLst (ma : Ema) : Em := fun ρ => (ma ρ).bind fun xs => frz xs fun ds => .need (ds.length ≤ 100000) (.ret (.os ds))
def owns : List LV → Bool
  | [] => true
  | .bo _ :: _ => false
  | .un :: _ => false
  | .sf _ _ _ :: _ => false
  | _ :: r => owns r
/-- a list whose items are lists of one's own -/
def mLstN (ma : Ema) : Em := fun ρ => (ma ρ).bind fun xs => if owns xs = true then .need (xs.length ≤ 100000) (.ret (.ol xs)) else .bad
section
variable {K : PySem.W.Frag} {W : Wd} {F F' H H' : Hp}
theorem toD_bo : ∀ {l : LV} {d : D}, toD l = some d → isBo l = false
  | .fz _, _, _ => rfl
  | .ol _, _, _ => rfl
  | .os _, _, _ => rfl
  | .ok _, _, _ => rfl
  | .bo _, _, h => by cases h
  | .un, _, h => by cases h
  | .sf _ _ _, _, h => by cases h
theorem toDs_bo : ∀ {ls : List LV} {ds : List D}, toDs ls = some ds → ∀ l ∈ ls, isBo l = false
  | [], _, _, l, hl => by cases hl
  | x :: r, ds, h, l, hl => by
    have t : (match toD x, toDs r with
    | some d, some ds => some (d :: ds)
    | _, _ => none) = some ds := h
    cases q1 : toD x with
    | none => rw [q1] at t; cases t
    | some d =>
      cases q2 : toDs r with
      | none => rw [q1, q2] at t; cases t
      | some ds =>
        rcases List.mem_cons.mp hl with rfl | hl
        · exact toD_bo q1
        · exact toDs_bo q2 l hl
theorem owns_bo : ∀ {ls : List LV}, owns ls = true → ∀ l ∈ ls, isBo l = false
  | [], _, l, hl => by cases hl
  | x :: r, h, l, hl => by
    rcases List.mem_cons.mp hl with rfl | hl
    · cases l <;> first | rfl | cases h
    · exact owns_bo (ls := r) (by cases x <;> first | exact h | cases h) l hl
/-- arguments frozen -/
theorem ResA.frz {lvs : List LV} {vs : List V} {f : List Addr} {ds : List D} (r : ResA K W F H F' H' lvs vs f) (h : toDs lvs = some ds) : ∃ F2, Step W [] F H F2 H' ∧ Reps K W F2 ds vs := by
  have own := r.own
  have nw := r.new (toDs_bo h)
  have me : Ex F' (mix F' H' f) := mix_ex (fun q hq => (own q hq).1)
  refine ⟨mix F' H' f, ⟨r.step.ff.trans me, fun p hp => ?_, r.step.keep, r.step.there, mix_sub r.step.sub, ?_, r.step.st⟩, Reps.frz r.step.sub me r.rep (fun q hq => hq) h⟩
  · by_cases hf : p ∈ f
    · exact Or.inr (Or.inl (nw.2 p hf))
    · rw [mix_none hf]
      exact r.step.nf p hp
  · rw [mix_none (fun z => (own _ z).2.1 rfl)]
    exact r.step.fa
theorem Res.frz {l : LV} {v : V} {f : List Addr} {d : D} (r : Res K W F H F' H' l v f) (h : toD l = some d) : ∃ F2, Step W [] F H F2 H' ∧ Rep K W F2 d v := by
  have ra : ResA K W F H F' H' [l] [v] f := ⟨r.step, ⟨v, [], f, [], rfl, r.rep, ⟨rfl, rfl⟩, by rw [List.append_nil]⟩, r.own, fun h => r.new (h l List.mem_cons_self)⟩
  obtain ⟨F2, s, v', r', e, h1, _⟩ := ra.frz (ds := [d]) (by
    show (match toD l, toDs [] with
    | some d, some ds => some (d :: ds)
    | _, _ => none) = _
    rw [h]
    rfl)
  cases e
  exact ⟨F2, s, h1⟩
end
section
variable {X : Cx} {W : Wd} {Wx : WX} {e : Expr} {es : List Expr} {ma : Em} {mr : Ema} {pos : Pos}
theorem da_nil : DA X W Wx [] maNil := PA_imp pa_nil fun σ H Q ⟨F, ρ, fp, ok, w⟩ => w F H [] [] ⟨ok.refl, ⟨rfl, rfl⟩, fun _ h => absurd h List.not_mem_nil, fun _ => ⟨List.nodup_nil, fun _ h => absurd h List.not_mem_nil⟩⟩
theorem da_cons (ha : DE X W Wx e ma) (hr : DA X W Wx es mr) (hs : starEach (e :: es) X.env = (false, eval e X.env) :: starEach es X.env := by rfl) : DA X W Wx (e :: es) (maCons ma mr) := PA_imp (pa_cons ha hr hs) fun σ H Q ⟨F, ρ, fp, ok, w⟩ => by
  refine ⟨F, ρ, fp, ok, M.wp_mono (M.wp_bind.mp w) (fun x wx F1 H1 v f1 r1 => ?_) (fun c d h => h)⟩
  refine ⟨F1, ρ, fp, ok.step r1.step, M.wp_mono (M.wp_bind.mp wx) (fun xs wy F2 H2 vs f2 r2 => ?_) (fun c d h => h.step r1.step)⟩
  have r12 : RepO X.K W F2 H2 x v f1 := RepO.step r1.rep (fun q hq => (r1.own q hq).2.1) r2.step
  have th : ∀ q ∈ f1, H1 q ≠ none := fun q hq z => by
    obtain ⟨o, e⟩ := RepO.there r1.rep q hq
    rw [e] at z
    cases z
  refine wy F2 H2 (v :: vs) (f1 ++ f2) ⟨r1.step.trans0 r2.step, ⟨v, vs, f1, f2, rfl, r12, r2.rep, rfl⟩, fun q hq => ?_, fun nb => ?_⟩
  · rcases List.mem_append.mp hq with hq | hq
    · refine ⟨?_, (r1.own q hq).2⟩
      rcases r2.step.nf q (r1.own q hq).1 with z | z | z
      · exact z
      · exact absurd z (th q hq)
      · cases z
    · exact r2.own q hq
  · have n1 := r1.new (nb x List.mem_cons_self)
    have n2 := r2.new (fun l hl => nb l (List.mem_cons_of_mem _ hl))
    refine ⟨List.nodup_append.mpr ⟨n1.1, n2.1, fun a ha b hb e => th a ha (by rw [e]; exact n2.2 b hb)⟩, fun q hq => ?_⟩
    rcases List.mem_append.mp hq with hq | hq
    · exact n1.2 q hq
    · exact r1.step.free (n2.2 q hq)
theorem de_tup {x1} (h : DA X W Wx es mr) : DE X W Wx (.Tuple es x1 pos) (mTup mr) := PE_imp (pe_tup h) fun σ H Q ⟨F, ρ, fp, ok, w⟩ => by
  refine ⟨F, ρ, fp, ok, M.wp_mono (M.wp_bind.mp w) (fun xs wx F1 H1 vs f1 r1 => ?_) (fun c d h => h)⟩
  unfold frz at wx
  cases q : toDs xs with
  | none => rw [q] at wx; exact wx.elim
  | some ds =>
    rw [q] at wx
    obtain ⟨F2, s2, hr⟩ := r1.frz q
    exact ⟨by rw [Reps.length hr]; exact sz_of wx.1, fun p hp => wx.2 _ _ _ _ ((Res.tup s2.sub s2.fa s2.st hp hr).pre s2)⟩
theorem de_lst (h : DA X W Wx es mr) : DE X W Wx (.List es pos) (mLst mr) := PE_imp (pe_lst h) fun σ H Q ⟨F, ρ, fp, ok, w⟩ => by
  refine ⟨F, ρ, fp, ok, M.wp_mono (M.wp_bind.mp w) (fun xs wx F1 H1 vs f1 r1 => ?_) (fun c d h => h)⟩
  unfold Dn.frz at wx
  cases q : toDs xs with
  | none => rw [q] at wx; exact wx.elim
  | some ds =>
    rw [q] at wx
    obtain ⟨F2, s2, hr⟩ := r1.frz q
    exact ⟨by rw [Reps.length hr]; exact sz_of wx.1, fun p hp => wx.2 _ _ _ _ ((Res.lst0 s2.sub s2.fa s2.st hp hr).pre s2)⟩
theorem de_lstN (h : DA X W Wx es mr) : DE X W Wx (.List es pos) (mLstN mr) := PE_imp (pe_lst h) fun σ H Q ⟨F, ρ, fp, ok, w⟩ => by
  refine ⟨F, ρ, fp, ok, M.wp_mono (M.wp_bind.mp w) (fun xs wx F1 H1 vs f1 r1 => ?_) (fun c d h => h)⟩
  cases q : owns xs with
  | false => rw [q] at wx; exact wx.elim
  | true =>
    rw [q] at wx
    have nw := r1.new (owns_bo q)
    refine ⟨by rw [RepOs.length r1.rep]; exact sz_of wx.1, fun p hp => ?_⟩
    exact wx.2 _ _ _ _ (Res.lst r1.step.sub r1.step.fa r1.step.st hp r1.rep r1.own nw.1 H F r1.step nw.2)
end
end Dn
end

section
set_option Elab.async false
set_option linter.all false
set_option maxRecDepth 100000
set_option maxHeartbeats 1000000
namespace Dn
open PySem PySem.Spec PyProof.Rows L2 Evl
/-! ## operations -/
def M.opt {α β : Type} (o : Option α) (k : α → M β) : M β := match o with
  | some a => k a
  | none => .bad
theorem M.wp_opt {α β : Type} {o : Option α} {k : α → M β} {P : β → Prop} {E : Nat → D → Prop} : (M.opt o k).wp P E ↔ ∃ a, o = some a ∧ (k a).wp P E := by
  cases o with
  | none => exact ⟨fun h => h.elim, fun ⟨_, h, _⟩ => by cases h⟩
  | some a => exact ⟨fun h => ⟨a, rfl, h⟩, fun ⟨b, h, k⟩ => by cases h; exact k⟩
/-- the items of a list -/
def listD : LV → Option (List D)
  | .fz (.lst ds) => some ds
  | .os ds => some ds
  | .bo (.os ds) => some ds
  | _ => none
/-- .. of a list or a tuple -/
def seqD : LV → Option (List D)
  | .fz (.tup ds) => some ds
  | x => listD x
section
variable {K : PySem.W.Frag} {W : Wd} {F F' H H' : Hp}
theorem listD_rep {x : LV} {v : V} {f : List Addr} {ds : List D} (e : Ex F H) (h : listD x = some ds) (r : RepO K W F H x v f) : ∃ p vs, v = .ref p ∧ H p = some (.lst vs) ∧ Reps K W F ds vs := by
  cases x with
  | fz d =>
    cases d with
    | lst es =>
      cases h
      obtain ⟨⟨p, vs, a, b, c⟩, _⟩ := r
      exact ⟨p, vs, a, e _ _ b, c⟩
    | _ => cases h
  | os es =>
    cases h
    obtain ⟨p, vs, a, b, c, _⟩ := r
    exact ⟨p, vs, a, b, c⟩
  | bo l =>
    cases l with
    | os es =>
      cases h
      obtain ⟨p, vs, a, b, c, _⟩ := r
      exact ⟨p, vs, a, b, c⟩
    | _ => cases h
  | _ => cases h
theorem seqD_rep {x : LV} {v : V} {f : List Addr} {ds : List D} (e : Ex F H) (h : seqD x = some ds) (r : RepO K W F H x v f) : ∃ p vs, v = .ref p ∧ (SqL K H p vs ∨ SqT K H p vs) ∧ Reps K W F ds vs := by
  by_cases ht : ∃ es, x = .fz (.tup es)
  · obtain ⟨es, rfl⟩ := ht
    cases h
    obtain ⟨⟨p, vs, a, b, c⟩, _⟩ := r
    exact ⟨p, vs, a, Or.inr (ex_t e b), c⟩
  · have h : listD x = some ds := by
      cases x with
      | fz d =>
        cases d with
        | tup es => exact absurd ⟨es, rfl⟩ ht
        | _ => exact h
      | _ => exact h
    obtain ⟨p, vs, a, b, c⟩ := listD_rep e h r
    exact ⟨p, vs, a, Or.inl (SqL.of b), c⟩
theorem ret_q {lv : LV} {Q : VK} {v : V} {f : List Addr} {E : Nat → D → Prop} (h : (M.ret lv).wp (fun lv => ∀ F' H' z f', Res K W F H F' H' lv z f' → Q z H') E) (r : Res K W F H F' H' lv v f) : Q v H' := h _ _ _ _ r
theorem ret_d {d : D} {Q : VK} {v : V} {E : Nat → D → Prop} (e : Ex F H) (fa : F W.a = none) (st : StOk W H) (h : (M.ret (.fz d)).wp (fun lv => ∀ F' H' z f', Res K W F H F' H' lv z f' → Q z H') E) (r : Rep K W F d v) : Q v H := h _ _ _ _ (Res.val e fa st r)
theorem rep_i {i : Int} {v : V} {f : List Addr} (r : RepO K W F H (.fz (.int i)) v f) : v = .int i := r.1
theorem rep_s {i : Str} {v : V} {f : List Addr} (r : RepO K W F H (.fz (.str i)) v f) : v = .str i := r.1
theorem rep_b {i : Bool} {v : V} {f : List Addr} (r : RepO K W F H (.fz (.bl i)) v f) : v = .bl i := r.1
end
/-! ### ints -/
def fI2 (C : Int → Int → Prop) (g : Int → Int → Int) : LV → LV → M LV
  | .fz (.int i), .fz (.int j) => .need (C i j) (.ret (.fz (.int (g i j))))
  | _, _ => .bad
def fSub : LV → LV → M LV
  | .fz (.int i), .fz (.int j) => .ret (.fz (.int (i - j)))
  | _, _ => .bad
def fNeg : LV → M LV
  | .fz (.int i) => .ret (.fz (.int (-i)))
  | _ => .bad
abbrev fDiv := fI2 (fun _ j => 0 < j ∧ j < 1073741824) fun i j => i / j
abbrev fMod := fI2 (fun _ j => 0 < j) fun i j => i % j
abbrev fPow := fI2 (fun i j => 0 ≤ j ∧ j ≤ 1000000 ∧ i.natAbs < 2 ^ 64) fun i j => i ^ j.toNat
section
variable {K : PySem.W.Frag} {W : Wd}
theorem om_i2 {C : Int → Int → Prop} {g : Int → Int → Int} : OpM K W (rI C fun i j => .int (g i j)) (fI2 C g) := by
  intro F H x y v u fx fy Q E e fa st rx ry _ _ w
  unfold fI2 at w
  split at w
  · exact ⟨_, _, rx.1, ry.1, w.1, ret_d (d := .int _) e fa st w.2 rfl⟩
  · exact w.elim
theorem om_sub : OpM K W (rI0 fun i j => .int (i - j)) fSub := by
  intro F H x y v u fx fy Q E e fa st rx ry _ _ w
  unfold fSub at w
  split at w
  · exact ⟨_, _, rx.1, ry.1, ret_d (d := .int _) e fa st w rfl⟩
  · exact w.elim
theorem um_neg : UnM K W (rU fun i => .int (-i)) fNeg := by
  intro F H x v fx Q E e fa st rx _ w
  unfold fNeg at w
  split at w
  · exact ⟨_, rx.1, ret_d (d := .int _) e fa st w rfl⟩
  · exact w.elim
end
/-! ### + and * -/
def fAdd : LV → LV → M LV
  | .fz (.int i), .fz (.int j) => .ret (.fz (.int (i + j)))
  | .fz (.str a), .fz (.str b) => .need (a.length + b.length ≤ 100000) (.ret (.fz (.str (a ++ b))))
  | .fz (.tup a), .fz (.tup b) => .need (a.length + b.length ≤ 100000) (.ret (.fz (.tup (a ++ b))))
  | x, y => M.opt (listD x) fun a => M.opt (listD y) fun b => .need (a.length + b.length ≤ 100000) (.ret (.os (a ++ b)))
def rAddA (K : PySem.W.Frag) : R2 := fun x y H Q => rI0 (fun i j => .int (i + j)) x y H Q ∨ (∃ i j, x = .str i ∧ y = .str j ∧ i.length + j.length ≤ sizeLine ∧ Q (.str (i ++ j)) H) ∨ rCatA K x y H Q ∨ rCat x y H Q
theorem op_addA {X : Cx} : OpR X (binaryOp .Add) (rAddA X.K) := OpR.or op_add (OpR.or op_add_str (OpR.or op_catA op_cat))
/-- [x, y] * n -/
def repD (ds : List D) (n : Nat) : List D := (List.replicate n ds).flatten
def fMul : LV → LV → M LV
  | .fz (.int i), .fz (.int j) => .need (CMul i j) (.ret (.fz (.int (i * j))))
  | .fz (.str a), .fz (.int j) => .need (0 ≤ j ∧ j ≤ 1000 ∧ a.length ≤ 10000) (.ret (.fz (.str (repS a j.toNat))))
  | x, .fz (.int j) => M.opt (listD x) fun a => .need (j ≤ 100000 ∧ -100000 ≤ j ∧ a.length * j.toNat ≤ 100000) (.ret (.os (repD a j.toNat)))
  | _, _ => .bad
def rMulA : R2 := fun x y H Q => rI CMul (fun i j => .int (i * j)) x y H Q ∨ rMulS x y H Q ∨ rRep x y H Q
theorem op_mulA {X : Cx} : OpR X (binaryOp .Mult) rMulA := OpR.or op_mul (OpR.or op_mul_str op_rep)
section
variable {K : PySem.W.Frag} {W : Wd} {F : Hp}
theorem Reps.rep {ds : List D} {vs : List V} (r : Reps K W F ds vs) : ∀ n, Reps K W F (repD ds n) (List.replicate n vs).flatten
  | 0 => rfl
  | n + 1 => by
    unfold repD
    rw [List.replicate_succ, List.replicate_succ, List.flatten_cons, List.flatten_cons]
    exact Reps.append r (Reps.rep r n)
theorem om_add : OpM K W (rAddA K) fAdd := by
  intro F H x y v u fx fy Q E e fa st rx ry _ _ w
  unfold fAdd at w
  split at w
  · exact Or.inl ⟨_, _, rx.1, ry.1, ret_d (d := .int _) e fa st w rfl⟩
  · exact Or.inr (Or.inl ⟨_, _, rx.1, ry.1, sz_of w.1, ret_d (d := .str _) e fa st w.2 rfl⟩)
  · obtain ⟨⟨p, vs, rfl, h1, h2⟩, _⟩ := rx
    obtain ⟨⟨q, ws, rfl, k1, k2⟩, _⟩ := ry
    obtain ⟨w1, w2⟩ := w
    refine Or.inr (Or.inr (Or.inl ⟨p, q, vs, ws, rfl, rfl, ex_t e h1, ex_t e k1, sz_of (by rw [Reps.length h2, Reps.length k2]; exact w1), fun z => ?_, fun _ z => ?_, fun _ _ p hp => ?_⟩))
    · exact ret_d (d := .tup _) e fa st w2 ⟨q, ws, rfl, k1, by have := Reps.append h2 k2; rw [z] at this; exact this⟩
    · exact ret_d (d := .tup _) e fa st w2 ⟨p, vs, rfl, h1, by have := Reps.append h2 k2; rw [z, List.append_nil] at this; exact this⟩
    · exact ret_q w2 (Res.tup e fa st hp (Reps.append h2 k2))
  · obtain ⟨a, ha, w⟩ := M.wp_opt.mp w
    obtain ⟨b, hb, w1, w2⟩ := M.wp_opt.mp w
    obtain ⟨p, vs, rfl, h1, h2⟩ := listD_rep e ha rx
    obtain ⟨q, ws, rfl, k1, k2⟩ := listD_rep e hb ry
    exact Or.inr (Or.inr (Or.inr ⟨p, q, vs, ws, rfl, rfl, h1, k1, sz_of (by rw [Reps.length h2, Reps.length k2]; exact w1), fun p hp => ret_q w2 (Res.lst0 e fa st hp (Reps.append h2 k2))⟩))
theorem om_mul : OpM K W rMulA fMul := by
  intro F H x y v u fx fy Q E e fa st rx ry _ _ w
  unfold fMul at w
  split at w
  · exact Or.inl ⟨_, _, rx.1, ry.1, w.1, ret_d (d := .int _) e fa st w.2 rfl⟩
  · rename_i a j
    obtain ⟨⟨w1, w2, w3⟩, w⟩ := w
    refine Or.inr (Or.inl ⟨a, j.toNat, rx.1, ?_, by omega, w3, ret_d (d := .str _) e fa st w rfl⟩)
    rw [show u = .int j from ry.1]
    congr 1
    omega
  · obtain ⟨a, ha, ⟨w1, w2, w3⟩, w⟩ := M.wp_opt.mp w
    obtain ⟨p, vs, rfl, h1, h2⟩ := listD_rep e ha rx
    exact Or.inr (Or.inr ⟨p, _, vs, rfl, ry.1, h1, by omega, by omega, sz_of (by rw [Reps.length h2]; exact w3), fun p hp => ret_q w (Res.lst0 e fa st hp (Reps.rep h2 _))⟩)
  · exact w.elim
end
/-! ### equality of data -/
def toP : D → Option PyData
  | .non => some .none
  | .bl b => some (.bool b)
  | .int i => some (.int i)
  | .str s => some (.str s)
  | .tup ds => (toPs ds).map .tuple
  | .lst ds => (toPs ds).map .list
  | _ => none
where
  toPs : List D → Option (List PyData)
  | [] => some []
  | d :: r => match toP d, toPs r with
    | some p, some q => some (p :: q)
    | _, _ => none
/-- data as it lies now -/
def peek : LV → Option D
  | .fz d => some d
  | .os ds => some (.lst ds)
  | .bo (.os ds) => some (.lst ds)
  | .ok kvs => some (.dK kvs)
  | .bo (.ok kvs) => some (.dK kvs)
  | _ => none
section
variable {K : PySem.W.Frag} {W : Wd} {F F' H H' : Hp}
theorem peek_rep {x : LV} {v : V} {f : List Addr} {d : D} (e : Ex F H) (h : peek x = some d) (r : RepO K W F H x v f) : Rep K W H d v := by
  cases x with
  | fz d' => cases h; exact Rep.ex e r.1
  | os ds =>
    cases h
    obtain ⟨p, vs, a, b, c, _⟩ := r
    exact ⟨p, vs, a, b, Reps.ex e c⟩
  | ok ds =>
    cases h
    obtain ⟨p, vs, a, b, c, _⟩ := r
    exact ⟨p, vs, a, b, RepK.ex e c⟩
  | bo l =>
    cases l with
    | os ds =>
      cases h
      obtain ⟨p, vs, a, b, c, _⟩ := r
      exact ⟨p, vs, a, b, Reps.ex e c⟩
    | ok ds =>
      cases h
      obtain ⟨p, vs, a, b, c, _⟩ := r
      exact ⟨p, vs, a, b, RepK.ex e c⟩
    | _ => cases h
  | _ => cases h
mutual
theorem Rep.dp : ∀ {d : D} {v : V} {p : PyData}, Rep K W H d v → toP d = some p → Dp K H v p
  | .non, v, p, h, t => by cases t; rw [show v = .non from h]; exact .non
  | .bl _, v, p, h, t => by cases t; rw [show v = .bl _ from h]; exact .bl _
  | .int _, v, p, h, t => by cases t; rw [show v = .int _ from h]; exact .int _
  | .str _, v, p, h, t => by cases t; rw [show v = .str _ from h]; exact .str _
  | .tup ds, v, p, ⟨q, vs, a, b, c⟩, t => by
    have t : (toP.toPs ds).map PyData.tuple = some p := t
    cases hq : toP.toPs ds with
    | none => rw [hq] at t; cases t
    | some ps =>
      rw [hq] at t
      cases t
      rw [a]
      exact .tup b (Reps.dp c hq)
  | .lst ds, v, p, ⟨q, vs, a, b, c⟩, t => by
    have t : (toP.toPs ds).map PyData.list = some p := t
    cases hq : toP.toPs ds with
    | none => rw [hq] at t; cases t
    | some ps =>
      rw [hq] at t
      cases t
      rw [a]
      exact .lst (SqL.of b) (Reps.dp c hq)
  | .obj _ _, _, _, _, t => by cases t
  | .dK _, _, _, _, t => by cases t
  | .st, _, _, _, t => by cases t
theorem Reps.dp : ∀ {ds : List D} {vs : List V} {ps : List PyData}, Reps K W H ds vs → toP.toPs ds = some ps → DpAll K H vs ps
  | [], vs, ps, h, t => by cases t; rw [show vs = [] from h]; exact .nil
  | d :: r, vs, ps, ⟨v, vr, a, b, c⟩, t => by
    have t : (match toP d, toP.toPs r with
    | some p, some q => some (p :: q)
    | _, _ => none) = some ps := t
    cases h1 : toP d with
    | none => rw [h1] at t; cases t
    | some p =>
      cases h2 : toP.toPs r with
      | none => rw [h1, h2] at t; cases t
      | some q =>
        rw [h1, h2] at t
        cases t
        rw [a]
        exact .cons (Rep.dp b h1) (Reps.dp c h2)
end
theorem dec_i {i j : Int} : decide (V.int i = V.int j) = decide (i = j) := by simp
theorem dec_s {i j : Str} : decide (V.str i = V.str j) = decide (i = j) := by simp
theorem dec_b {i j : Bool} : decide (V.bl i = V.bl j) = decide (i = j) := by simp
end
def eqK (neg : Bool) (b : Bool) : Bool := if neg then !b else b
def fEq (neg : Bool) : LV → LV → M LV
  | .fz (.int i), .fz (.int j) => .ret (.fz (.bl (eqK neg (decide (i = j)))))
  | .fz (.str i), .fz (.str j) => .ret (.fz (.bl (eqK neg (decide (i = j)))))
  | .fz (.bl i), .fz (.bl j) => .ret (.fz (.bl (eqK neg (decide (i = j)))))
  | x, y => M.opt ((peek x).bind toP) fun p => M.opt ((peek y).bind toP) fun q => .need (SeqAt.shaped p = true ∧ SeqAt.shaped q = true) (.ret (.fz (.bl (eqK neg (PyData.eqv p q)))))
def rEqA (K : PySem.W.Frag) (neg : Bool) : R2 := if neg then fun x y H Q => rNe x y H Q ∨ rNeD K x y H Q else fun x y H Q => rEq x y H Q ∨ rEqD K x y H Q
theorem op_eqA {X : Cx} (hu : X.A.units + 64 < cLine) : OpR X (compareOp .Eq) (rEqA X.K false) := OpR.or op_eq (op_eqD hu)
theorem op_neA {X : Cx} (hu : X.A.units + 64 < cLine) : OpR X (compareOp .NotEq) (rEqA X.K true) := OpR.or op_ne (op_neD hu)
theorem om_eq {K : PySem.W.Frag} {W : Wd} {neg : Bool} : OpM K W (rEqA K neg) (fEq neg) := by
  intro F H x y v u fx fy Q E e fa st rx ry _ _ w
  have sc : ∀ {a b : V} {k : Bool}, scal a b = true → decide (a = b) = k → Q (.bl (eqK neg k)) H → rEqA K neg a b H Q := fun {a b k} h1 h2 q => by
    cases neg with
    | true => exact Or.inl ⟨h1, by rw [h2]; exact q⟩
    | false => exact Or.inl ⟨h1, by rw [h2]; exact q⟩
  unfold fEq at w
  split at w
  · rw [show v = .int _ from rx.1, show u = .int _ from ry.1]
    exact sc rfl dec_i (ret_d (d := .bl _) e fa st w rfl)
  · rw [show v = .str _ from rx.1, show u = .str _ from ry.1]
    exact sc rfl dec_s (ret_d (d := .bl _) e fa st w rfl)
  · rw [show v = .bl _ from rx.1, show u = .bl _ from ry.1]
    exact sc rfl dec_b (ret_d (d := .bl _) e fa st w rfl)
  · obtain ⟨p, hp, w⟩ := M.wp_opt.mp w
    obtain ⟨q, hq, ⟨w1, w2⟩, w⟩ := M.wp_opt.mp w
    obtain ⟨d, hd, hd2⟩ := Option.bind_eq_some_iff.mp hp
    obtain ⟨d', hd', hd2'⟩ := Option.bind_eq_some_iff.mp hq
    have q1 := Rep.dp (peek_rep e hd rx) hd2
    have q2 := Rep.dp (peek_rep e hd' ry) hd2'
    have qq := ret_d (d := .bl _) e fa st w rfl
    cases neg with
    | true => exact Or.inr ⟨p, q, q1, q2, w1, w2, qq⟩
    | false => exact Or.inr ⟨p, q, q1, q2, w1, w2, qq⟩
/-! ### order -/
def fCmp (g : Int → Int → Bool) (s : List Nat → List Nat → Bool) : LV → LV → M LV
  | .fz (.int i), .fz (.int j) => .ret (.fz (.bl (g i j)))
  | .fz (.str i), .fz (.str j) => .ret (.fz (.bl (s i.cps.toList j.cps.toList)))
  | _, _ => .bad
abbrev fLt := fCmp (fun i j => decide (i < j)) fun a b => decide (a < b)
abbrev fLe := fCmp (fun i j => decide (i ≤ j)) fun a b => !decide (b < a)
abbrev fGt := fCmp (fun i j => decide (j < i)) fun a b => decide (b < a)
abbrev fGe := fCmp (fun i j => decide (j ≤ i)) fun a b => !decide (a < b)
def rCmpA (g : Int → Int → Bool) (s : List Nat → List Nat → Bool) : R2 := fun x y H Q => rI0 (fun i j => .bl (g i j)) x y H Q ∨ ∃ i j, x = .str i ∧ y = .str j ∧ Q (.bl (s i.cps.toList j.cps.toList)) H
section
variable {X : Cx} {K : PySem.W.Frag} {W : Wd}
theorem op_ltA : OpR X (compareOp .Lt) (rCmpA (fun i j => decide (i < j)) fun a b => decide (a < b)) := OpR.or op_lt op_lt_str
theorem op_leA : OpR X (compareOp .LtE) (rCmpA (fun i j => decide (i ≤ j)) fun a b => !decide (b < a)) := OpR.or op_le op_le_str
theorem op_gtA : OpR X (compareOp .Gt) (rCmpA (fun i j => decide (j < i)) fun a b => decide (b < a)) := OpR.or op_gt op_gt_str
theorem op_geA : OpR X (compareOp .GtE) (rCmpA (fun i j => decide (j ≤ i)) fun a b => !decide (a < b)) := OpR.or op_ge op_ge_str
theorem om_cmp {g : Int → Int → Bool} {s : List Nat → List Nat → Bool} : OpM K W (rCmpA g s) (fCmp g s) := by
  intro F H x y v u fx fy Q E e fa st rx ry _ _ w
  unfold fCmp at w
  split at w
  · exact Or.inl ⟨_, _, rx.1, ry.1, ret_d (d := .bl _) e fa st w rfl⟩
  · exact Or.inr ⟨_, _, rx.1, ry.1, ret_d (d := .bl _) e fa st w rfl⟩
  · exact w.elim
end
/-! ### is None -/
def isNon : LV → Option Bool
  | .fz .non => some true
  | .un => none
  | .bo .un => none
  | .bo (.fz _) => none
  | .bo (.bo _) => none
  | _ => some false
def fIsN (neg : Bool) : LV → LV → M LV
  | x, .fz .non => M.opt (isNon x) fun b => .ret (.fz (.bl (eqK neg b)))
  | _, _ => .bad
section
variable {K : PySem.W.Frag} {W : Wd} {F H : Hp}
theorem isNon_rep {x : LV} {v : V} {f : List Addr} {b : Bool} (h : isNon x = some b) (r : RepO K W F H x v f) : decide (v = .non) = b := by
  have ref : ∀ p : Addr, decide ((V.ref p) = .non) = false := fun p => decide_eq_false (fun z => by cases z)
  cases x with
  | un => exact r.elim
  | fz d =>
    cases d with
    | non => cases h; rw [show v = .non from r.1]; rfl
    | bl k => cases h; rw [show v = .bl k from r.1]; rfl
    | int k => cases h; rw [show v = .int k from r.1]; rfl
    | str k => cases h; rw [show v = .str k from r.1]; rfl
    | tup k => cases h; obtain ⟨⟨p, _, rfl, _⟩, _⟩ := r; exact ref p
    | lst k => cases h; obtain ⟨⟨p, _, rfl, _⟩, _⟩ := r; exact ref p
    | obj c k => cases h; obtain ⟨⟨p, _, _, rfl, _⟩, _⟩ := r; exact ref p
    | dK k => cases h; obtain ⟨⟨p, _, rfl, _⟩, _⟩ := r; exact ref p
    | st => cases h; rw [show v = .ref W.a from r.1]; exact ref _
  | os ds => cases h; obtain ⟨p, _, rfl, _⟩ := r; exact ref p
  | ol ds => cases h; obtain ⟨p, _, _, rfl, _⟩ := r; exact ref p
  | ok ds => cases h; obtain ⟨p, _, rfl, _⟩ := r; exact ref p
  | sf c p ds => cases h; obtain ⟨_, _, rfl, _⟩ := r; exact ref p
  | ex p dx c d => cases h; rw [show v = .ref p from r.1]; exact ref p
  | bo l =>
    cases l with
    | un => cases h
    | fz d => cases h
    | bo d => cases h
    | os ds => cases h; obtain ⟨p, _, rfl, _⟩ := r; exact ref p
    | ol ds => cases h; obtain ⟨p, _, _, rfl, _⟩ := r; exact ref p
    | ok ds => cases h; obtain ⟨p, _, rfl, _⟩ := r; exact ref p
    | ex p dx c d => cases h; rw [show v = .ref p from r.1]; exact ref p
    | sf c p ds => cases h; obtain ⟨_, _, rfl, _⟩ := r; exact ref p
theorem om_isN : OpM K W (fun x y H Q => y = .non ∧ Q (.bl (decide (x = .non))) H) (fIsN false) := by
  intro F H x y v u fx fy Q E e fa st rx ry _ _ w
  unfold fIsN at w
  split at w
  · obtain ⟨b, hb, w⟩ := M.wp_opt.mp w
    exact ⟨ry.1, by rw [isNon_rep hb rx]; exact ret_d (d := .bl _) e fa st w rfl⟩
  · exact w.elim
theorem om_notN : OpM K W (fun x y H Q => y = .non ∧ Q (.bl (!decide (x = .non))) H) (fIsN true) := by
  intro F H x y v u fx fy Q E e fa st rx ry _ _ w
  unfold fIsN at w
  split at w
  · obtain ⟨b, hb, w⟩ := M.wp_opt.mp w
    exact ⟨ry.1, by rw [isNon_rep hb rx]; exact ret_d (d := .bl _) e fa st w rfl⟩
  · exact w.elim
end
/-! ### in -/
def inStr (a b : Str) : Bool := !(Builtin.Str.occurrences b a 0 b.length 1).isEmpty
theorem inStr_one (c : Nat) (b : Str) : inStr ⟨#[c]⟩ b = decide (c ∈ b.cps.toList) := PySem.StrLaws.found_one b c
def flatD : D → Option V
  | .non => some .non
  | .bl b => some (.bl b)
  | .int i => some (.int i)
  | .str s => some (.str s)
  | _ => none
def flatDs : List D → Option (List V)
  | [] => some []
  | d :: r => match flatD d, flatDs r with
    | some v, some vs => some (v :: vs)
    | _, _ => none
def fIn (neg : Bool) : LV → LV → M LV
  | .fz (.str a), .fz (.str b) => .ret (.fz (.bl (eqK neg (inStr a b))))
  | x, y => M.opt ((peek x).bind flatD) fun v => M.opt ((seqD y).bind flatDs) fun vs => .ret (.fz (.bl (eqK neg (inV v vs))))
def rInA (K : PySem.W.Frag) (neg : Bool) : R2 := fun x y H Q => (∃ i j, x = .str i ∧ y = .str j ∧ Q (.bl (if neg then !inStr i j else inStr i j)) H) ∨ rIn K neg x y H Q
theorem op_inA {X : Cx} : OpR X (compareOp .In) (rInA X.K false) := OpR.or op_in_str op_in_seq
theorem op_notInA {X : Cx} : OpR X (compareOp .NotIn) (rInA X.K true) := OpR.or op_notin_str op_notIn_seq
section
variable {K : PySem.W.Frag} {W : Wd} {F H : Hp}
theorem flatD_rep {d : D} {v w : V} (h : flatD d = some v) (r : Rep K W F d w) : w = v ∧ flatV v = true := by
  cases d with
  | non => cases h; exact ⟨r, rfl⟩
  | bl b => cases h; exact ⟨r, rfl⟩
  | int b => cases h; exact ⟨r, rfl⟩
  | str b => cases h; exact ⟨r, rfl⟩
  | _ => cases h
theorem flatDs_rep : ∀ {ds : List D} {vs ws : List V}, flatDs ds = some vs → Reps K W F ds ws → ws = vs ∧ vs.all flatV = true
  | [], vs, ws, h, r => by cases h; exact ⟨r, rfl⟩
  | d :: ds, vs, ws, h, ⟨w, wr, a, b, c⟩ => by
    have h : (match flatD d, flatDs ds with
    | some v, some vs => some (v :: vs)
    | _, _ => none) = some vs := h
    cases h1 : flatD d with
    | none => rw [h1] at h; cases h
    | some v =>
      cases h2 : flatDs ds with
      | none => rw [h1, h2] at h; cases h
      | some vr =>
        rw [h1, h2] at h
        cases h
        obtain ⟨e1, f1⟩ := flatD_rep h1 b
        obtain ⟨e2, f2⟩ := flatDs_rep h2 c
        rw [a, e1, e2]
        exact ⟨rfl, by rw [List.all_cons, f1, f2]; rfl⟩
theorem om_in {neg : Bool} : OpM K W (rInA K neg) (fIn neg) := by
  intro F H x y v u fx fy Q E e fa st rx ry _ _ w
  unfold fIn at w
  split at w
  · exact Or.inl ⟨_, _, rx.1, ry.1, by cases neg <;> exact ret_d (d := .bl _) e fa st w rfl⟩
  · obtain ⟨p, hp, w⟩ := M.wp_opt.mp w
    obtain ⟨q, hq, w⟩ := M.wp_opt.mp w
    obtain ⟨d, hd, hd2⟩ := Option.bind_eq_some_iff.mp hp
    obtain ⟨ds, hs, hs2⟩ := Option.bind_eq_some_iff.mp hq
    obtain ⟨e1, f1⟩ := flatD_rep hd2 (peek_rep e hd rx)
    obtain ⟨a, vs, ea, hv, hr⟩ := seqD_rep e hs ry
    obtain ⟨e2, f2⟩ := flatDs_rep hs2 hr
    subst e1
    subst e2
    exact Or.inr ⟨a, vs, ea, hv, f1, f2, by cases neg <;> exact ret_d (d := .bl _) e fa st w rfl⟩
end
end Dn
end

section
set_option Elab.async false
set_option linter.all false
set_option maxRecDepth 100000
set_option maxHeartbeats 1000000
namespace Dn
open PySem PySem.Spec PyProof.Rows L2 Evl
/-! ## items, slices, calls of what Python brings -/
def brw : LV → LV
  | .fz d => .fz d
  | .un => .un
  | .bo l => .bo l
  | l => .bo l
def nestD : LV → Option (List LV)
  | .ol ls => some ls
  | .bo (.ol ls) => some ls
  | _ => none
def fIx : LV → LV → M LV
  | .fz (.str s), .fz (.int i) => M.opt (atI s.cps.toList i) fun c => .need (s.length ≤ 100000) (.ret (.fz (.str ⟨#[c]⟩)))
  | .ol ls, .fz (.int i) => M.opt (atI ls i) fun l => .ret (brw l)
  | .bo (.ol ls), .fz (.int i) => M.opt (atI ls i) fun l => .ret (brw l)
  | x, .fz (.int i) => M.opt (seqD x) fun ds => M.opt (atI ds i) fun d => .ret (.fz d)
  | _, _ => .bad
def cutD (ds : List D) (lo hi : Option Int) : List D := (ds.drop (HT.sIx ds.length 0 lo)).take (HT.sIx ds.length ds.length hi - HT.sIx ds.length 0 lo)
section
variable {K : PySem.W.Frag} {W : Wd} {F H : Hp}
theorem Reps.atI {ds : List D} {vs : List V} {i : Int} {d : D} (r : Reps K W F ds vs) (h : L2.atI ds i = some d) : ∃ v, L2.atI vs i = some v ∧ Rep K W F d v := by
  unfold L2.atI at h ⊢
  rw [Reps.length r]
  obtain ⟨j, h1, h2⟩ := Option.bind_eq_some_iff.mp h
  obtain ⟨v, h3, h4⟩ := Reps.get r h2
  exact ⟨v, by rw [h1]; exact h3, h4⟩
theorem RepOs.atI {ds : List LV} {vs : List V} {i : Int} {d : LV} {fp : List Addr} (r : RepOs K W F H ds vs fp) (h : L2.atI ds i = some d) : ∃ v f, L2.atI vs i = some v ∧ RepO K W F H d v f ∧ ∀ q ∈ f, q ∈ fp := by
  unfold L2.atI at h ⊢
  rw [RepOs.length r]
  obtain ⟨j, h1, h2⟩ := Option.bind_eq_some_iff.mp h
  obtain ⟨v, f, g, k, h3, h4, h5, _⟩ := RepOs.at r h2
  exact ⟨v, f, by rw [h1]; exact h3, h4, fun q hq => by rw [h5]; simp only [List.mem_append]; exact Or.inl (Or.inr hq)⟩
theorem brw_rep {l : LV} {v : V} {f : List Addr} (r : RepO K W F H l v f) : RepO K W F H (brw l) v f := by
  cases l <;> exact r
theorem brw_res {l : LV} {v : V} {f : List Addr} (e : Ex F H) (fa : F W.a = none) (st : StOk W H) (r : RepO K W F H l v f) (own : ∀ q ∈ f, F q = none ∧ q ≠ W.a ∧ q ≠ W.q) : Res K W F H F H (brw l) v f := by
  refine ⟨Step.refl e fa st, brw_rep r, own, fun h => ?_⟩
  cases l with
  | fz d => rw [show f = [] from r.2]; exact ⟨List.nodup_nil, fun _ h => absurd h List.not_mem_nil⟩
  | un => exact r.elim
  | _ => cases h
theorem om_ix : OpM K W (rIx K) fIx := by
  intro F H x y v u fx fy Q E e fa st rx ry ox _ w
  have nest : ∀ {ls : List LV} {i : Int} {f : List Addr}, RepO K W F H (.ol ls) v f → (∀ q ∈ f, F q = none ∧ q ≠ W.a ∧ q ≠ W.q) → u = .int i → (M.opt (atI ls i) fun l => .ret (brw l)).wp (fun lv => ∀ F' H' z f', Res K W F H F' H' lv z f' → Q z H') E → rIx K v u H Q := fun {ls i f} hr ho hu w => by
    obtain ⟨l, hl, w⟩ := M.wp_opt.mp w
    obtain ⟨p, vs, g, rfl, h1, h2, h3⟩ := hr
    obtain ⟨z, k, k1, k2, k3⟩ := RepOs.atI h2 hl
    exact Or.inl ⟨p, vs, i, z, rfl, hu, SqL.of h1, k1, w _ _ _ k (brw_res e fa st k2 (fun q hq => ho q (by rw [h3]; exact List.mem_cons_of_mem _ (k3 q hq))))⟩
  unfold fIx at w
  split at w
  · obtain ⟨c, hc, w1, w2⟩ := M.wp_opt.mp w
    exact Or.inr (Or.inr ⟨_, _, c, rx.1, ry.1, sz_of w1, hc, ret_d (d := .str _) e fa st w2 rfl⟩)
  · exact nest rx ox ry.1 w
  · exact nest rx ox ry.1 w
  · obtain ⟨ds, hs, w⟩ := M.wp_opt.mp w
    obtain ⟨d, hd, w⟩ := M.wp_opt.mp w
    obtain ⟨p, vs, rfl, h1, h2⟩ := seqD_rep e hs rx
    obtain ⟨z, k1, k2⟩ := Reps.atI h2 hd
    have q := ret_d (d := d) e fa st w k2
    rcases h1 with h1 | h1
    · exact Or.inl ⟨p, vs, _, z, rfl, ry.1, h1, k1, q⟩
    · exact Or.inr (Or.inl ⟨p, vs, _, z, rfl, ry.1, h1, k1, q⟩)
  · exact w.elim
theorem Reps.cut {ds : List D} {vs : List V} {lo hi : Option Int} (r : Reps K W F ds vs) : Reps K W F (cutD ds lo hi) (cutV vs lo hi) := by
  unfold cutD cutV
  rw [Reps.length r]
  exact Reps.take _ (Reps.drop _ r)
end
def SlM (K : PySem.W.Frag) (W : Wd) (r : V → Option Int → Option Int → Hp → VK → Prop) (f : LV → Option Int → Option Int → M LV) : Prop := ∀ ⦃F H : Hp⦄ ⦃x : LV⦄ ⦃v : V⦄ ⦃lo hi : Option Int⦄ ⦃fx : List Addr⦄ ⦃Q : VK⦄ ⦃E : Nat → D → Prop⦄, Ex F H → F W.a = none → StOk W H → RepO K W F H x v fx →
  (∀ q ∈ fx, F q = none ∧ q ≠ W.a ∧ q ≠ W.q) → (f x lo hi).wp (fun lv => ∀ F' H' z f', Res K W F H F' H' lv z f' → Q z H') E → r v lo hi H Q
def fSl : LV → Option Int → Option Int → M LV
  | .fz (.str s), lo, hi => .need (s.length ≤ 100000) (.ret (.fz (.str (cutS s lo hi))))
  | .fz (.tup ds), lo, hi => .ret (.fz (.tup (cutD ds lo hi)))
  | x, lo, hi => M.opt (listD x) fun ds => .ret (.os (cutD ds lo hi))
def rSlM (K : PySem.W.Frag) : V → Option Int → Option Int → Hp → VK → Prop := fun x lo hi H Q => rSlS x lo hi H Q ∨ rSlA K x lo hi H Q ∨ rSlL K x lo hi H Q
theorem sl_M {X : Cx} : SlR X (rSlM X.K) := SlR.or sl_str (SlR.or sl_tupA sl_list)
theorem sm_sl {K : PySem.W.Frag} {W : Wd} : SlM K W (rSlM K) fSl := by
  intro F H x v lo hi fx Q E e fa st rx ox w
  unfold fSl at w
  split at w
  · exact Or.inl ⟨_, rx.1, sz_of w.1, ret_d (d := .str _) e fa st w.2 rfl⟩
  · obtain ⟨⟨p, vs, rfl, h1, h2⟩, _⟩ := rx
    have hc := Reps.cut (lo := lo) (hi := hi) h2
    refine Or.inr (Or.inl ⟨p, vs, rfl, ex_t e h1, fun z => ?_, fun z q hq => ret_q w (Res.tup e fa st hq hc)⟩)
    have ew : cutV vs lo hi = vs := by
      unfold cutV
      rw [z.1, z.2, List.drop_zero, Nat.sub_zero, List.take_length]
    rw [ew] at hc
    exact ret_d (d := .tup _) e fa st w ⟨p, vs, rfl, h1, hc⟩
  · obtain ⟨ds, hd, w⟩ := M.wp_opt.mp w
    obtain ⟨p, vs, rfl, h1, h2⟩ := listD_rep e hd rx
    exact Or.inr (Or.inr ⟨p, vs, rfl, SqL.of h1, fun q hq => ret_q w (Res.lst0 e fa st hq (Reps.cut h2))⟩)
def oNone : List LV → M (Option Int) := fun _ => .ret none
def oSome (ma : Em) : List LV → M (Option Int) := fun ρ => (ma ρ).bind fun x => match x with
  | .fz (.int i) => .ret (some i)
  | _ => .bad
def mSl (f : LV → Option Int → Option Int → M LV) (ma : Em) (lo hi : List LV → M (Option Int)) : Em := fun ρ => (ma ρ).bind fun x => (lo ρ).bind fun l => (hi ρ).bind fun h => f x l h
section
variable {X : Cx} {W : Wd} {Wx : WX} {a b e : Expr} {ma mb : Em} {pos p2 : Pos} {lo hi : Option Expr} {ml mh : List LV → M (Option Int)}
theorem do_none : DO X W Wx none oNone := PO_imp po_none fun σ H Q ⟨F, ρ, fp, ok, w⟩ => w F H ok.refl
theorem do_some (h : DE X W Wx e ma) : DO X W Wx (some e) (oSome ma) := PO_imp (po_some h) fun σ H Q ⟨F, ρ, fp, ok, w⟩ => by
  refine ⟨F, ρ, fp, ok, M.wp_mono (M.wp_bind.mp w) (fun x wx F1 H1 v f1 r1 => ?_) (fun c d h => h)⟩
  cases x with
  | fz d =>
    cases d with
    | int i => exact ⟨i, r1.rep.1, wx F1 H1 r1.step⟩
    | _ => exact wx.elim
  | _ => exact wx.elim
theorem own_step {K : PySem.W.Frag} {F H F' H' F1 H1 : Hp} {x : LV} {v : V} {f : List Addr} (r1 : Res K W F1 H1 F H x v f) (s : Step W [] F H F' H') : RepO K W F' H' x v f ∧ ∀ q ∈ f, F' q = none ∧ q ≠ W.a ∧ q ≠ W.q := by
  refine ⟨RepO.step r1.rep (fun q hq => (r1.own q hq).2.1) s, fun q hq => ⟨?_, (r1.own q hq).2⟩⟩
  rcases s.nf q (r1.own q hq).1 with z | z | z
  · exact z
  · obtain ⟨o, e⟩ := RepO.there r1.rep q hq
    rw [e] at z
    cases z
  · cases z
theorem de_sl {r : V → Option Int → Option Int → Hp → VK → Prop} {f : LV → Option Int → Option Int → M LV} (hr : SlR X r) (hf : SlM X.K W r f) (ha : DE X W Wx a ma) (hl : DO X W Wx lo ml) (hh : DO X W Wx hi mh) : DE X W Wx (.Subscript a (.Slice lo hi none p2) pos) (mSl f ma ml mh) := PE_imp (pe_slice hr ha hl hh) fun σ H Q ⟨F, ρ, fp, ok, w⟩ => by
  refine ⟨F, ρ, fp, ok, M.wp_mono (M.wp_bind.mp w) (fun x wx F1 H1 v f1 r1 => ?_) (fun c d h => h)⟩
  refine ⟨F1, ρ, fp, ok.step r1.step, M.wp_mono (M.wp_bind.mp wx) (fun l wl F2 H2 s2 => ?_) (fun c d h => h.step r1.step)⟩
  have s12 := r1.step.trans0 s2
  refine ⟨F2, ρ, fp, ok.step s12, M.wp_mono (M.wp_bind.mp wl) (fun h wh F3 H3 s3 => ?_) (fun c d h => h.step s12)⟩
  obtain ⟨k1, k2⟩ := own_step r1 (s2.trans0 s3)
  exact hf s3.sub s3.fa s3.st k1 k2 (M.wp_mono wh (fun lv k F' H' z f' rz => k F' H' z f' (rz.pre (s12.trans0 s3))) (fun c d h => h))
theorem de_ix (ha : DE X W Wx a ma) (hb : DE X W Wx b mb) (hs : PlainIx b := by exact fun _ _ => rfl) : DE X W Wx (.Subscript a b pos) (m2 fIx ma mb) := PE_imp (pe_ix ix_seq ha hb hs) fun σ H Q h => te_op2 om_ix h
def mRevL (ma : Em) : Em := fun ρ => (ma ρ).bind fun x => M.opt (listD x) fun ds => .ret (.os ds.reverse)
def mRevS (ma : Em) : Em := fun ρ => (ma ρ).bind fun x => match x with
  | .fz (.str s) => .need (s.length ≤ 100000) (.ret (.fz (.str (revS s))))
  | _ => .bad
theorem Reps.rev {K : PySem.W.Frag} {F : Hp} : ∀ {ds : List D} {vs : List V}, Reps K W F ds vs → Reps K W F ds.reverse vs.reverse
  | [], _, h => by rw [show _ = [] from h]; rfl
  | d :: ds, _, ⟨v, r, a, b, c⟩ => by
    rw [a, List.reverse_cons, List.reverse_cons]
    exact Reps.append (Reps.rev c) ⟨v, [], rfl, b, rfl⟩
theorem de_revS {k : Nat} {p1 p2 p3 : Pos} (ha : DE X W Wx a ma) : DE X W Wx (.Subscript a (.Slice none none (some (.UnaryOp .USub (.Constant (.int 1) k p1) p2)) p3) pos) (mRevS ma) := PE_imp (pe_revS ha) fun σ H Q ⟨F, ρ, fp, ok, w⟩ => by
  refine ⟨F, ρ, fp, ok, M.wp_mono (M.wp_bind.mp w) (fun x wx F1 H1 v f1 r1 => ?_) (fun c d h => h)⟩
  cases x with
  | fz d =>
    cases d with
    | str s => exact ⟨s, r1.rep.1, sz_of wx.1, wx.2 _ _ _ [] ((Res.val (d := .str _) r1.step.sub r1.step.fa r1.step.st rfl).pre r1.step)⟩
    | _ => exact wx.elim
  | _ => exact wx.elim
theorem de_revL {k : Nat} {p1 p2 p3 : Pos} (ha : DE X W Wx a ma) : DE X W Wx (.Subscript a (.Slice none none (some (.UnaryOp .USub (.Constant (.int 1) k p1) p2)) p3) pos) (mRevL ma) := PE_imp (pe_revL ha) fun σ H Q ⟨F, ρ, fp, ok, w⟩ => by
  refine ⟨F, ρ, fp, ok, M.wp_mono (M.wp_bind.mp w) (fun x wx F1 H1 v f1 r1 => ?_) (fun c d h => h)⟩
  obtain ⟨ds, hd, wx⟩ := M.wp_opt.mp wx
  obtain ⟨p, vs, rfl, h1, h2⟩ := listD_rep r1.step.sub hd r1.rep
  exact ⟨p, vs, rfl, SqL.of h1, fun q hq => wx _ _ _ _ ((Res.lst0 r1.step.sub r1.step.fa r1.step.st hq (Reps.rev h2)).pre r1.step)⟩
end
/-! ### calls by name -/
def CaM (K : PySem.W.Frag) (W : Wd) (r : List V → Hp → VK → Prop) (f : List LV → M LV) : Prop := ∀ ⦃F H : Hp⦄ ⦃xs : List LV⦄ ⦃vs : List V⦄ ⦃fx : List Addr⦄ ⦃Q : VK⦄ ⦃E : Nat → D → Prop⦄, Ex F H → F W.a = none → StOk W H → RepOs K W F H xs vs fx →
  (∀ q ∈ fx, F q = none ∧ q ≠ W.a ∧ q ≠ W.q) → (f xs).wp (fun lv => ∀ F' H' z f', Res K W F H F' H' lv z f' → Q z H') E → r vs H Q
def mCB (f : List LV → M LV) (ma : Ema) : Em := fun ρ => (ma ρ).bind f
section
variable {X : Cx} {W : Wd} {Wx : WX} {e : Expr} {es : List Expr} {ma : Ema} {pos p : Pos} {r : List V → Hp → VK → Prop} {f : List LV → M LV} {x : Str}
theorem te_cb {K : PySem.W.Frag} (hf : CaM K W r f) {σ : L2.St} {H : Hp} {Q : VK} (h : teM K W Wx (mCB f ma) σ H Q) : tCB r (taM K W Wx ma) σ H Q := by
  obtain ⟨F, ρ, fp, ok, w⟩ := h
  refine ⟨F, ρ, fp, ok, M.wp_mono (M.wp_bind.mp w) (fun x wx F1 H1 v f1 r1 => ?_) (fun c d h => h)⟩
  exact hf r1.step.sub r1.step.fa r1.step.st r1.rep r1.own (M.wp_mono wx (fun lv k F' H' z f' rz => k F' H' z f' (rz.pre r1.step)) (fun c d h => h))
theorem de_cb {id : String} (hc : CallR X (.builtin id) r) (hf : CaM X.K W r f) (hg : Gl X x) (hm : X.mg x = none) (hv : bootBuiltins x = some (.builtin id)) (ha : DA X W Wx (e :: es) ma) (hn : x ≠ "__name__" := by decide) (hdb : (x == ("__debug__" : Str)) = false := by decide)
    (h1 : starEach (e :: es) X.env = (false, eval e X.env) :: starEach es X.env := by rfl) (h2 : (backTo pos (starEach es X.env)).any (·.1) = false := by rfl) : DE X W Wx (.Call (.Name x p) (e :: es) [] pos) (mCB f ma) :=
  PE_imp (pe_callB hc hg hm hv ha hn hdb h1 h2) fun σ H Q h => te_cb hf h
theorem de_cty {T : String} (hc : CallR X (.type T) r) (hf : CaM X.K W r f) (hg : Gl X x) (hm : X.mg x = none) (hv : bootBuiltins x = some (.type T)) (ha : DA X W Wx (e :: es) ma) (hn : x ≠ "__name__" := by decide) (hdb : (x == ("__debug__" : Str)) = false := by decide)
    (h1 : starEach (e :: es) X.env = (false, eval e X.env) :: starEach es X.env := by rfl) (h2 : (backTo pos (starEach es X.env)).any (·.1) = false := by rfl) : DE X W Wx (.Call (.Name x p) (e :: es) [] pos) (mCB f ma) :=
  PE_imp (pe_callTy hc hg hm hv ha hn hdb h1 h2) fun σ H Q h => te_cb hf h
theorem CallR_or {g : Value} {r r' : List V → Hp → VK → Prop} (h : CallR X g r) (h' : CallR X g r') : CallR X g (fun xs H Q => r xs H Q ∨ r' xs H Q) := fun pins s σ H xs us Q I rv q => q.elim (h pins s σ H xs us Q I rv) (h' pins s σ H xs us Q I rv)
end
def intsD : List D → Option (List Int)
  | [] => some []
  | .int i :: r => (intsD r).map (i :: ·)
  | _ => none
def blsD : List D → Option (List Bool)
  | [] => some []
  | .bl i :: r => (blsD r).map (i :: ·)
  | _ => none
def strsD : List D → Option (List Str)
  | [] => some []
  | .str i :: r => (strsD r).map (i :: ·)
  | _ => none
section
variable {K : PySem.W.Frag} {W : Wd} {F H : Hp}
theorem intsD_map : ∀ ns : List Int, intsD (ns.map .int) = some ns
  | [] => rfl
  | n :: r => by
    show (intsD (r.map .int)).map (n :: ·) = _
    rw [intsD_map r]
    rfl
theorem blsD_map : ∀ ns : List Bool, blsD (ns.map .bl) = some ns
  | [] => rfl
  | n :: r => by
    show (blsD (r.map .bl)).map (n :: ·) = _
    rw [blsD_map r]
    rfl
theorem strsD_map : ∀ ns : List Str, strsD (ns.map .str) = some ns
  | [] => rfl
  | n :: r => by
    show (strsD (r.map .str)).map (n :: ·) = _
    rw [strsD_map r]
    rfl
theorem intsD_rep : ∀ {ds : List D} {ns : List Int} {vs : List V}, intsD ds = some ns → Reps K W F ds vs → vs = ns.map V.int
  | [], ns, vs, h, r => by cases h; exact r
  | d :: ds, ns, vs, h, ⟨v, vr, a, b, c⟩ => by
    cases d with
    | int i =>
      have h : (intsD ds).map (i :: ·) = some ns := h
      obtain ⟨m, h1, h2⟩ := Option.map_eq_some_iff.mp h
      rw [a, ← h2, List.map_cons, intsD_rep h1 c, show v = .int i from b]
    | _ => cases h
theorem blsD_rep : ∀ {ds : List D} {ns : List Bool} {vs : List V}, blsD ds = some ns → Reps K W F ds vs → vs = ns.map V.bl
  | [], ns, vs, h, r => by cases h; exact r
  | d :: ds, ns, vs, h, ⟨v, vr, a, b, c⟩ => by
    cases d with
    | bl i =>
      have h : (blsD ds).map (i :: ·) = some ns := h
      obtain ⟨m, h1, h2⟩ := Option.map_eq_some_iff.mp h
      rw [a, ← h2, List.map_cons, blsD_rep h1 c, show v = .bl i from b]
    | _ => cases h
theorem strsD_rep : ∀ {ds : List D} {ns : List Str} {vs : List V}, strsD ds = some ns → Reps K W F ds vs → vs = ns.map V.str
  | [], ns, vs, h, r => by cases h; exact r
  | d :: ds, ns, vs, h, ⟨v, vr, a, b, c⟩ => by
    cases d with
    | str i =>
      have h : (strsD ds).map (i :: ·) = some ns := h
      obtain ⟨m, h1, h2⟩ := Option.map_eq_some_iff.mp h
      rw [a, ← h2, List.map_cons, strsD_rep h1 c, show v = .str i from b]
    | _ => cases h
theorem reps_strs : ∀ (ns : List Str), Reps K W F (ns.map .str) (ns.map V.str)
  | [] => rfl
  | n :: r => ⟨_, _, rfl, rfl, reps_strs r⟩
theorem reps_ints : ∀ (ns : List Int), Reps K W F (ns.map .int) (ns.map V.int)
  | [] => rfl
  | n :: r => ⟨_, _, rfl, rfl, reps_ints r⟩
/-- the one argument -/
theorem repOs1 {x : LV} {xs : List LV} {vs : List V} {f : List Addr} (h : xs = [x]) (r : RepOs K W F H xs vs f) : ∃ v, vs = [v] ∧ RepO K W F H x v f := by
  subst h
  obtain ⟨v, r', g, k, a, b, c, e⟩ := r
  obtain ⟨rfl, rfl⟩ := c
  rw [List.append_nil] at e
  exact ⟨v, a, by rw [e]; exact b⟩
theorem repOs2 {x y : LV} {xs : List LV} {vs : List V} {f : List Addr} (h : xs = [x, y]) (r : RepOs K W F H xs vs f) : ∃ v w g k, vs = [v, w] ∧ RepO K W F H x v g ∧ RepO K W F H y w k ∧ f = g ++ k := by
  subst h
  obtain ⟨v, r', g, k, a, b, c, e⟩ := r
  obtain ⟨w, a2, b2⟩ := repOs1 rfl c
  rw [a2] at a
  exact ⟨v, w, g, k, a, b, b2, e⟩
end
/-! len, list, tuple, sum, all, any, int, str, abs, max, min -/
def fLen : List LV → M LV
  | [.fz (.str s)] => .need (s.length ≤ 100000) (.ret (.fz (.int (s.length : Int))))
  | [.ol ls] => .ret (.fz (.int (ls.length : Int)))
  | [.bo (.ol ls)] => .ret (.fz (.int (ls.length : Int)))
  | [x] => M.opt (seqD x) fun ds => .ret (.fz (.int (ds.length : Int)))
  | _ => .bad
def fList : List LV → M LV
  | [.fz (.str s)] => .need (s.length ≤ 100000) (.ret (.os (s.cps.toList.map fun c => .str ⟨#[c]⟩)))
  | [x] => M.opt (seqD x) fun ds => .ret (.os ds)
  | _ => .bad
def fTuple : List LV → M LV
  | [x] => M.opt (seqD x) fun ds => .ret (.fz (.tup ds))
  | _ => .bad
def fSum : List LV → M LV
  | [x] => M.opt (listD x) fun ds => M.opt (intsD ds) fun ns => .ret (.fz (.int ns.sum))
  | _ => .bad
def fAll : List LV → M LV
  | [x] => M.opt (listD x) fun ds => M.opt (blsD ds) fun ns => .ret (.fz (.bl (ns.all id)))
  | _ => .bad
def fAny : List LV → M LV
  | [x] => M.opt (listD x) fun ds => M.opt (blsD ds) fun ns => .ret (.fz (.bl (ns.any id)))
  | _ => .bad
def fInt : List LV → M LV
  | [.fz (.int i)] => .ret (.fz (.int i))
  | [.fz (.bl b)] => .ret (.fz (.int (if b then 1 else 0)))
  | [.fz (.str s)] => M.opt (PySem.intText? s) fun n => .need (s.length ≤ 640) (.ret (.fz (.int n)))
  | _ => .bad
def fStr : List LV → M LV
  | [.fz (.int i)] => .need (i.natAbs.log2 < 1920) (.ret (.fz (.str (toString i))))
  | [.fz (.str s)] => .ret (.fz (.str s))
  | _ => .bad
def fAbs : List LV → M LV
  | [.fz (.int i)] => .ret (.fz (.int (if i < 0 then -i else i)))
  | _ => .bad
def fMax2 : List LV → M LV
  | [.fz (.int i), .fz (.int j)] => .ret (.fz (.int (if j > i then j else i)))
  | _ => .bad
def fMin2 : List LV → M LV
  | [.fz (.int i), .fz (.int j)] => .ret (.fz (.int (if j < i then j else i)))
  | _ => .bad
def rLenM (K : PySem.W.Frag) : List V → Hp → VK → Prop := fun xs H Q => ∃ x n, xs = [x] ∧ LenV K x H n ∧ Q (.int n) H
def rListM (K : PySem.W.Frag) : List V → Hp → VK → Prop := fun xs H Q => (∃ z, xs = [.str z] ∧ z.length ≤ sizeLine ∧ ∀ l, H l = none → Q (.ref l) (upd H l (.lst (signsV z)))) ∨ (∃ p ys, xs = [.ref p] ∧ (SqL K H p ys ∨ SqT K H p ys) ∧ ∀ l, H l = none → Q (.ref l) (upd H l (.lst ys)))
def rTupleM (K : PySem.W.Frag) : List V → Hp → VK → Prop := fun xs H Q => ∃ p ys, xs = [.ref p] ∧ ((SqL K H p ys ∧ ∀ l, H l = none → Q (.ref l) (upd H l (.tup ys))) ∨ (SqT K H p ys ∧ Q (.ref p) H))
def rIntM : List V → Hp → VK → Prop := fun xs H Q => ((∃ i, xs = [.int i] ∧ Q (.int i) H) ∨ ∃ k, xs = [.bl k] ∧ Q (.int (if k then 1 else 0)) H) ∨ ∃ a n, xs = [.str a] ∧ PySem.intText? a = some n ∧ a.length ≤ 640 ∧ Q (.int n) H
def rStrM : List V → Hp → VK → Prop := fun xs H Q => (∃ i, xs = [.int i] ∧ i.natAbs.log2 < 1920 ∧ Q (.str (toString i)) H) ∨ ∃ a, xs = [.str a] ∧ Q (.str a) H
def rAbsM : List V → Hp → VK → Prop := fun xs H Q => ∃ i, xs = [.int i] ∧ Q (.int (if i < 0 then -i else i)) H
def rMaxM : List V → Hp → VK → Prop := fun xs H Q => ∃ i j, xs = [.int i, .int j] ∧ Q (.int (if j > i then j else i)) H
def rMinM : List V → Hp → VK → Prop := fun xs H Q => ∃ i j, xs = [.int i, .int j] ∧ Q (.int (if j < i then j else i)) H
section
variable {X : Cx}
theorem call_lenM : CallR X (.builtin "len") (rLenM X.K) := call_len
theorem call_listM (hc : X.calm = true) : CallR X (.type "list") (rListM X.K) := CallR_or (call_list_str hc) call_list_of
theorem call_tupleM : CallR X (.type "tuple") (rTupleM X.K) := call_tuple_of
theorem call_intM : CallR X (.type "int") rIntM := CallR_or call_int1 call_int_str
theorem call_strM : CallR X (.type "str") rStrM := CallR_or call_str_int SkE.call_str_str
theorem call_absM : CallR X (.builtin "abs") rAbsM := call_abs
theorem call_maxM (hc : X.calm = true) : CallR X (.builtin "max") rMaxM := call_max2 hc
theorem call_minM (hc : X.calm = true) : CallR X (.builtin "min") rMinM := call_min2 hc
variable {K : PySem.W.Frag} {W : Wd}
theorem cm_len : CaM K W (rLenM K) fLen := by
  intro F H xs vs fx Q E e fa st r own w
  have nest : ∀ {l : LV} {ls : List LV}, xs = [l] → (l = .ol ls ∨ l = .bo (.ol ls)) → (M.ret (.fz (.int (ls.length : Int)))).wp (fun lv => ∀ F' H' z f', Res K W F H F' H' lv z f' → Q z H') E → rLenM K vs H Q := fun {l ls} hx hl w => by
    obtain ⟨v, rfl, rv⟩ := repOs1 hx r
    have rv : RepO K W F H (.ol ls) v fx := by rcases hl with rfl | rfl <;> exact rv
    obtain ⟨p, ws, g, rfl, h1, h2, _⟩ := rv
    exact ⟨_, ws.length, rfl, Or.inl ⟨ws, SqL.of h1, rfl⟩, by rw [RepOs.length h2]; exact ret_d (d := .int _) e fa st w rfl⟩
  unfold fLen at w
  split at w
  · obtain ⟨v, rfl, rv⟩ := repOs1 rfl r
    exact ⟨_, _, rfl, by rw [rep_s rv]; exact ⟨sz_of w.1, rfl⟩, ret_d (d := .int _) e fa st w.2 rfl⟩
  · exact nest rfl (Or.inl rfl) w
  · exact nest rfl (Or.inr rfl) w
  · obtain ⟨v, rfl, rv⟩ := repOs1 rfl r
    obtain ⟨ds, hd, w⟩ := M.wp_opt.mp w
    obtain ⟨p, ws, rfl, h1, h2⟩ := seqD_rep e hd rv
    refine ⟨_, ws.length, rfl, ?_, by rw [Reps.length h2]; exact ret_d (d := .int _) e fa st w rfl⟩
    exact h1.elim (fun h => Or.inl ⟨ws, h, rfl⟩) (fun h => Or.inr ⟨ws, h, rfl⟩)
  · exact w.elim
theorem reps_signs {F : Hp} (s : Str) : Reps K W F (s.cps.toList.map fun c => .str ⟨#[c]⟩) (signsV s) := by
  have h := reps_strs (K := K) (W := W) (F := F) (s.cps.toList.map fun c => (⟨#[c]⟩ : Str))
  rw [List.map_map, List.map_map] at h
  exact h
theorem cm_list : CaM K W (rListM K) fList := by
  intro F H xs vs fx Q E e fa st r own w
  unfold fList at w
  split at w
  · obtain ⟨v, rfl, rv⟩ := repOs1 rfl r
    exact Or.inl ⟨_, by rw [rep_s rv], sz_of w.1, fun l hl => ret_q w.2 (Res.lst0 e fa st hl (reps_signs _))⟩
  · obtain ⟨v, rfl, rv⟩ := repOs1 rfl r
    obtain ⟨ds, hd, w⟩ := M.wp_opt.mp w
    obtain ⟨p, ws, rfl, h1, h2⟩ := seqD_rep e hd rv
    exact Or.inr ⟨p, ws, rfl, h1, fun l hl => ret_q w (Res.lst0 e fa st hl h2)⟩
  · exact w.elim
theorem cm_tuple : CaM K W (rTupleM K) fTuple := by
  intro F H xs vs fx Q E e fa st r own w
  unfold fTuple at w
  split at w
  · rename_i x
    obtain ⟨v, rfl, rv⟩ := repOs1 rfl r
    obtain ⟨ds, hd, w⟩ := M.wp_opt.mp w
    by_cases ht : ∃ es, x = .fz (.tup es)
    · obtain ⟨es, rfl⟩ := ht
      cases hd
      obtain ⟨⟨p, ws, rfl, h1, h2⟩, _⟩ := rv
      exact ⟨p, ws, rfl, Or.inr ⟨ex_t e h1, ret_d (d := .tup _) e fa st w ⟨p, ws, rfl, h1, h2⟩⟩⟩
    · have hd : listD x = some ds := by
        cases x with
        | fz d =>
          cases d with
          | tup es => exact absurd ⟨es, rfl⟩ ht
          | _ => exact hd
        | _ => exact hd
      obtain ⟨p, ws, rfl, h1, h2⟩ := listD_rep e hd rv
      exact ⟨p, ws, rfl, Or.inl ⟨SqL.of h1, fun l hl => ret_q w (Res.tup e fa st hl h2)⟩⟩
  · exact w.elim
theorem cm_sum : CaM K W (rSum K) fSum := by
  intro F H xs vs fx Q E e fa st r own w
  unfold fSum at w
  split at w
  · obtain ⟨v, rfl, rv⟩ := repOs1 rfl r
    obtain ⟨ds, hd, w⟩ := M.wp_opt.mp w
    obtain ⟨ns, hn, w⟩ := M.wp_opt.mp w
    obtain ⟨p, ws, rfl, h1, h2⟩ := listD_rep e hd rv
    exact ⟨p, ns, rfl, SqL.of (by rw [← intsD_rep hn h2]; exact h1), ret_d (d := .int _) e fa st w rfl⟩
  · exact w.elim
theorem cm_all : CaM K W (rAll K) fAll := by
  intro F H xs vs fx Q E e fa st r own w
  unfold fAll at w
  split at w
  · obtain ⟨v, rfl, rv⟩ := repOs1 rfl r
    obtain ⟨ds, hd, w⟩ := M.wp_opt.mp w
    obtain ⟨ns, hn, w⟩ := M.wp_opt.mp w
    obtain ⟨p, ws, rfl, h1, h2⟩ := listD_rep e hd rv
    exact ⟨p, ns, rfl, SqL.of (by rw [← blsD_rep hn h2]; exact h1), ret_d (d := .bl _) e fa st w rfl⟩
  · exact w.elim
theorem cm_any : CaM K W (rAny K) fAny := by
  intro F H xs vs fx Q E e fa st r own w
  unfold fAny at w
  split at w
  · obtain ⟨v, rfl, rv⟩ := repOs1 rfl r
    obtain ⟨ds, hd, w⟩ := M.wp_opt.mp w
    obtain ⟨ns, hn, w⟩ := M.wp_opt.mp w
    obtain ⟨p, ws, rfl, h1, h2⟩ := listD_rep e hd rv
    exact ⟨p, ns, rfl, SqL.of (by rw [← blsD_rep hn h2]; exact h1), ret_d (d := .bl _) e fa st w rfl⟩
  · exact w.elim
theorem cm_int : CaM K W rIntM fInt := by
  intro F H xs vs fx Q E e fa st r own w
  unfold fInt at w
  split at w
  · obtain ⟨v, rfl, rv⟩ := repOs1 rfl r
    exact Or.inl (Or.inl ⟨_, by rw [rep_i rv], ret_d (d := .int _) e fa st w rfl⟩)
  · obtain ⟨v, rfl, rv⟩ := repOs1 rfl r
    exact Or.inl (Or.inr ⟨_, by rw [rep_b rv], ret_d (d := .int _) e fa st w rfl⟩)
  · obtain ⟨v, rfl, rv⟩ := repOs1 rfl r
    obtain ⟨n, hn, w1, w⟩ := M.wp_opt.mp w
    exact Or.inr ⟨_, n, by rw [rep_s rv], hn, w1, ret_d (d := .int _) e fa st w rfl⟩
  · exact w.elim
theorem cm_str : CaM K W rStrM fStr := by
  intro F H xs vs fx Q E e fa st r own w
  unfold fStr at w
  split at w
  · obtain ⟨v, rfl, rv⟩ := repOs1 rfl r
    exact Or.inl ⟨_, by rw [rep_i rv], w.1, ret_d (d := .str _) e fa st w.2 rfl⟩
  · obtain ⟨v, rfl, rv⟩ := repOs1 rfl r
    exact Or.inr ⟨_, by rw [rep_s rv], ret_d (d := .str _) e fa st w rfl⟩
  · exact w.elim
theorem cm_abs : CaM K W rAbsM fAbs := by
  intro F H xs vs fx Q E e fa st r own w
  unfold fAbs at w
  split at w
  · obtain ⟨v, rfl, rv⟩ := repOs1 rfl r
    exact ⟨_, by rw [rep_i rv], ret_d (d := .int _) e fa st w rfl⟩
  · exact w.elim
theorem cm_max2 : CaM K W rMaxM fMax2 := by
  intro F H xs vs fx Q E e fa st r own w
  unfold fMax2 at w
  split at w
  · obtain ⟨v, u, g, k, rfl, rv, ru, _⟩ := repOs2 rfl r
    exact ⟨_, _, by rw [rep_i rv, rep_i ru], ret_d (d := .int _) e fa st w rfl⟩
  · exact w.elim
theorem cm_min2 : CaM K W rMinM fMin2 := by
  intro F H xs vs fx Q E e fa st r own w
  unfold fMin2 at w
  split at w
  · obtain ⟨v, u, g, k, rfl, rv, ru, _⟩ := repOs2 rfl r
    exact ⟨_, _, by rw [rep_i rv, rep_i ru], ret_d (d := .int _) e fa st w rfl⟩
  · exact w.elim
end
end Dn
end

section
set_option Elab.async false
set_option linter.all false
set_option maxRecDepth 100000
set_option maxHeartbeats 1000000
namespace Dn
open PySem PySem.Spec PyProof.Rows L2 Evl
/-! ## statements -/
inductive Fl where
  | next (ρ : List LV) | ret (l : LV) | brk (ρ : List LV) | cont (ρ : List LV) | exn (ρ : List LV) (c : Nat) (d : D)
namespace M
variable {α : Type}
/-- an error of an expression flies from here -/
def tr (ρ : List LV) : M α → (α → M Fl) → M Fl
  | .ret a, f => f a
  | .pick S k, f => .pick S fun d => (k d).tr ρ f
  | .need p m, f => .need p (m.tr ρ f)
  | .exc c d, _ => .ret (.exn ρ c d)
  | .bad, _ => .bad
theorem wp_tr {ρ : List LV} {P : Fl → Prop} {E : Nat → D → Prop} {f : α → M Fl} : ∀ {m : M α}, (m.tr ρ f).wp P E ↔ m.wp (fun a => (f a).wp P E) (fun c d => P (.exn ρ c d))
  | .ret _ => Iff.rfl
  | .pick _ _ => ⟨fun h d hd => wp_tr.mp (h d hd), fun h d hd => wp_tr.mpr (h d hd)⟩
  | .need _ _ => ⟨fun h => ⟨h.1, wp_tr.mp h.2⟩, fun h => ⟨h.1, wp_tr.mpr h.2⟩⟩
  | .exc _ _ => Iff.rfl
  | .bad => Iff.rfl
end M
abbrev Sm := List LV → M Fl
def goP (K : PySem.W.Frag) (W : Wd) (F H : Hp) (fp : List Addr) (N : L2.St → Hp → Prop) (ρ' : List LV) : Prop := ∀ F' H' σ' fp', Step W fp F H F' H' → Ok K W F' H' ρ' σ' fp' → (∀ q ∈ fp', q ∈ fp ∨ H q = none) → N σ' H'
def reP (K : PySem.W.Frag) (W : Wd) (F H : Hp) (fp : List Addr) (R : VK) (l : LV) : Prop := ∀ F' H' v f, Step W fp F H F' H' → RepO K W F' H' l v f → (∀ q ∈ f, F' q = none ∧ q ≠ W.a ∧ q ≠ W.q) → f.Nodup → (∀ q ∈ f, q ∈ fp ∨ H q = none) → R v H'
def exP (K : PySem.W.Frag) (W : Wd) (Wx : WX) (F H : Hp) (fp : List Addr) (ρ' : List LV) (c : Nat) (d : D) : Prop :=
  ∀ F' H' σ' fp' dx v, Step W fp F H F' H' → Ok K W F' H' ρ' σ' fp' → (∀ q ∈ fp', q ∈ fp ∨ H q = none) → H dx = none → H' dx = some (.xd [(("value" : Str), v)]) → Rep K W F' d v → Wx (.ref (W.cl c)) (some dx) σ' H'
def flP (K : PySem.W.Frag) (W : Wd) (Wx : WX) (F H : Hp) (fp : List Addr) (D : Ends) : Fl → Prop
  | .next ρ' => goP K W F H fp D.nx ρ'
  | .brk ρ' => goP K W F H fp D.bk ρ'
  | .cont ρ' => goP K W F H fp D.ct ρ'
  | .ret l => reP K W F H fp D.rt l
  | .exn ρ' c d => exP K W Wx F H fp ρ' c d
/-- no error leaves a statement but by Fl.exn -/
abbrev no2 : Nat → D → Prop := fun _ _ => False
def tsM (K : PySem.W.Frag) (W : Wd) (Wx : WX) (m : Sm) : TS := fun D σ H => ∃ F ρ fp, Ok K W F H ρ σ fp ∧ (m ρ).wp (flP K W Wx F H fp D) no2
def DS (X : Cx) (W : Wd) (Wx : WX) (st : Stmt) (m : Sm) : Prop := PS X st (tsM X.K W Wx m)
def DSs (X : Cx) (W : Wd) (Wx : WX) (st : List Stmt) (m : Sm) : Prop := PSs X st (tsM X.K W Wx m)
section
variable {K : PySem.W.Frag} {W : Wd} {Wx : WX} {F F' H H' : Hp} {ρ : List LV} {σ : L2.St} {fp fp' : List Addr} {En : Ends}
theorem goP.step {N : L2.St → Hp → Prop} {ρ' : List LV} (h : goP K W F H fp N ρ') (s : Step W fp F H F' H') (sub : ∀ q ∈ fp', q ∈ fp ∨ H q = none) : goP K W F' H' fp' N ρ' := fun F2 H2 σ2 f2 s2 ok sb =>
  h F2 H2 σ2 f2 (s.trans s2 sub) ok (fun q hq => (sb q hq).elim (sub q) (fun z => Or.inr (s.free z)))
theorem reP.step {N : VK} {l : LV} (h : reP K W F H fp N l) (s : Step W fp F H F' H') (sub : ∀ q ∈ fp', q ∈ fp ∨ H q = none) : reP K W F' H' fp' N l := fun F2 H2 v f s2 r own nd sb =>
  h F2 H2 v f (s.trans s2 sub) r own nd (fun q hq => (sb q hq).elim (sub q) (fun z => Or.inr (s.free z)))
theorem exP.step {ρ' : List LV} {c : Nat} {d : D} (h : exP K W Wx F H fp ρ' c d) (s : Step W fp F H F' H') (sub : ∀ q ∈ fp', q ∈ fp ∨ H q = none) : exP K W Wx F' H' fp' ρ' c d := fun F2 H2 σ2 f2 dx v s2 ok sb n e r =>
  h F2 H2 σ2 f2 dx v (s.trans s2 sub) ok (fun q hq => (sb q hq).elim (sub q) (fun z => Or.inr (s.free z))) (s.free n) e r
theorem flP.step {fl : Fl} (h : flP K W Wx F H fp En fl) (s : Step W fp F H F' H') (sub : ∀ q ∈ fp', q ∈ fp ∨ H q = none) : flP K W Wx F' H' fp' En fl := by
  cases fl with
  | next ρ => exact goP.step h s sub
  | brk ρ => exact goP.step h s sub
  | cont ρ => exact goP.step h s sub
  | ret l => exact reP.step h s sub
  | exn ρ c d => exact exP.step h s sub
theorem exP.toE {c : Nat} {d : D} (ok : Ok K W F H ρ σ fp) (h : exP K W Wx F H fp ρ c d) : excE K W Wx σ F H c d := fun F2 H2 dx v s2 n e r => h F2 H2 σ fp dx v s2.any (ok.step s2) (fun q hq => Or.inl hq) n e r
theorem sub_refl : ∀ q ∈ fp, q ∈ fp ∨ H q = none := fun q h => Or.inl h
/-- a slot stored -/
theorem Ok.set {i : Nat} {l lv : LV} {x : Option V} {f : List Addr} (ok : Ok K W F H ρ σ fp) (hi : ρ[i]? = some l) (s : Step W [] F H F' H') (r : RepS K W F' H' lv x f) (own : ∀ q ∈ f, F' q = none ∧ q ≠ W.a ∧ q ≠ W.q) (nd : f.Nodup) (nw : ∀ q ∈ f, H q = none) :
    ∃ fp', Ok K W F' H' (ρ.set i lv) (σ.set i x) fp' ∧ ∀ q ∈ fp', q ∈ fp ∨ H q = none := by
  obtain ⟨y, f0, g, h, h1, h2, h3, h4⟩ := RepE.at ok.rep hi
  have okS := ok.step s
  have sub : ∀ q ∈ g ++ h, q ∈ fp := fun q hq => by
    rw [h3]
    simp only [List.mem_append] at hq ⊢
    exact hq.elim (fun z => Or.inl (Or.inl z)) Or.inr
  have th : ∀ q ∈ g ++ h, H q ≠ none := fun q hq z => by
    obtain ⟨o, e⟩ := ok.there q (sub q hq)
    rw [e] at z
    cases z
  have nod := ok.nod
  rw [h3] at nod
  refine ⟨g ++ f ++ h, ⟨s.sub, s.fa, s.st, fun q hq => ?_, ?_, h4 F' H' lv x f s.ff (fun q hq o e => s.keep q o e List.not_mem_nil (ok.own q (sub q hq)).2.1) r⟩, fun q hq => ?_⟩
  · simp only [List.mem_append] at hq
    rcases hq with (hq | hq) | hq
    · exact okS.own q (sub q (List.mem_append_left _ hq))
    · exact own q hq
    · exact okS.own q (sub q (List.mem_append_right _ hq))
  · rw [List.nodup_append, List.nodup_append] at nod ⊢
    obtain ⟨⟨n1, n2, n3⟩, n4, n5⟩ := nod
    refine ⟨⟨n1, nd, fun a ha b hb e => th a (List.mem_append_left _ ha) (by rw [e]; exact nw b hb)⟩, n4, fun a ha b hb e => ?_⟩
    rcases List.mem_append.mp ha with ha | ha
    · exact n5 a (List.mem_append_left _ ha) b hb e
    · exact th b (List.mem_append_right _ hb) (by rw [← e]; exact nw a ha)
  · simp only [List.mem_append] at hq
    rcases hq with (hq | hq) | hq
    · exact Or.inl (sub q (List.mem_append_left _ hq))
    · exact Or.inr (nw q hq)
    · exact Or.inl (sub q (List.mem_append_right _ hq))
theorem Ok.setD {i : Nat} {l : LV} {v : V} {d : D} (ok : Ok K W F H ρ σ fp) (hi : ρ[i]? = some l) (r : Rep K W F d v) : ∃ fp', Ok K W F H (ρ.set i (.fz d)) (σ.set i (some v)) fp' ∧ ∀ q ∈ fp', q ∈ fp ∨ H q = none :=
  Ok.set (lv := .fz d) (x := some v) (f := []) ok hi ok.refl ⟨r, rfl⟩ (fun _ h => absurd h List.not_mem_nil) List.nodup_nil (fun _ h => absurd h List.not_mem_nil)
/-- an own slot frozen -/
theorem Ok.frz {i : Nat} {l : LV} {d : D} (ok : Ok K W F H ρ σ fp) (hi : ρ[i]? = some l) (t : toD l = some d) : ∃ F' fp', Step W fp F H F' H ∧ Ok K W F' H (ρ.set i (.fz d)) σ fp' ∧ ∀ q ∈ fp', q ∈ fp := by
  obtain ⟨y, f0, g, h, h1, h2, h3, h4⟩ := RepE.at ok.rep hi
  have sub : ∀ q ∈ g ++ h, q ∈ fp := fun q hq => by
    rw [h3]
    simp only [List.mem_append] at hq ⊢
    exact hq.elim (fun z => Or.inl (Or.inl z)) Or.inr
  have s0 : ∀ q ∈ f0, q ∈ fp := fun q hq => by
    rw [h3]
    simp only [List.mem_append]
    exact Or.inl (Or.inr hq)
  have nod := ok.nod
  rw [h3] at nod
  have me : Ex F (mix F H f0) := mix_ex (fun q hq => (ok.own q (s0 q hq)).1)
  have hv : ∃ v, y = some v ∧ RepO K W F H l v f0 := by
    cases l with
    | un => cases t
    | _ =>
      cases y with
      | none => exact h2.elim
      | some v => exact ⟨v, rfl, h2⟩
  obtain ⟨v, rfl, h2v⟩ := hv
  have r := Rep.frz ok.sub me h2v (fun q hq => hq) t
  have ap : ∀ q ∈ g ++ h, q ∉ f0 := fun q hq z => by
    rw [List.nodup_append, List.nodup_append] at nod
    obtain ⟨⟨n1, n2, n3⟩, n4, n5⟩ := nod
    rcases List.mem_append.mp hq with hq | hq
    · exact n3 q hq q z rfl
    · exact n5 q (List.mem_append_right _ z) q hq rfl
  have na : W.a ∉ f0 := fun z => (ok.own _ (s0 _ z)).2.1 rfl
  refine ⟨mix F H f0, g ++ [] ++ h, ⟨me, fun p hp => ?_, fun b o e _ _ => e, fun b o e => ⟨o, e⟩, mix_sub ok.sub, by rw [mix_none na]; exact ok.fa, ok.st⟩, ⟨mix_sub ok.sub, by rw [mix_none na]; exact ok.fa, ok.st, fun q hq => ?_, ?_, ?_⟩, fun q hq => ?_⟩
  · by_cases hf : p ∈ f0
    · exact Or.inr (Or.inr (s0 p hf))
    · exact Or.inl (by rw [mix_none hf]; exact hp)
  · have hq : q ∈ g ++ h := by simpa using hq
    refine ⟨?_, (ok.own q (sub q hq)).2⟩
    rw [mix_none (ap q hq)]
    exact (ok.own q (sub q hq)).1
  · rw [List.append_nil]
    rw [List.nodup_append, List.nodup_append] at nod
    obtain ⟨⟨n1, n2, n3⟩, n4, n5⟩ := nod
    exact List.nodup_append.mpr ⟨n1, n4, fun a ha b hb => n5 a (List.mem_append_left _ ha) b hb⟩
  · have e : σ.set i (some v) = σ := by
      apply List.ext_getElem?
      intro j
      by_cases hj : i = j
      · subst hj
        have := (List.getElem?_eq_some_iff.mp h1).1
        rw [List.getElem?_set_self this, h1]
      · rw [List.getElem?_set_ne hj]
    have := h4 (mix F H f0) H (.fz d) (some v) [] me (fun q hq o e => e) ⟨r, rfl⟩
    rw [e] at this
    exact this
  · have hq : q ∈ g ++ h := by simpa using hq
    exact sub q hq
end
/-! ### seq, set, if, return, raise, expr, pass, break, continue -/
def sNil : Sm := fun ρ => .ret (.next ρ)
def sSeq (s t : Sm) : Sm := fun ρ => (s ρ).bind fun fl => match fl with
  | .next ρ' => t ρ'
  | x => .ret x
def setS (i : Nat) (x : LV) : Sm := fun ρ => match ρ[i]? with
  | some _ => .ret (.next (ρ.set i x))
  | none => .bad
def sSet (i : Nat) (ma : Em) : Sm := fun ρ => (ma ρ).tr ρ fun x => match x with
  | .bo _ => .bad
  | .un => .bad
  | x => setS i x ρ
def sIf (t : List LV → M Bool) (a b : Sm) : Sm := fun ρ => (t ρ).tr ρ fun c => if c = true then a ρ else b ρ
def sRet (ma : Em) : Sm := fun ρ => (ma ρ).tr ρ fun x => match x with
  | .bo _ => .bad
  | x => .ret (.ret x)
def sRetV (i : Nat) : Sm := fun ρ => match ρ[i]? with
  | some .un => .bad
  | some (.bo _) => .bad
  | some l => .ret (.ret l)
  | none => .bad
def sRetN : Sm := fun _ => .ret (.ret (.fz .non))
def sExpr (ma : Em) : Sm := fun ρ => (ma ρ).tr ρ fun _ => .ret (.next ρ)
def sBrk : Sm := fun ρ => .ret (.brk ρ)
def sCont : Sm := fun ρ => .ret (.cont ρ)
def sFrz (i : Nat) (s : Sm) : Sm := fun ρ => match ρ[i]? with
  | some l => M.opt (toD l) fun d => s (ρ.set i (.fz d))
  | none => .bad
section
variable {X : Cx} {W : Wd} {Wx : WX} {e c : Expr} {ma : Em} {st : Stmt} {sts : List Stmt} {m m1 m2 : Sm} {t : List LV → M Bool} {pos : Pos}
theorem dss_nil : DSs X W Wx [] sNil := PSs_imp pss_nil fun D σ H ⟨F, ρ, fp, ok, w⟩ => w F H σ fp ok.refl ok sub_refl
theorem te_seq {K : PySem.W.Frag} {D : Ends} {σ : L2.St} {H : Hp} (h : tsM K W Wx (sSeq m1 m2) D σ H) : tSeq (tsM K W Wx m1) (tsM K W Wx m2) D σ H := by
  obtain ⟨F, ρ, fp, ok, w⟩ := h
  refine ⟨F, ρ, fp, ok, M.wp_mono (M.wp_bind.mp w) (fun fl wf => ?_) (fun c d h => h)⟩
  cases fl with
  | next ρ' => exact fun F' H' σ' fp' s ok' sub => ⟨F', ρ', fp', ok', M.wp_mono wf (fun fl h => h.step s sub) (fun c d h => h)⟩
  | ret l => exact wf
  | brk ρ' => exact wf
  | cont ρ' => exact wf
  | exn ρ' c d => exact fun F' H' σ' fp' dx v s ok sub n e r => wf F' H' σ' fp' dx v s ok sub n e r
theorem dss_cons (h1 : DS X W Wx st m1) (h2 : DSs X W Wx sts m2) : DSs X W Wx (st :: sts) (sSeq m1 m2) := PSs_imp (pss_cons h1 h2) fun D σ H h => te_seq h
theorem dss_one (h1 : DS X W Wx st m1) : DSs X W Wx [st] m1 := pss_one h1
theorem dss_frz {i : Nat} (h : DSs X W Wx sts m) : DSs X W Wx sts (sFrz i m) := PSs_imp h fun D σ H ⟨F, ρ, fp, ok, w⟩ => by
  unfold sFrz at w
  cases q : ρ[i]? with
  | none => rw [q] at w; exact w.elim
  | some l =>
    rw [q] at w
    obtain ⟨d, hd, w⟩ := M.wp_opt.mp w
    obtain ⟨F', fp', s, ok', sub⟩ := ok.frz q hd
    exact ⟨F', _, fp', ok', M.wp_mono w (fun fl h => h.step s (fun q hq => Or.inl (sub q hq))) (fun c d h => h)⟩
theorem te_asg {K : PySem.W.Frag} {D : Ends} {σ : L2.St} {H : Hp} {i : Nat} (h : tsM K W Wx (sSet i ma) D σ H) : teM K W Wx ma σ H fun x H1 => D.nx (σ.set i (some x)) H1 := by
  obtain ⟨F, ρ, fp, ok, w⟩ := h
  refine ⟨F, ρ, fp, ok, M.wp_mono (M.wp_tr.mp w) (fun x wx => ?_) (fun c d h => exP.toE ok h)⟩
  intro F1 H1 v f r
  have go : isBo x = false → x ≠ .un → (setS i x ρ).wp (flP K W Wx F H fp D) no2 → D.nx (σ.set i (some v)) H1 := fun nb nu w => by
    unfold setS at w
    cases q : ρ[i]? with
    | none => rw [q] at w; exact w.elim
    | some l =>
      rw [q] at w
      have hr : RepS K W F1 H1 x (some v) f := by
        cases x with
        | un => exact absurd rfl nu
        | _ => exact r.rep
      obtain ⟨fp', ok', sub⟩ := ok.set q r.step hr r.own (r.new nb).1 (r.new nb).2
      exact w F1 H1 _ fp' r.step.any ok' sub
  cases x with
  | bo l => exact wx.elim
  | un => exact wx.elim
  | fz d => exact go rfl (fun z => by cases z) wx
  | os d => exact go rfl (fun z => by cases z) wx
  | ol d => exact go rfl (fun z => by cases z) wx
  | ok d => exact go rfl (fun z => by cases z) wx
  | sf c p d => exact go rfl (fun z => by cases z) wx
  | ex a dx c d => exact go rfl (fun z => by cases z) wx
theorem ds_asg {i : Nat} (h : PS X st (tAsg (teM X.K W Wx ma) (gName i))) : DS X W Wx st (sSet i ma) := PS_imp h fun D σ H h => te_asg h
theorem ds_if {a b : List Stmt} (hc : DT X W Wx c t) (ha : DSs X W Wx a m1) (hb : DSs X W Wx b m2) : DS X W Wx (.If c a b pos) (sIf t m1 m2) := PS_imp (ps_if hc ha hb) fun D σ H ⟨F, ρ, fp, ok, w⟩ => by
  refine ⟨F, ρ, fp, ok, M.wp_mono (M.wp_tr.mp w) (fun x wx F1 H1 s1 => ?_) (fun c d h => exP.toE ok h)⟩
  have sub : ∀ q ∈ fp, q ∈ fp ∨ H q = none := sub_refl
  cases x with
  | true => exact ⟨F1, ρ, fp, ok.step s1, M.wp_mono wx (fun fl h => h.step s1.any sub) (fun c d h => h)⟩
  | false => exact ⟨F1, ρ, fp, ok.step s1, M.wp_mono wx (fun fl h => h.step s1.any sub) (fun c d h => h)⟩
theorem ds_ret (he : DE X W Wx e ma) : DS X W Wx (.Return (some e) pos) (sRet ma) := PS_imp (ps_ret he) fun D σ H ⟨F, ρ, fp, ok, w⟩ => by
  refine ⟨F, ρ, fp, ok, M.wp_mono (M.wp_tr.mp w) (fun x wx F1 H1 v f r => ?_) (fun c d h => exP.toE ok h)⟩
  have go : isBo x = false → reP X.K W F H fp D.rt x → D.rt v H1 := fun nb w => w F1 H1 v f r.step.any r.rep r.own (r.new nb).1 (fun q hq => Or.inr ((r.new nb).2 q hq))
  cases x with
  | bo l => exact wx.elim
  | _ => exact go rfl wx
theorem ds_retV (i : Nat) (h : PE X e (tVar i)) : DS X W Wx (.Return (some e) pos) (sRetV i) := PS_imp (ps_ret h) fun D σ H ⟨F, ρ, fp, ok, w⟩ => by
  unfold sRetV at w
  cases q : ρ[i]? with
  | none => rw [q] at w; exact w.elim
  | some l =>
    rw [q] at w
    obtain ⟨y, f0, g, h', h1, h2, h3, h4⟩ := RepE.at ok.rep q
    have s0 : ∀ q ∈ f0, q ∈ fp := fun q hq => by
      rw [h3]
      simp only [List.mem_append]
      exact Or.inl (Or.inr hq)
    have nod := ok.nod
    rw [h3, List.nodup_append, List.nodup_append] at nod
    have go : ∀ v, y = some v → RepO X.K W F H l v f0 → reP X.K W F H fp D.rt l → ∃ v, σ[i]? = some (some v) ∧ D.rt v H := fun v ev r w => ⟨v, by rw [h1, ev], w F H v f0 ok.refl r (fun q hq => ok.own q (s0 q hq)) nod.1.2.1 (fun q hq => Or.inl (s0 q hq))⟩
    cases l with
    | un => exact w.elim
    | bo l => exact w.elim
    | _ =>
      cases y with
      | none => exact h2.elim
      | some v => exact go v rfl h2 w
theorem ds_retN : DS X W Wx (.Return none pos) sRetN := PS_imp ps_retN fun D σ H ⟨F, ρ, fp, ok, w⟩ => w F H .non [] ok.refl ⟨rfl, rfl⟩ (fun _ h => absurd h List.not_mem_nil) List.nodup_nil (fun _ h => absurd h List.not_mem_nil)
theorem ds_expr (he : DE X W Wx e ma) (hs : swapsWith e none pos.line X.env = pure false := by rfl) : DS X W Wx (.Expr e pos) (sExpr ma) := PS_imp (ps_expr he hs) fun D σ H ⟨F, ρ, fp, ok, w⟩ =>
  ⟨F, ρ, fp, ok, M.wp_mono (M.wp_tr.mp w) (fun x wx F1 H1 v f r => wx F1 H1 σ fp r.step.any (ok.step r.step) sub_refl) (fun c d h => exP.toE ok h)⟩
theorem ds_pass : DS X W Wx (.Pass pos) sNil := PS_imp ps_pass fun D σ H ⟨F, ρ, fp, ok, w⟩ => w F H σ fp ok.refl ok sub_refl
theorem ds_brk : DS X W Wx (.Break pos) sBrk := PS_imp ps_break fun D σ H ⟨F, ρ, fp, ok, w⟩ => w F H σ fp ok.refl ok sub_refl
theorem ds_cont : DS X W Wx (.Continue pos) sCont := PS_imp ps_continue fun D σ H ⟨F, ρ, fp, ok, w⟩ => w F H σ fp ok.refl ok sub_refl
end
/-! ### targets -/
abbrev Tg := D → List LV → M (List LV)
def gN (i : Nat) : Tg := fun d ρ => match ρ[i]? with
  | some _ => .ret (ρ.set i (.fz d))
  | none => .bad
def gAll : List Tg → List D → List LV → M (List LV)
  | [], [], ρ => .ret ρ
  | g :: gs, d :: ds, ρ => (g d ρ).bind fun ρ' => gAll gs ds ρ'
  | _, _, _ => .bad
def gT (n : Nat) (gs : List Tg) : Tg := fun d ρ => match d with
  | .tup ds => .need (ds.length = n) (gAll gs ds ρ)
  | _ => .bad
def TgM (K : PySem.W.Frag) (W : Wd) (g : TG) (m : Tg) : Prop := ∀ ⦃F H : Hp⦄ ⦃d : D⦄ ⦃ρ : List LV⦄ ⦃σ : L2.St⦄ ⦃fp : List Addr⦄ ⦃v : V⦄ ⦃Q : L2.St → Hp → Prop⦄ ⦃E : Nat → D → Prop⦄, Ok K W F H ρ σ fp → Rep K W F d v →
  (m d ρ).wp (fun ρ' => ∀ σ' fp', Ok K W F H ρ' σ' fp' → (∀ q ∈ fp', q ∈ fp ∨ H q = none) → Q σ' H) E → g v σ H Q
def TgsM (K : PySem.W.Frag) (W : Wd) (g : TGs) (ms : List Tg) : Prop := ∀ ⦃F H : Hp⦄ ⦃ds : List D⦄ ⦃ρ : List LV⦄ ⦃σ : L2.St⦄ ⦃fp : List Addr⦄ ⦃vs : List V⦄ ⦃Q : L2.St → Hp → Prop⦄ ⦃E : Nat → D → Prop⦄, Ok K W F H ρ σ fp → Reps K W F ds vs →
  (gAll ms ds ρ).wp (fun ρ' => ∀ σ' fp', Ok K W F H ρ' σ' fp' → (∀ q ∈ fp', q ∈ fp ∨ H q = none) → Q σ' H) E → g vs σ H Q
section
variable {K : PySem.W.Frag} {W : Wd}
theorem tg_N {i : Nat} : TgM K W (gName i) (gN i) := by
  intro F H d ρ σ fp v Q E ok r w
  unfold gN at w
  cases q : ρ[i]? with
  | none => rw [q] at w; exact w.elim
  | some l =>
    rw [q] at w
    obtain ⟨fp', ok', sub⟩ := ok.setD q r
    exact w _ fp' ok' sub
theorem tgs_nil : TgsM K W gNil [] := by
  intro F H ds ρ σ fp vs Q E ok r w
  cases ds with
  | nil => exact ⟨r, w σ fp ok sub_refl⟩
  | cons d ds => exact w.elim
theorem tgs_cons {g : TG} {gs : TGs} {m : Tg} {ms : List Tg} (h : TgM K W g m) (hs : TgsM K W gs ms) : TgsM K W (gCons g gs) (m :: ms) := by
  intro F H ds ρ σ fp vs Q E ok r w
  cases ds with
  | nil => exact w.elim
  | cons d ds =>
    obtain ⟨v, vr, rfl, r1, r2⟩ := r
    refine ⟨v, vr, rfl, h ok r1 (M.wp_mono (M.wp_bind.mp w) (fun ρ' w' σ' fp' ok' sub => ?_) (fun c d h => h))⟩
    exact hs ok' r2 (M.wp_mono w' (fun ρ2 k σ2 fp2 ok2 sub2 => k σ2 fp2 ok2 (fun q hq => (sub2 q hq).elim (sub q) Or.inr)) (fun c d h => h))
theorem tg_T {gs : TGs} {ms : List Tg} {n : Nat} (hs : TgsM K W gs ms) : TgM K W (gTup K n gs) (gT n ms) := by
  intro F H d ρ σ fp v Q E ok r w
  cases d with
  | tup ds =>
    obtain ⟨p, vs, rfl, h1, h2⟩ := r
    exact ⟨p, vs, rfl, ex_t ok.sub h1, by rw [Reps.length h2]; exact w.1, hs ok h2 w.2⟩
  | _ => exact w.elim
end
end Dn
end

section
set_option Elab.async false
set_option linter.all false
set_option maxRecDepth 100000
set_option maxHeartbeats 1000000
namespace Dn
open PySem PySem.Spec PyProof.Rows L2 Evl GrO
/-! ## what is walked; for; while; comprehensions -/
structure ItOk (K : PySem.W.Frag) (W : Wd) (F : Hp) (J : It) (ds : List D) : Prop where
  go : ∀ {i : Nat} {H Fc : Hp}, Ex F Fc → Ex Fc H → i < ds.length → J.go i H
  stop : ∀ {i : Nat} {H Fc : Hp}, Ex F Fc → Ex Fc H → i = ds.length → J.stop i H
  yld : ∀ {i : Nat} {H Fc : Hp} {x : V} {H' : Hp} {d : D}, Ex F Fc → Ex Fc H → Fc W.a = none → StOk W H → ds[i]? = some d → J.yld i H x H' → ∃ F', Step W [] Fc H F' H' ∧ Rep K W F' d x
abbrev Im := List LV → M (List D)
def tiM (K : PySem.W.Frag) (W : Wd) (Wx : WX) (m : Im) : TI := fun σ H R => ∃ F ρ fp, Ok K W F H ρ σ fp ∧ (m ρ).wp (fun ds => ∀ F' H' J, Step W [] F H F' H' → ItOk K W F' J ds → R J H') (excE K W Wx σ F H)
def DI (X : Cx) (W : Wd) (Wx : WX) (tg e : Expr) (m : Im) : Prop := PI X tg e (tiM X.K W Wx m)
section
variable {K : PySem.W.Frag} {W : Wd} {F H : Hp}
theorem Reps.at2 {ds : List D} {vs : List V} {i : Nat} {d : D} {x : V} (r : Reps K W F ds vs) (h : ds[i]? = some d) (hx : vs[i]? = some x) : Rep K W F d x := by
  obtain ⟨v, h1, h2⟩ := Reps.get r h
  rw [hx] at h1
  cases h1
  exact h2
theorem Reps.lt {ds : List D} {vs : List V} {i : Nat} (r : Reps K W F ds vs) (h : i < ds.length) : ∃ x, vs[i]? = some x := ⟨vs[i]'(by rw [Reps.length r]; exact h), List.getElem?_eq_getElem _⟩
theorem it_list {a : Addr} {vs : List V} {ds : List D} (h : F a = some (.lst vs)) (r : Reps K W F ds vs) : ItOk K W F (Itl K a) ds where
  go := fun e1 e2 hi => let ⟨x, hx⟩ := Reps.lt r hi; ⟨vs, x, SqL.of (e2 _ _ (e1 _ _ h)), hx⟩
  stop := fun e1 e2 hi => ⟨vs, SqL.of (e2 _ _ (e1 _ _ h)), by rw [Reps.length r, hi]; exact Nat.le_refl _⟩
  yld := fun e1 e2 fa st hd y => by
    obtain ⟨rfl, y⟩ := y
    exact ⟨_, Step.refl e2 fa st, Rep.ex e1 (Reps.at2 r hd (y vs (SqL.of (e2 _ _ (e1 _ _ h)))))⟩
theorem it_tup {a : Addr} {vs : List V} {ds : List D} (h : SqT K F a vs) (r : Reps K W F ds vs) : ItOk K W F (Itt K a) ds where
  go := fun e1 e2 hi => let ⟨x, hx⟩ := Reps.lt r hi; ⟨vs, x, ex_t (e1.trans e2) h, hx⟩
  stop := fun e1 e2 hi => ⟨vs, ex_t (e1.trans e2) h, by rw [Reps.length r, hi]; exact Nat.le_refl _⟩
  yld := fun e1 e2 fa st hd y => by
    obtain ⟨rfl, y⟩ := y
    exact ⟨_, Step.refl e2 fa st, Rep.ex e1 (Reps.at2 r hd (y vs (ex_t (e1.trans e2) h)))⟩
def charsD (z : Str) : List D := z.cps.toList.map fun c => .str ⟨#[c]⟩
theorem it_str {z : Str} : ItOk K W F (Its z) (charsD z) where
  go := fun _ _ hi => by
    unfold charsD at hi
    rw [List.length_map, Array.length_toList] at hi
    exact hi
  stop := fun _ _ hi => by
    unfold charsD at hi
    rw [List.length_map, Array.length_toList] at hi
    exact Nat.le_of_eq hi.symm
  yld := fun _ e2 fa st hd y => by
    obtain ⟨rfl, c, hc, rfl⟩ := y
    refine ⟨_, Step.refl e2 fa st, ?_⟩
    unfold charsD at hd
    rw [List.getElem?_map, Array.getElem?_toList, hc] at hd
    cases hd
    rfl
def rangeD (lo : Int) (n : Nat) : List D := (List.range n).map fun k : Nat => D.int (lo + (k : Int))
theorem it_rng {lo : Int} {n : Nat} : ItOk K W F (Itr lo n) (rangeD lo n) where
  go := fun _ _ hi => by
    unfold rangeD at hi
    rw [List.length_map, List.length_range] at hi
    exact hi
  stop := fun _ _ hi => by
    unfold rangeD at hi
    rw [List.length_map, List.length_range] at hi
    exact Nat.le_of_eq hi.symm
  yld := fun {i} {H Fc x H' d} _ e2 fa st hd y => by
    obtain ⟨rfl, rfl⟩ := y
    refine ⟨_, Step.refl e2 fa st, ?_⟩
    unfold rangeD at hd
    rw [List.getElem?_map] at hd
    by_cases hi : i < n
    · rw [List.getElem?_range hi] at hd
      cases hd
      rfl
    · rw [List.getElem?_eq_none (by rw [List.length_range]; omega)] at hd
      cases hd
def enumD (ds : List D) : List D := ds.zipIdx.map fun p => .tup [.int (p.2 : Int), p.1]
theorem enumD_len (ds : List D) : (enumD ds).length = ds.length := by
  unfold enumD
  rw [List.length_map, List.length_zipIdx]
theorem enumD_at {ds : List D} {i : Nat} {d : D} (h : (enumD ds)[i]? = some d) : ∃ e, ds[i]? = some e ∧ d = .tup [.int (i : Int), e] := by
  unfold enumD at h
  rw [List.getElem?_map, List.getElem?_zipIdx] at h
  cases q : ds[i]? with
  | none => rw [q] at h; cases h
  | some e =>
    rw [q] at h
    cases h
    exact ⟨e, rfl, by simp⟩
theorem yld_tup {Fc : Hp} {T : Addr} {vs : List V} {ds : List D} (e2 : Ex Fc H) (fa : Fc W.a = none) (st : StOk W H) (hT : H T = none) (r : Reps K W Fc ds vs) : ∃ F', Step W [] Fc H F' (upd H T (.tup vs)) ∧ Rep K W F' (.tup ds) (.ref T) :=
  have q := Res.tup e2 fa st hT r
  ⟨_, q.step, q.rep.1⟩
theorem it_enumL {a : Addr} {vs : List V} {ds : List D} (h : F a = some (.lst vs)) (r : Reps K W F ds vs) : ItOk K W F (Ite K a) (enumD ds) where
  go := fun e1 e2 hi => let ⟨x, hx⟩ := Reps.lt r (by rw [enumD_len] at hi; exact hi); ⟨vs, x, SqL.of (e2 _ _ (e1 _ _ h)), hx⟩
  stop := fun e1 e2 hi => ⟨vs, SqL.of (e2 _ _ (e1 _ _ h)), by rw [Reps.length r, hi, enumD_len]; exact Nat.le_refl _⟩
  yld := fun {i} {H Fc x H' d} e1 e2 fa st hd y => by
    obtain ⟨T, z, rfl, hT, rfl, y⟩ := y
    obtain ⟨e, he, rfl⟩ := enumD_at hd
    exact yld_tup e2 fa st hT ⟨_, _, rfl, rfl, _, _, rfl, Rep.ex e1 (Reps.at2 r he (y vs (SqL.of (e2 _ _ (e1 _ _ h))))), rfl⟩
theorem it_enumT {a : Addr} {vs : List V} {ds : List D} (h : SqT K F a vs) (r : Reps K W F ds vs) : ItOk K W F (IteT K a) (enumD ds) where
  go := fun e1 e2 hi => let ⟨x, hx⟩ := Reps.lt r (by rw [enumD_len] at hi; exact hi); ⟨vs, x, ex_t (e1.trans e2) h, hx⟩
  stop := fun e1 e2 hi => ⟨vs, ex_t (e1.trans e2) h, by rw [Reps.length r, hi, enumD_len]; exact Nat.le_refl _⟩
  yld := fun {i} {H Fc x H' d} e1 e2 fa st hd y => by
    obtain ⟨T, z, rfl, hT, rfl, y⟩ := y
    obtain ⟨e, he, rfl⟩ := enumD_at hd
    exact yld_tup e2 fa st hT ⟨_, _, rfl, rfl, _, _, rfl, Rep.ex e1 (Reps.at2 r he (y vs (ex_t (e1.trans e2) h))), rfl⟩
def zipD (xs ys : List D) : List D := (xs.zip ys).map fun p => .tup [p.1, p.2]
theorem zipD_at {xs ys : List D} {i : Nat} {d : D} (h : (zipD xs ys)[i]? = some d) : ∃ x y, xs[i]? = some x ∧ ys[i]? = some y ∧ d = .tup [x, y] := by
  unfold zipD at h
  rw [List.getElem?_map] at h
  obtain ⟨p, hp, rfl⟩ := Option.map_eq_some_iff.mp h
  obtain ⟨h1, h2⟩ := List.getElem?_zip_eq_some.mp hp
  exact ⟨_, _, h1, h2, rfl⟩
theorem zipD_len (xs ys : List D) : (zipD xs ys).length = min xs.length ys.length := by
  unfold zipD
  rw [List.length_map, List.length_zip]
theorem it_zipL {a b : Addr} {vs ws : List V} {ds es : List D} (h : F a = some (.lst vs)) (h' : F b = some (.lst ws)) (r : Reps K W F ds vs) (r' : Reps K W F es ws) : ItOk K W F (Itz K a b) (zipD ds es) where
  go := fun e1 e2 hi => by
    rw [zipD_len] at hi
    obtain ⟨x, hx⟩ := Reps.lt r (Nat.lt_of_lt_of_le hi (Nat.min_le_left _ _))
    obtain ⟨y, hy⟩ := Reps.lt r' (Nat.lt_of_lt_of_le hi (Nat.min_le_right _ _))
    exact ⟨vs, ws, x, y, SqL.of (e2 _ _ (e1 _ _ h)), SqL.of (e2 _ _ (e1 _ _ h')), hx, hy⟩
  stop := fun e1 e2 hi => ⟨vs, ws, SqL.of (e2 _ _ (e1 _ _ h)), SqL.of (e2 _ _ (e1 _ _ h')), by
    rw [zipD_len] at hi
    rw [Reps.length r, Reps.length r']
    omega⟩
  yld := fun {i} {H Fc x H' d} e1 e2 fa st hd y => by
    obtain ⟨T, z, z', rfl, hT, rfl, y, y'⟩ := y
    obtain ⟨x, x', hx, hx', rfl⟩ := zipD_at hd
    exact yld_tup e2 fa st hT ⟨_, _, rfl, Rep.ex e1 (Reps.at2 r hx (y vs (SqL.of (e2 _ _ (e1 _ _ h))))), _, _, rfl, Rep.ex e1 (Reps.at2 r' hx' (y' ws (SqL.of (e2 _ _ (e1 _ _ h'))))), rfl⟩
end
/-- a list, a tuple or a text that is walked -/
def iSeqA (K : PySem.W.Frag) (te : TE) : TI := fun σ H R => te σ H fun x H1 => (∃ a, x = .ref a ∧ (∃ xs, SqL K H1 a xs) ∧ R (Itl K a) H1) ∨ (∃ a, x = .ref a ∧ (∃ xs, SqT K H1 a xs) ∧ R (Itt K a) H1) ∨ ∃ z, x = .str z ∧ R (Its z) H1
theorem pi_seqA {X : Cx} {tg l : Expr} {te : TE} (hl : PE X l te) : PI X tg l (iSeqA X.K te) := by
  refine ⟨fun pins s σ H R I h => ?_⟩
  refine thn (hl.run pins s σ H _ I h) fun v s1 ⟨x, H1, I1, r1, q1⟩ => ?_
  rcases q1 with ⟨a, e, ⟨xs, hq⟩, q⟩ | ⟨a, e, ⟨xs, hq⟩, q⟩ | ⟨z, e, q⟩
  · subst e
    cases r1
    obtain ⟨its, rv, p, hz⟩ := I1.list hq
    refine wpAny_pyIter_list p.isList ?_
    refine ⟨s1.heap.objs.size, [s1.heap.objs.size], _, _, H1, rfl, I1.kept (t' := s1.toks) fun b o e => Heap.get?_push_of_some _ e, turn_list a _, ⟨_, Heap.get?_push_size _ rfl, rfl, rfl⟩, fun b hb => ?_, q⟩
    have e : b = s1.heap.objs.size := by simpa using hb
    subst e
    exact I1.fpOk (Nat.le_refl _) (I1.hok.fresh (Nat.le_refl _))
  · subst e
    cases r1
    obtain ⟨its, rv, p, hz⟩ := I1.tuple hq
    refine wpAny_pyIter_tuple (show s1.heap.IsTuple a its.toArray from p) ?_
    refine ⟨s1.heap.objs.size, [s1.heap.objs.size], _, _, H1, rfl, I1.kept (t' := s1.toks) fun b o e => Heap.get?_push_of_some _ e, turn_tuple a _, ⟨_, Heap.get?_push_size _ rfl, rfl, rfl⟩, fun b hb => ?_, q⟩
    have e : b = s1.heap.objs.size := by simpa using hb
    subst e
    exact I1.fpOk (Nat.le_refl _) (I1.hok.fresh (Nat.le_refl _))
  · subst e
    obtain ⟨t, rfl⟩ := r1
    cases ha : z.cps.all (· < 128)
    · exact wpAny_pyIter_wide ha (pi_one (tk := s1.toks) I1 _ (turn_str _ z t "str_iterator" (.inr rfl)) ⟨_, Heap.get?_push_size _ rfl, rfl, rfl⟩ q)
    · exact wpAny_pyIter_ascii ha (pi_one (tk := s1.toks) I1 _ (turn_str _ z t "str_ascii_iterator" (.inl rfl)) ⟨_, Heap.get?_push_size _ rfl, rfl, rfl⟩ q)
def iterD : LV → M (List D)
  | .fz (.str z) => .ret (charsD z)
  | .fz (.lst ds) => .ret ds
  | .fz (.tup ds) => .ret ds
  | .os ds => .ret ds
  | _ => .bad
def iSeq (ma : Em) : Im := fun ρ => (ma ρ).bind iterD
def iRange1 (ma : Em) : Im := fun ρ => (ma ρ).bind fun x => match x with
  | .fz (.int n) => .need (-100000 ≤ n ∧ n ≤ 100000) (.ret (rangeD 0 n.toNat))
  | _ => .bad
def iRange2 (ma mb : Em) : Im := fun ρ => (ma ρ).bind fun x => (mb ρ).bind fun y => match x, y with
  | .fz (.int i), .fz (.int j) => .need ((-100000 ≤ i ∧ i ≤ 100000) ∧ -100000 ≤ j ∧ j ≤ 100000) (.ret (rangeD i (j - i).toNat))
  | _, _ => .bad
def listF : LV → Option (List D)
  | .fz (.lst ds) => some ds
  | .os ds => some ds
  | _ => none
def iEnumLM (ma : Em) : Im := fun ρ => (ma ρ).bind fun x => M.opt (listF x) fun ds => .ret (enumD ds)
def iEnumTM (ma : Em) : Im := fun ρ => (ma ρ).bind fun x => match x with
  | .fz (.tup ds) => .ret (enumD ds)
  | _ => .bad
def iZipLM (ma mb : Em) : Im := fun ρ => (ma ρ).bind fun x => (mb ρ).bind fun y => M.opt (listF x) fun ds => M.opt (listF y) fun es => .ret (zipD ds es)
section
variable {X : Cx} {W : Wd} {Wx : WX} {tg e a b : Expr} {ma mb : Em} {p pos tpos : Pos}
theorem listF_frz {K : PySem.W.Frag} {F H F' H' : Hp} {x : LV} {v : V} {f : List Addr} {ds : List D} (r : Res K W F H F' H' x v f) (h : listF x = some ds) : ∃ F2 p vs, Step W [] F H F2 H' ∧ v = .ref p ∧ F2 p = some (.lst vs) ∧ Reps K W F2 ds vs := by
  have t : toD x = some (.lst ds) := by
    cases x with
    | fz d => cases d <;> first | (cases h; rfl) | cases h
    | os d => cases h; rfl
    | _ => cases h
  obtain ⟨F2, s, p, vs, a, b, c⟩ := r.frz t
  exact ⟨F2, p, vs, s, a, b, c⟩
theorem di_seq (h : DE X W Wx e ma) : DI X W Wx tg e (iSeq ma) := PI_imp (pi_seqA h) fun σ H R ⟨F, ρ, fp, ok, w⟩ => by
  refine ⟨F, ρ, fp, ok, M.wp_mono (M.wp_bind.mp w) (fun x wx F1 H1 v f1 r1 => ?_) (fun c d h => h)⟩
  have ls : ∀ {ds : List D}, listF x = some ds → (∀ F' H' J, Step W [] F H F' H' → ItOk X.K W F' J ds → R J H') → (∃ a, v = .ref a ∧ (∃ xs, SqL X.K H1 a xs) ∧ R (Itl X.K a) H1) := fun {ds} hx wx => by
    obtain ⟨F2, p, vs, s, rfl, h1, h2⟩ := listF_frz r1 hx
    exact ⟨p, rfl, ⟨vs, SqL.of (s.sub _ _ h1)⟩, wx F2 H1 _ s (it_list h1 h2)⟩
  cases x with
  | fz d =>
    cases d with
    | str z => exact Or.inr (Or.inr ⟨z, r1.rep.1, wx F1 H1 _ r1.step it_str⟩)
    | lst ds => exact Or.inl (ls rfl wx)
    | tup ds =>
      obtain ⟨⟨p, vs, rfl, h1, h2⟩, _⟩ := r1.rep
      exact Or.inr (Or.inl ⟨p, rfl, ⟨vs, ex_t r1.step.sub h1⟩, wx F1 H1 _ r1.step (it_tup h1 h2)⟩)
    | _ => exact wx.elim
  | os ds => exact Or.inl (ls rfl wx)
  | _ => exact wx.elim
theorem taM_one {K : PySem.W.Frag} {σ : L2.St} {H : Hp} {R : List V → Hp → Prop} {F : Hp} {ρ : List LV} {fp : List Addr} {E : Nat → D → Prop} {k : LV → Prop} (ok : Ok K W F H ρ σ fp) (w : (ma ρ).wp k (excE K W Wx σ F H))
    (hk : ∀ x F1 H1 v f, k x → Res K W F H F1 H1 x v f → R [v] H1) : taM K W Wx (maCons ma maNil) σ H R :=
  ⟨F, ρ, fp, ok, M.wp_bind.mpr (M.wp_mono w (fun x kx F1 H1 vs f r => by
    obtain ⟨v, vr, f1, g, rfl, r1, ⟨rfl, rfl⟩, rfl⟩ := r.rep
    exact hk x F1 H1 v _ kx ⟨r.step, by rw [List.append_nil]; exact r1, r.own, fun h => r.new (fun l hl => by rw [List.mem_singleton.mp hl]; exact h)⟩) (fun c d h => h))⟩
theorem di_range1 (hg : Gl X "range") (hm : X.mg "range" = none) (ha : DE X W Wx a ma) (hs : starEach [a] X.env = [(false, eval a X.env)] := by rfl) : DI X W Wx tg (.Call (.Name "range" p) [a] [] pos) (iRange1 ma) :=
  PI_imp (pi_range1 hg hm (da_cons ha da_nil hs) hs) fun σ H R ⟨F, ρ, fp, ok, w⟩ => by
    refine taM_one (E := fun _ _ => True) ok (M.wp_bind.mp w) (fun x F1 H1 v f kx r => ?_)
    cases x with
    | fz d =>
      cases d with
      | int n => exact ⟨n, by rw [rep_i r.rep], by have := kx.1.1; omega, by have := kx.1.2; omega, kx.2 F1 H1 _ r.step it_rng⟩
      | _ => exact kx.elim
    | _ => exact kx.elim
theorem di_range2 (hg : Gl X "range") (hm : X.mg "range" = none) (ha : DE X W Wx a ma) (hb : DE X W Wx b mb) (hs : starEach [a, b] X.env = [(false, eval a X.env), (false, eval b X.env)] := by rfl) (hs2 : starEach [b] X.env = [(false, eval b X.env)] := by rfl) : DI X W Wx tg (.Call (.Name "range" p) [a, b] [] pos) (iRange2 ma mb) :=
  PI_imp (pi_range2 hg hm (da_cons ha (da_cons hb da_nil hs2) (by rw [hs, hs2])) hs hs2) fun σ H R ⟨F, ρ, fp, ok, w⟩ => by
    refine ⟨F, ρ, fp, ok, M.wp_bind.mpr (M.wp_mono (M.wp_bind.mp w) (fun x wx => ?_) (fun c d h => h))⟩
    refine M.wp_bind.mpr (M.wp_bind.mpr (M.wp_mono (M.wp_bind.mp wx) (fun y wy => ?_) (fun c d h => h)))
    intro F1 H1 vs f r
    obtain ⟨v, u, g, k, rfl, r1, r2, _⟩ := repOs2 rfl r.rep
    cases x with
    | fz d =>
      cases d with
      | int i =>
        cases y with
        | fz d =>
          cases d with
          | int j => exact ⟨i, j, by rw [rep_i r1, rep_i r2], by have := wy.1; omega, wy.2 F1 H1 _ r.step it_rng⟩
          | _ => exact wy.elim
        | _ => exact wy.elim
      | _ => exact wy.elim
    | _ => exact wy.elim
theorem di_enumL {elts : List Expr} {kk : Nat} (hg : Gl X "enumerate") (hm : X.mg "enumerate" = none) (ha : DE X W Wx e ma) (hs : starEach [e] X.env = [(false, eval e X.env)] := by rfl) : DI X W Wx (.Tuple elts kk tpos) (.Call (.Name "enumerate" p) [e] [] pos) (iEnumLM ma) :=
  PI_imp (pi_enum hg hm (da_cons ha da_nil hs) hs) fun σ H R ⟨F, ρ, fp, ok, w⟩ => by
    refine taM_one (E := fun _ _ => True) ok (M.wp_bind.mp w) (fun x F1 H1 v f kx r => ?_)
    obtain ⟨ds, hd, kx⟩ := M.wp_opt.mp kx
    obtain ⟨F2, q, vs, s, rfl, h1, h2⟩ := listF_frz r hd
    exact ⟨q, vs, rfl, SqL.of (s.sub _ _ h1), kx F2 H1 _ s (it_enumL h1 h2)⟩
theorem di_enumT {elts : List Expr} {kk : Nat} (hg : Gl X "enumerate") (hm : X.mg "enumerate" = none) (ha : DE X W Wx e ma) (hs : starEach [e] X.env = [(false, eval e X.env)] := by rfl) : DI X W Wx (.Tuple elts kk tpos) (.Call (.Name "enumerate" p) [e] [] pos) (iEnumTM ma) :=
  PI_imp (pi_enumT hg hm (da_cons ha da_nil hs) hs) fun σ H R ⟨F, ρ, fp, ok, w⟩ => by
    refine taM_one (E := fun _ _ => True) ok (M.wp_bind.mp w) (fun x F1 H1 v f kx r => ?_)
    cases x with
    | fz d =>
      cases d with
      | tup ds =>
        obtain ⟨⟨q, vs, rfl, h1, h2⟩, _⟩ := r.rep
        exact ⟨q, vs, rfl, ex_t r.step.sub h1, kx F1 H1 _ r.step (it_enumT h1 h2)⟩
      | _ => exact kx.elim
    | _ => exact kx.elim
end
/-! ### for -/
def forM (f : D → Sm) : List D → Sm
  | [], ρ => .ret (.next ρ)
  | d :: ds, ρ => (f d ρ).bind fun fl => match fl with
    | .next ρ' => forM f ds ρ'
    | .cont ρ' => forM f ds ρ'
    | .brk ρ' => .ret (.next ρ')
    | .ret l => .ret (.ret l)
    | .exn ρ' c d => .ret (.exn ρ' c d)
def sFor (mi : Im) (g : Tg) (body : Sm) : Sm := fun ρ => (mi ρ).tr ρ fun ds => forM (fun d ρ => (g d ρ).bind body) ds ρ
def whileM (t : List LV → M Bool) (body : Sm) : Nat → Sm
  | 0, _ => .bad
  | n + 1, ρ => (t ρ).tr ρ fun b => if b = true then (body ρ).bind fun fl => match fl with
      | .next ρ' => whileM t body n ρ'
      | .cont ρ' => whileM t body n ρ'
      | .brk ρ' => .ret (.next ρ')
      | .ret l => .ret (.ret l)
      | .exn ρ' c d => .ret (.exn ρ' c d)
    else .ret (.next ρ)
def sWhile (n : Nat) (t : List LV → M Bool) (body : Sm) : Sm := whileM t body n
section
variable {X : Cx} {W : Wd} {Wx : WX} {tg e c : Expr} {mi : Im} {g : TG} {gm : Tg} {body : List Stmt} {m : Sm} {pos : Pos} {t : List LV → M Bool}
theorem ds_for (hp : PassesOwn (model X.prog X.w) X.A X.env X.xe) (hc : X.calm = true) (hi : DI X W Wx tg e mi) (hg : PG X tg g) (tm : TgM X.K W g gm) (hb : DSs X W Wx body m) (hs : ∀ x, foldedSetIterable e X.env x = pure x := by intro _; rfl) : DS X W Wx (.For tg e body [] pos) (sFor mi gm m) :=
  PS_imp (ps_for hp hc hi hg hb hs) fun En σ H ⟨F, ρ, fp, ok, w⟩ => by
  refine ⟨F, ρ, fp, ok, M.wp_mono (M.wp_tr.mp w) (fun ds wd F1 H1 J s1 it => ?_) (fun c d h => exP.toE ok h)⟩
  let Pw : Nat → L2.St → Hp → Prop := fun i σ' H' => i ≤ ds.length ∧ ∃ F' ρ' fp', Ex F1 F' ∧ Step W fp F H F' H' ∧ Ok X.K W F' H' ρ' σ' fp' ∧ (∀ q ∈ fp', q ∈ fp ∨ H q = none) ∧ (forM (fun d ρ => (gm d ρ).bind m) (ds.drop i) ρ').wp (flP X.K W Wx F H fp En) no2
  refine ⟨fun i k σ' H' => k = ds.length - i ∧ Pw i σ' H', ⟨ds.length, by simp, Nat.zero_le _, F1, ρ, fp, Ex.refl _, s1.any, ok.step s1, sub_refl, wd⟩, ?_⟩
  rintro i k σ' H' ⟨rfl, hi, F', ρ', fp', e1, s2, ok', sub, w⟩
  by_cases hlt : i < ds.length
  · refine Or.inr ⟨it.go e1 ok'.sub hlt, Pw (i + 1), fun σ2 H2 p => ⟨ds.length - (i + 1), by omega, rfl, p⟩, fun x H2 y => ?_⟩
    obtain ⟨F2, s3, rx⟩ := it.yld e1 ok'.sub ok'.fa ok'.st (List.getElem?_eq_getElem hlt) y
    rw [List.drop_eq_getElem_cons hlt] at w
    have okx := ok'.step s3
    have w := M.wp_bind.mp (M.wp_bind.mp w)
    refine tm okx rx (M.wp_mono w (fun ρ2 w2 σ2 fp2 ok2 sub2 => ?_) (fun c d h => h))
    refine ⟨F2, ρ2, fp2, ok2, M.wp_mono w2 (fun fl wf => ?_) (fun c d h => h)⟩
    · have s23 : Step W fp F H F2 H2 := s2.trans0 s3
      have subx : ∀ q ∈ fp2, q ∈ fp ∨ H q = none := fun q hq => by
        rcases sub2 q hq with z | z
        · exact sub q z
        · exact Or.inr (s23.free z)
      have again : ∀ ρ3, (forM (fun d ρ => (gm d ρ).bind m) (ds.drop (i + 1)) ρ3).wp (flP X.K W Wx F H fp En) no2 → goP X.K W F2 H2 fp2 (Pw (i + 1)) ρ3 := fun ρ3 w3 F4 H4 σ4 fp4 s4 ok4 sub4 =>
        ⟨hlt, F4, ρ3, fp4, e1.trans (s3.ff.trans s4.ff), s23.trans s4 subx, ok4, fun q hq => (sub4 q hq).elim (subx q) (fun z => Or.inr (s23.free z)), w3⟩
      cases fl with
      | next ρ3 => exact again ρ3 wf
      | cont ρ3 => exact again ρ3 wf
      | brk ρ3 => exact goP.step wf s23 subx
      | ret l => exact reP.step wf s23 subx
      | exn ρ3 c d => exact exP.step wf s23 subx
  · have e : i = ds.length := by omega
    subst e
    rw [List.drop_length] at w
    exact Or.inl ⟨it.stop e1 ok'.sub rfl, w F' H' σ' fp' s2 ok' sub⟩
theorem ds_while (n : Nat) (hp : PassesOwn (model X.prog X.w) X.A X.env X.xe) (hc : DT X W Wx c t) (hb : DSs X W Wx body m) : DS X W Wx (.While c body [] pos) (sWhile n t m) := PS_imp (ps_while hp hc hb) fun En σ H ⟨F, ρ, fp, ok, w⟩ => by
  refine ⟨fun k σ' H' => ∃ F' ρ' fp', Step W fp F H F' H' ∧ Ok X.K W F' H' ρ' σ' fp' ∧ (∀ q ∈ fp', q ∈ fp ∨ H q = none) ∧ (whileM t m k ρ').wp (flP X.K W Wx F H fp En) no2, ⟨n, F, ρ, fp, ok.refl, ok, sub_refl, w⟩, ?_⟩
  rintro k σ' H' ⟨F', ρ', fp', s, ok', sub, w⟩
  cases k with
  | zero => exact w.elim
  | succ k =>
    refine ⟨F', ρ', fp', ok', M.wp_mono (M.wp_tr.mp w) (fun b wb F2 H2 s2 => ?_) (fun c d h => exP.toE ok' (exP.step h s sub))⟩
    have ss := s.trans0 s2
    cases b with
    | false => exact wb F2 H2 σ' fp' ss (ok'.step s2) sub
    | true =>
      let N : L2.St → Hp → Prop := fun σ'' H'' => ∃ F' ρ' fp', Step W fp F H F' H'' ∧ Ok X.K W F' H'' ρ' σ'' fp' ∧ (∀ q ∈ fp', q ∈ fp ∨ H q = none) ∧ (whileM t m k ρ').wp (flP X.K W Wx F H fp En) no2
      refine ⟨N, fun σ'' H'' h => ⟨k, Nat.lt_succ_self k, h⟩, F2, ρ', fp', ok'.step s2, M.wp_mono (M.wp_bind.mp wb) (fun fl wf => ?_) (fun c d h => h)⟩
      have again : ∀ ρ3, (whileM t m k ρ3).wp (flP X.K W Wx F H fp En) no2 → goP X.K W F2 H2 fp' N ρ3 := fun ρ3 w3 F4 H4 σ4 fp4 s4 ok4 sub4 =>
        ⟨F4, ρ3, fp4, ss.trans s4 sub, ok4, fun q hq => (sub4 q hq).elim (sub q) (fun z => Or.inr (ss.free z)), w3⟩
      cases fl with
      | next ρ3 => exact again ρ3 wf
      | cont ρ3 => exact again ρ3 wf
      | brk ρ3 => exact goP.step wf ss sub
      | ret l => exact reP.step wf ss sub
      | exn ρ3 c d => exact exP.step wf ss sub
end
end Dn
end

section
set_option Elab.async false
set_option linter.all false
set_option maxRecDepth 100000
set_option maxHeartbeats 1000000
namespace Dn
open PySem PySem.Spec PyProof.Rows L2 Evl GrO
/-! ## list comprehensions -/
namespace M
variable {α : Type}
/-- no error leaves -/
def noex : M α → M α
  | .ret a => .ret a
  | .pick S k => .pick S fun d => (k d).noex
  | .need p m => .need p m.noex
  | .exc _ _ => .bad
  | .bad => .bad
theorem wp_noex {P : α → Prop} {E : Nat → D → Prop} : ∀ {m : M α}, (m.noex).wp P E ↔ m.wp P (fun _ _ => False)
  | .ret _ => Iff.rfl
  | .pick _ _ => ⟨fun h d hd => wp_noex.mp (h d hd), fun h d hd => wp_noex.mpr (h d hd)⟩
  | .need _ _ => ⟨fun h => ⟨h.1, wp_noex.mp h.2⟩, fun h => ⟨h.1, wp_noex.mpr h.2⟩⟩
  | .exc _ _ => Iff.rfl
  | .bad => Iff.rfl
end M
def wipeL (ρ : List LV) : List Nat → List LV
  | [] => ρ
  | v :: vs => (wipeL ρ vs).set v .un
def lcM (f : D → M (Option D)) : List D → List D → M (List D)
  | [], acc => .ret acc
  | d :: ds, acc => (f d).bind fun o => match o with
    | some y => .need (acc.length < 100000) (lcM f ds (acc ++ [y]))
    | none => lcM f ds acc
def lcF (g : Tg) (t : List LV → M Bool) (me : Em) (ρ : List LV) (d : D) : M (Option D) :=
  M.noex ((g d ρ).bind fun ρ2 => (t ρ2).bind fun b => if b = true then (me ρ2).bind fun x => M.opt (toD x) fun y => .ret (some y) else .ret none)
def tYesM : List LV → M Bool := fun _ => .ret true
def mLc (mi : Im) (g : Tg) (t : List LV → M Bool) (me : Em) (vs : List Nat) : Em := fun ρ => (mi ρ).bind fun ds => (lcM (lcF g t me (wipeL ρ vs)) ds []).bind fun out => .ret (.os out)
def W0 : WX := fun _ _ _ _ => False
def DTs (X : Cx) (W : Wd) (Wx : WX) (es : List Expr) (m : List LV → M Bool) : Prop := PTs X es (ttM X.K W Wx m)
theorem PTs_imp {X : Cx} {es : List Expr} {t t' : TT} (h : PTs X es t) (i : ∀ σ H Q, t' σ H Q → t σ H Q) : PTs X es t' := ⟨fun pins s σ H Q I q => h.run pins s σ H Q I (i _ _ _ q)⟩
section
variable {X : Cx} {W : Wd} {Wx : WX} {c : Expr} {t : List LV → M Bool}
theorem dts_nil : DTs X W Wx [] tYesM := PTs_imp pts_nil fun σ H Q ⟨F, ρ, fp, ok, w⟩ => w F H ok.refl
theorem dts_one (h : DT X W Wx c t) : DTs X W Wx [c] t := pts_one h
end
section
theorem wipe_at {σ : L2.St} : ∀ {vs : List Nat} {i : Nat}, (wipe σ vs)[i]? = if i ∈ vs then (σ[i]?).map fun _ => none else σ[i]?
  | [], i => by simp [wipe]
  | v :: vs, i => by
    unfold wipe
    by_cases h : v = i
    · subst h
      rw [if_pos List.mem_cons_self]
      by_cases hl : v < (wipe σ vs).length
      · rw [List.getElem?_set_self hl, wipe_length] at *
        rw [List.getElem?_eq_getElem hl]
        rfl
      · rw [List.getElem?_eq_none (by rw [List.length_set]; omega)]
        rw [wipe_length] at hl
        rw [List.getElem?_eq_none (by omega)]
        rfl
    · rw [List.getElem?_set_ne h, wipe_at]
      by_cases hi : i ∈ vs
      · rw [if_pos hi, if_pos (List.mem_cons_of_mem _ hi)]
      · rw [if_neg hi, if_neg (fun z => (List.mem_cons.mp z).elim (fun e => h e.symm) hi)]
theorem wipe_wipe (σ : L2.St) (vs : List Nat) : wipe (wipe σ vs) vs = wipe σ vs := by
  apply List.ext_getElem?
  intro i
  rw [wipe_at, wipe_at]
  by_cases h : i ∈ vs
  · rw [if_pos h, if_pos h, Option.map_map]
    rfl
  · rw [if_neg h, if_neg h]
theorem wipe_set {σ : L2.St} {vs : List Nat} {i : Nat} {x : Option V} (h : i ∈ vs) : wipe (σ.set i x) vs = wipe σ vs := by
  apply List.ext_getElem?
  intro j
  rw [wipe_at, wipe_at]
  by_cases hj : j ∈ vs
  · rw [if_pos hj, if_pos hj]
    by_cases e : i = j
    · subst e
      by_cases hl : i < σ.length
      · rw [List.getElem?_set_self hl, List.getElem?_eq_getElem hl]
        rfl
      · rw [List.getElem?_eq_none (by rw [List.length_set]; omega), List.getElem?_eq_none (by omega)]
    · rw [List.getElem?_set_ne e]
  · have e : i ≠ j := fun z => hj (z ▸ h)
    rw [if_neg hj, if_neg hj, List.getElem?_set_ne e]
/-- a target that stores into the block's own slots alone -/
def TgW (g : TG) (vs : List Nat) : Prop := ∀ ⦃v : V⦄ ⦃σ : L2.St⦄ ⦃H : Hp⦄ ⦃Q : L2.St → Hp → Prop⦄, g v σ H Q → g v σ H fun σ' H' => wipe σ' vs = wipe σ vs ∧ Q σ' H'
def TgsW (g : TGs) (vs : List Nat) : Prop := ∀ ⦃v : List V⦄ ⦃σ : L2.St⦄ ⦃H : Hp⦄ ⦃Q : L2.St → Hp → Prop⦄, g v σ H Q → g v σ H fun σ' H' => wipe σ' vs = wipe σ vs ∧ Q σ' H'
theorem tw_N {i : Nat} {vs : List Nat} (h : i ∈ vs) : TgW (gName i) vs := fun _ _ _ _ q => ⟨wipe_set h, q⟩
theorem tw_nil {vs : List Nat} : TgsW gNil vs := fun _ _ _ _ q => ⟨q.1, rfl, q.2⟩
/-- what a target asks may be weakened -/
def TgMo (g : TG) : Prop := ∀ ⦃v : V⦄ ⦃σ : L2.St⦄ ⦃H : Hp⦄ ⦃Q Q' : L2.St → Hp → Prop⦄, g v σ H Q → (∀ σ' H', Q σ' H' → Q' σ' H') → g v σ H Q'
def TgsMo (g : TGs) : Prop := ∀ ⦃v : List V⦄ ⦃σ : L2.St⦄ ⦃H : Hp⦄ ⦃Q Q' : L2.St → Hp → Prop⦄, g v σ H Q → (∀ σ' H', Q σ' H' → Q' σ' H') → g v σ H Q'
theorem mo_N {i : Nat} : TgMo (gName i) := fun _ _ _ _ _ q h => h _ _ q
theorem mo_nil : TgsMo gNil := fun _ _ _ _ _ q h => ⟨q.1, h _ _ q.2⟩
theorem mo_cons {g : TG} {gs : TGs} (h : TgMo g) (hs : TgsMo gs) : TgsMo (gCons g gs) := fun _ _ _ _ _ ⟨v, r, e, q⟩ k => ⟨v, r, e, h q fun _ _ q => hs q k⟩
theorem mo_T {K : PySem.W.Frag} {n : Nat} {gs : TGs} (hs : TgsMo gs) : TgMo (gTup K n gs) := fun _ _ _ _ _ ⟨a, xs, e, h1, h2, q⟩ k => ⟨a, xs, e, h1, h2, hs q k⟩
theorem tw_cons {g : TG} {gs : TGs} {vs : List Nat} (m : TgMo g) (ms : TgsMo gs) (h : TgW g vs) (hs : TgsW gs vs) : TgsW (gCons g gs) vs := fun v σ H Q ⟨x, r, e, q⟩ => ⟨x, r, e, m (h q) fun σ1 H1 ⟨e1, q1⟩ => ms (hs q1) fun σ2 H2 ⟨e2, q2⟩ => ⟨e2.trans e1, q2⟩⟩
theorem tw_T {K : PySem.W.Frag} {n : Nat} {gs : TGs} {vs : List Nat} (hs : TgsW gs vs) : TgW (gTup K n gs) vs := fun _ _ _ _ ⟨a, xs, e, h1, h2, q⟩ => ⟨a, xs, e, h1, h2, hs q⟩
variable {K : PySem.W.Frag} {W : Wd} {F F' H H' : Hp} {ρ : List LV} {σ : L2.St} {fp : List Addr}
theorem set_oob {α : Type} {l : List α} {i : Nat} {a : α} (h : l.length ≤ i) : l.set i a = l := by
  apply List.ext_getElem?
  intro j
  by_cases e : i = j
  · subst e
    rw [List.getElem?_eq_none (by rw [List.length_set]; exact h), List.getElem?_eq_none h]
  · rw [List.getElem?_set_ne e]
theorem Ok.wipe (ok : Ok K W F H ρ σ fp) : ∀ vs : List Nat, ∃ fp', Ok K W F H (wipeL ρ vs) (L2.wipe σ vs) fp' ∧ ∀ q ∈ fp', q ∈ fp
  | [] => ⟨fp, ok, fun _ h => h⟩
  | v :: vs => by
    obtain ⟨f1, ok1, s1⟩ := Ok.wipe ok vs
    show ∃ fp', Ok K W F H ((wipeL ρ vs).set v .un) ((L2.wipe σ vs).set v none) fp' ∧ _
    cases q : (wipeL ρ vs)[v]? with
    | none =>
      have hl : (wipeL ρ vs).length ≤ v := List.getElem?_eq_none_iff.mp q
      rw [set_oob hl, set_oob (by rw [ok1.len]; exact hl)]
      exact ⟨f1, ok1, s1⟩
    | some l =>
      obtain ⟨y, f0, g, h, h1, h2, h3, h4⟩ := RepE.at ok1.rep q
      have sub : ∀ q ∈ g ++ h, q ∈ f1 := fun q hq => by
        rw [h3]
        simp only [List.mem_append] at hq ⊢
        exact hq.elim (fun z => Or.inl (Or.inl z)) Or.inr
      have nod := ok1.nod
      rw [h3, List.nodup_append, List.nodup_append] at nod
      obtain ⟨⟨n1, n2, n3⟩, n4, n5⟩ := nod
      refine ⟨g ++ [] ++ h, ⟨ok.sub, ok.fa, ok.st, fun q hq => ok1.own q (sub q (by simpa using hq)), ?_, h4 F H .un none [] (Ex.refl _) (fun q hq o e => e) rfl⟩, fun q hq => s1 q (sub q (by simpa using hq))⟩
      rw [List.append_nil]
      exact List.nodup_append.mpr ⟨n1, n4, fun a ha b hb => n5 a (List.mem_append_left _ ha) b hb⟩
end
section
variable {X : Cx} {W : Wd} {Wx : WX} {elt tg iter : Expr} {ifs : List Expr} {scope : Scope} {own : List (Str × Nat)} {pos spos py : Pos} {mi : Im} {g : TG} {gm : Tg} {t : List LV → M Bool} {me : Em}
theorem te_lc {K : PySem.W.Frag} {vs : List Nat} (tm : TgM K W g gm) (tw : TgW g vs) {σ : L2.St} {H : Hp} {Q : VK} (h : teM K W Wx (mLc mi gm t me vs) σ H Q) : tLc (tiM K W Wx mi) g (ttM K W W0 t) (teM K W W0 me) vs σ H Q := by
  obtain ⟨F, ρ, fp, ok, w⟩ := h
  refine ⟨F, ρ, fp, ok, M.wp_mono (M.wp_bind.mp w) (fun ds wd F1 H1 J s1 it Dl hD => ?_) (fun c d h => h)⟩
  have ok1 := ok.step s1
  obtain ⟨fpw, okw, subw⟩ := ok1.wipe vs
  have nD := ok1.st.ne hD
  have FD : F1 Dl = none := by
    cases q : F1 Dl with
    | none => rfl
    | some o => rw [ok1.sub _ _ q] at hD; cases hD
  have nDf : Dl ∉ fpw := fun z => by
    obtain ⟨o, e⟩ := okw.there Dl z
    rw [hD] at e
    cases e
  let G := lcF gm t me (wipeL ρ vs)
  let Pw : Nat → Hp → Prop := fun i H' => i ≤ ds.length ∧ ∃ F' out acc, Step W [] F1 H1 F' H' ∧ H' Dl = some (.lst acc) ∧ Reps K W F' out acc ∧ F' Dl = none ∧
    (lcM G (ds.drop i) out).wp (fun out => ∀ F' H' v f, Res K W F H F' H' (.os out) v f → Q v H') (fun _ _ => True)
  have wd : (lcM G ds []).wp (fun out => ∀ F' H' v f, Res K W F H F' H' (.os out) v f → Q v H') (fun _ _ => True) := M.wp_mono (M.wp_bind.mp wd) (fun out h => h) (fun _ _ _ => trivial)
  refine ⟨fun i k H' => k = ds.length - i ∧ Pw i H', ⟨ds.length, by simp, Nat.zero_le _, F1, [], [], Step.new ok1.sub ok1.fa ok1.st hD, upd_same, rfl, FD, wd⟩, ?_⟩
  rintro i k H' ⟨rfl, hi, F', out, acc, s2, hDl, ro, FD', w⟩
  have okw' := okw.step s2
  by_cases hlt : i < ds.length
  · refine Or.inr ⟨it.go s2.ff okw'.sub hlt, Pw (i + 1), fun H2 p => ⟨ds.length - (i + 1), by omega, rfl, p⟩, fun x H2 y => ?_⟩
    obtain ⟨F2, s3, rx⟩ := it.yld s2.ff okw'.sub okw'.fa okw'.st (List.getElem?_eq_getElem hlt) y
    rw [List.drop_eq_getElem_cons hlt] at w
    have okx := okw'.step s3
    have w := M.wp_noex.mp (M.wp_bind.mp w)
    have gg : g x (L2.wipe σ vs) H2 fun σ2 H3 => ttM K W W0 t σ2 H3 fun b H3 => if b = true then teM K W W0 me σ2 H3 fun y H4 => ∃ acc, H4 Dl = some (.lst acc) ∧ acc.length < sizeLine ∧ Pw (i + 1) (upd H4 Dl (.lst (acc ++ [y]))) else Pw (i + 1) H3 := by
      refine tm okx rx (M.wp_mono (M.wp_bind.mp w) (fun ρ2 w2 σ2 fp2 ok2 sub2 => ?_) (fun c d h => h))
      refine ⟨F2, ρ2, fp2, ok2, M.wp_mono (M.wp_bind.mp w2) (fun b wb F4 H4 s4 => ?_) (fun c d h => h.elim)⟩
      have keepD : ∀ {Fa Fb Ha Hb : Hp} {o : HO}, Step W [] Fa Ha Fb Hb → Ha Dl = some o → Fa Dl = none → Hb Dl = some o ∧ Fb Dl = none := fun {Fa Fb Ha Hb o} s e n => by
        refine ⟨s.keep _ _ e List.not_mem_nil nD.1, ?_⟩
        rcases s.nf Dl n with z | z | z
        · exact z
        · rw [e] at z; cases z
        · cases z
      obtain ⟨d2, n2⟩ := keepD s3 hDl FD'
      obtain ⟨d4, n4⟩ := keepD s4 d2 n2
      have s24 := (s2.trans0 s3).trans0 s4
      have r4 : Reps K W F4 out acc := Reps.ex (s3.ff.trans s4.ff) ro
      cases b with
      | false => exact ⟨hlt, F4, out, acc, s24, d4, r4, n4, wb⟩
      | true =>
        refine ⟨F4, ρ2, fp2, ok2.step s4, M.wp_mono (M.wp_bind.mp wb) (fun x wx F5 H5 v f r5 => ?_) (fun c d h => h.elim)⟩
        obtain ⟨y, hy, wy⟩ := M.wp_opt.mp wx
        obtain ⟨F6, s6, ry⟩ := r5.frz hy
        obtain ⟨d6, n6⟩ := keepD s6 d4 n4
        have wy : acc.length < 100000 ∧ (lcM G (ds.drop (i + 1)) (out ++ [y])).wp (fun out => ∀ F' H' v f, Res K W F H F' H' (.os out) v f → Q v H') (fun _ _ => True) := by
          rw [Reps.length r4]
          exact wy
        have s26 := s24.trans0 s6
        refine ⟨acc, d6, Nat.lt_of_lt_of_le wy.1 (by rw [sizeLine_eq]; decide), hlt, F6, out ++ [y], acc ++ [v], ?_, upd_same, Reps.append (Reps.ex s6.ff r4) ⟨v, [], rfl, ry, rfl⟩, n6, wy.2⟩
        refine ⟨s26.ff, s26.nf, fun b o e nb na => ?_, fun b o e => ?_, fun b o e => ?_, s26.fa, s26.st.put nD.1 nD.2⟩
        · have n : b ≠ Dl := fun z => by rw [z, hD] at e; cases e
          rw [upd_ne n]
          exact s26.keep b o e nb na
        · by_cases n : b = Dl
          · rw [n]
            exact ⟨_, upd_same⟩
          · rw [upd_ne n]
            exact s26.there b o e
        · have n : b ≠ Dl := fun z => by rw [z, n6] at e; cases e
          rw [upd_ne n]
          exact s26.sub b o e
    have gw := tw gg
    rw [wipe_wipe] at gw
    exact gw
  · have e : i = ds.length := by omega
    subst e
    rw [List.drop_length] at w
    refine Or.inl ⟨it.stop s2.ff okw'.sub rfl, w F' H' (.ref Dl) [Dl] ⟨s1.trans0 s2, ⟨Dl, acc, rfl, hDl, ro, rfl⟩, fun q hq => ?_, fun _ => ⟨List.nodup_cons.mpr ⟨List.not_mem_nil, List.nodup_nil⟩, fun q hq => ?_⟩⟩⟩
    · rw [List.mem_singleton.mp hq]
      exact ⟨FD', nD⟩
    · rw [List.mem_singleton.mp hq]
      exact s1.free hD
theorem de_lc (hc : X.calm = true) (hN : X.N.Nodup) (hi : DI X W Wx tg iter mi) (ok : BlkOk X.N X.env.scope scope own) (tm : TgM X.K W g gm) (tw : TgW g (own.map (·.2)))
    (hg : ∀ (s : Shared) (H : Hp) (C : Addr) (cl : List (Str × Addr)) (fp : List Addr), PG (X.blk s H scope (compEnvC scope cl C X.env) fp) tg g) (ht : ∀ (s : Shared) (H : Hp) (C : Addr) (cl : List (Str × Addr)) (fp : List Addr), DTs (X.blk s H scope (compEnvC scope cl C X.env) fp) W W0 ifs t)
    (he : ∀ (s : Shared) (H : Hp) (C : Addr) (cl : List (Str × Addr)) (fp : List Addr), DE (X.blk s H scope (compEnvC scope cl C X.env) fp) W W0 elt me) (hs : ∀ x, foldedSetIterable iter X.env x = pure x := by intro _; rfl) :
    DE X W Wx (.ListComp elt [⟨tg, iter, ifs, 0⟩] scope pos) (mLc mi gm t me (own.map (·.2))) := PE_imp (pe_lc (tt := ttM X.K W W0 t) (te := teM X.K W W0 me) hc hN hi ok hg ht he hs) fun σ H Q h => te_lc tm tw h
theorem ds_setLc {i : Nat} {y : Str} (hc : X.calm = true) (hN : X.N.Nodup) (hy : X.N[i]? = some y) (hyl : X.env.scope.names.lookup y = some .local)
    (hsw : swapsWith (.ListComp elt [⟨tg, iter, ifs, 0⟩] scope pos) (some (.Name y py)) spos.line X.env = pure true) (hi : DI X W Wx tg iter mi) (ok : BlkOk X.N X.env.scope scope own) (tm : TgM X.K W g gm) (tw : TgW g (own.map (·.2)))
    (hg : ∀ (s : Shared) (H : Hp) (C : Addr) (cl : List (Str × Addr)) (fp : List Addr), PG (X.blk s H scope (compEnvC scope cl C X.env) fp) tg g) (ht : ∀ (s : Shared) (H : Hp) (C : Addr) (cl : List (Str × Addr)) (fp : List Addr), DTs (X.blk s H scope (compEnvC scope cl C X.env) fp) W W0 ifs t)
    (he : ∀ (s : Shared) (H : Hp) (C : Addr) (cl : List (Str × Addr)) (fp : List Addr), DE (X.blk s H scope (compEnvC scope cl C X.env) fp) W W0 elt me) (hs : ∀ x, foldedSetIterable iter X.env x = pure x := by intro _; rfl) :
    DS X W Wx (.Assign [.Name y py] (.ListComp elt [⟨tg, iter, ifs, 0⟩] scope pos) spos) (sSet i (mLc mi gm t me (own.map (·.2)))) := PS_imp (ps_setLc (tt := ttM X.K W W0 t) (te := teM X.K W W0 me) hc hN hy hyl hsw hi ok hg ht he hs) fun En σ H h => by
  have h2 := te_asg h
  exact te_lc tm tw h2
end
end Dn
end

section
set_option Elab.async false
set_option linter.all false
set_option maxRecDepth 100000
set_option maxHeartbeats 1000000
namespace Dn
open PySem PySem.Spec PyProof.Rows L2 Evl GrO
/-! ## defs, classes -/
abbrev Fs := List D → M LV
def excX (K : PySem.W.Frag) (W : Wd) (F H : Hp) (E : XK) : Nat → D → Prop := fun c d => ∀ F' H' dx v, Step W [] F H F' H' → H dx = none → H' dx = some (.xd [(("value" : Str), v)]) → Rep K W F' d v → E (.ref (W.cl c)) (some dx) H'
/-- a def's promise: it runs as f says -/
def spM (K : PySem.W.Frag) (W : Wd) (n : Nat) (f : Fs) : Sp := fun vs H Q E => ∃ F ds, Ex F H ∧ F W.a = none ∧ StOk W H ∧ ds.length = n ∧ Reps K W F ds vs ∧
  (f ds).wp (fun lv => ∀ F' H' v g, Res K W F H F' H' lv v g → isBo lv = false → Q v H') (excX K W F H E)
/-- the body's run, from what is handed in -/
def runB (m : Sm) (n : Nat) (ds : List D) : M LV := ((m (ds.map .fz ++ List.replicate (n - ds.length) .un)).noex).bind fun fl => match fl with
  | .next _ => .ret (.fz .non)
  | .ret (.bo _) => .bad
  | .ret l => .ret l
  | .exn _ c d => .exc c d
  | _ => .bad
/-- m does no more than s lets -/
def Ref {α : Type} (m s : M α) : Prop := ∀ (P : α → Prop) (E : Nat → D → Prop), s.wp P E → m.wp P E
theorem start_rep {K : PySem.W.Frag} {W : Wd} {F H : Hp} : ∀ {ds : List D} {vs : List V} (k : Nat), Reps K W F ds vs → RepE K W F H (ds.map .fz ++ List.replicate k .un) (vs.map some ++ List.replicate k none) []
  | [], vs, 0, h => by rw [show vs = [] from h]; exact ⟨rfl, rfl⟩
  | [], vs, k + 1, h => by
    rw [show vs = [] from h]
    exact ⟨none, List.replicate k none, [], [], by rw [List.replicate_succ]; rfl, rfl, start_rep (ds := []) (vs := []) k rfl, rfl⟩
  | d :: ds, vs, k, ⟨v, r, a, b, c⟩ => by
    rw [a]
    exact ⟨some v, r.map some ++ List.replicate k none, [], [], rfl, ⟨b, rfl⟩, start_rep k c, rfl⟩
section
variable {P : Program} {w : World} {K : PySem.W.Frag} {mg : Str → Option Value} {base : Heap} {W : Wd}
/-- THE RULE for a def -/
theorem fn_den {x qual : Str} {st : Stmt} {f : Addr} {fd : FuncData} {N ps : List Str} {k n : Nat} {m : Sm} {fs : Fs} (T : Fun K x qual st f fd) (S : FnScope N ps (defScope st)) (hn : ps.length = n)
    (hb : ∀ (cdv : Value) (A : Around) (outer : List Env) (s : Shared) (H : Hp) (E : XK), Room k (A.deeper (envOfC qual (defScope st) s.heap.objs.size f cdv)) → DSs (cxOf (L2.CX P w) P w K mg base N qual (defScope st) f cdv A outer s H E) W (fun cls d _ H' => E cls d H') (defBody st) m)
    (hr : ∀ ds : List D, ds.length = n → Ref (runB m N.length ds) (fs ds)) : FnOk P w K mg base (L2.CX P w) (k + 1) f fd ps (spM K W n fs) := by
  refine T.okX S (fun vs H Q E h => ?_) (fun cdv A outer s H vs Q E room h => ?_)
  · obtain ⟨F, ds, _, _, _, hl, hr, _⟩ := h
    rw [Reps.length hr, hl, hn]
  · obtain ⟨F, ds, ex, fa, st', hl, hv, wf⟩ := h
    have w2 := M.wp_noex.mp (M.wp_bind.mp (hr ds hl _ _ wf))
    have h0 : RepE K W F H (ds.map .fz ++ List.replicate (N.length - ds.length) .un) (L2.start N vs) [] := by
      have := start_rep (K := K) (W := W) (F := F) (H := H) (N.length - vs.length) hv
      rw [Reps.length hv] at this
      unfold L2.start
      rw [Reps.length hv]
      exact this
    refine ⟨_, hb cdv A outer s H E room, F, ds.map LV.fz ++ List.replicate (N.length - ds.length) LV.un, [], ⟨ex, fa, st', fun _ h => absurd h List.not_mem_nil, List.nodup_nil, h0⟩, ?_⟩
    refine M.wp_mono w2 (fun fl k => ?_) (fun c d h => h)
    cases fl with
    | next ρ => exact fun F' H' σ' fp' s ok sub => k F' H' .non [] ⟨s, ⟨rfl, rfl⟩, fun _ h => absurd h List.not_mem_nil, fun _ => ⟨List.nodup_nil, fun _ h => absurd h List.not_mem_nil⟩⟩ rfl
    | brk ρ => exact k.elim
    | cont ρ => exact k.elim
    | exn ρ c d => exact fun F' H' σ' fp' dx v s ok sub n e r => k F' H' dx v s n e r
    | ret l =>
      have go : isBo l = false → (∀ F' H' v g, Res K W F H F' H' l v g → isBo l = false → Q v H') → reP K W F H [] Q l := fun nb k F' H' v f s r own nd sub =>
        k F' H' v f ⟨s, r, own, fun _ => ⟨nd, fun q hq => (sub q hq).elim (fun z => absurd z List.not_mem_nil) (fun z => z)⟩⟩ nb
      cases l with
      | bo l => exact k.elim
      | _ => exact go rfl k
end
/-! ### calls -/
def mCall (n : Nat) (f : Fs) (ma : Ema) : Em := fun ρ => (ma ρ).bind fun xs => M.opt (toDs xs) fun ds => .need (ds.length = n) (f ds)
section
variable {X : Cx} {W : Wd} {Wx : WX} {x m : Str} {p pos apos : Pos} {e o : Expr} {es : List Expr} {ma : Ema} {mo : Em} {k n : Nat} {f C : Addr} {fd : FuncData} {ps : List Str} {fs : Fs}
theorem sp_run {K : PySem.W.Frag} {F F2 H H2 : Hp} {ds : List D} {vs : List V} {σ : L2.St} {Q : VK} (hv : Reps K W F2 ds vs) (s : Step W [] F H F2 H2) (hl : ds.length = n) (w : (fs ds).wp (fun lv => ∀ F' H' v f, Res K W F H F' H' lv v f → Q v H') (excE K W Wx σ F H)) : spM K W n fs vs H2 Q (WE Wx σ) :=
  ⟨F2, ds, s.sub, s.fa, s.st, hl, hv, M.wp_mono w (fun lv h F' H' v g r _ => h F' H' v g (r.pre s)) (fun c d h F' H' dx v s2 n e r => h F' H' dx v (s.trans0 s2) (s.free n) e r)⟩
theorem te_call {K : PySem.W.Frag} {σ : L2.St} {H : Hp} {Q : VK} (h : teM K W Wx (mCall n fs ma) σ H Q) : tCallS (spM K W n fs) (WE Wx) (taM K W Wx ma) σ H Q := by
  obtain ⟨F, ρ, fp, ok, w⟩ := h
  refine ⟨F, ρ, fp, ok, M.wp_mono (M.wp_bind.mp w) (fun xs wx F1 H1 vs f1 r1 => ?_) (fun c d h => h)⟩
  obtain ⟨ds, hd, hl, wx⟩ := M.wp_opt.mp wx
  obtain ⟨F2, s2, hv⟩ := r1.frz hd
  exact sp_run hv s2 hl wx
theorem de_call (F : FnOk X.prog X.w X.K X.mg X.base (L2.CX X.prog X.w) k f fd ps (spM X.K W n fs)) (hr : Room k X.A) (hg : Gl X x) (hm : X.mg x = some (.ref f)) (hk : PySem.W.keepIn X.K (.ref f) = true) (hb : Binds X.K fd ps []) (tk : Takes X Wx)
    (ha : DA X W Wx (e :: es) ma) (hdb : (x == ("__debug__" : Str)) = false := by decide) (he : starEach (e :: es) X.env = (false, eval e X.env) :: starEach es X.env := by rfl) (hpl : (backTo pos (starEach es X.env)).any (·.1) = false := by rfl) :
    DE X W Wx (.Call (.Name x p) (e :: es) [] pos) (mCall n fs ma) := PE_imp (pe_callS F hr hg hm hk hb (fun σ => passAt tk σ) ha hdb he hpl) fun σ H Q h => te_call h
/-- a method that may raise -/
def tMethX (C : Addr) (m : Str) (sp : Sp) (E : L2.St → XK) (ta : TE) (t : TA) : TE := fun σ H Q => ta σ H fun x H1 => ∃ a dx fs, x = .ref a ∧ H1 a = some (.ins C dx fs) ∧ fs.lookup m = none ∧ t σ H1 fun vs H2 => sp (x :: vs) H2 Q (E σ)
theorem pe_methX {sp : Sp} {E : L2.St → XK} {ta : TE} {t : TA} {pl : Sem Bool} (he : PE X o ta) (c : Cls X.K C) (hm : Meth X.K C m f) (F : FnOk X.prog X.w X.K X.mg X.base (L2.CX X.prog X.w) k f fd ps sp) (hr : Room k X.A) (hb : Binds X.K fd ps []) (hx : ∀ σ, PassesAt (L2.CX X.prog X.w) X σ (E σ)) (ha : PA X (e :: es) t)
    (hst : starEach (e :: es) X.env = (false, eval e X.env) :: starEach es X.env := by rfl) (hpl : (backTo pos (starEach es X.env)).any (·.1) = false := by rfl)
    (ht : eval (.Call (.Attribute o m apos) (e :: es) [] pos) X.env = (do
      let ov ← eval o X.env
      standAt apos.atName
      let (f, first) ← holding [ov] (getMethod ov m pl)
      callWith pos f first (backTo pos (starEach (e :: es) X.env)) (backToKw pos (keywordEach [] X.env))) := by rfl) :
    PE X (.Call (.Attribute o m apos) (e :: es) [] pos) (tMethX C m sp E ta t) := by
  refine ⟨fun pins s σ H Q I h => ?_⟩
  refine PySem.W.methodCall_KW (pl := pl) (thn (he.run pins s σ H _ I h) fun u s1 ⟨x, H1, I1, rx, a, dx, fs, ex, ea, l, q⟩ => ?_) ht
  subst ex
  obtain rfl : u = Value.ref a := rx
  refine getmeth_ok I1 ea c hm l ?_
  refine PySem.W.callWith_K (first := [.ref a]) (h₀ := X.base) I.ok.mod.kin hm.kp (thn (ha.run pos pins s1 σ H1 _ I1 q) fun us s2 ⟨vs, H2, I2, r, q2⟩ => ⟨I2.kIn, ?_⟩) hst hpl
  exact run_fnS (us := .ref a :: us) (vs := .ref a :: vs) F hr hb (hx σ) I2 (.cons rfl r) q2
theorem pe_methX0 {sp : Sp} {E : L2.St → XK} {ta : TE} {pl : Sem Bool} (he : PE X o ta) (c : Cls X.K C) (hm : Meth X.K C m f) (F : FnOk X.prog X.w X.K X.mg X.base (L2.CX X.prog X.w) k f fd ps sp) (hr : Room k X.A) (hb : Binds X.K fd ps []) (hx : ∀ σ, PassesAt (L2.CX X.prog X.w) X σ (E σ))
    (ht : eval (.Call (.Attribute o m apos) [] [] pos) X.env = (do
      let ov ← eval o X.env
      standAt apos.atName
      let (f, first) ← holding [ov] (getMethod ov m pl)
      callWith pos f first (backTo pos (starEach [] X.env)) (backToKw pos (keywordEach [] X.env))) := by rfl) :
    PE X (.Call (.Attribute o m apos) [] [] pos) (tMethX C m sp E ta tNil) := by
  refine ⟨fun pins s σ H Q I h => ?_⟩
  refine PySem.W.methodCall_KW (pl := pl) (thn (he.run pins s σ H _ I h) fun u s1 ⟨x, H1, I1, rx, a, dx, fs, ex, ea, l, q⟩ => ?_) ht
  subst ex
  obtain rfl : u = Value.ref a := rx
  refine getmeth_ok I1 ea c hm l ?_
  exact PySem.W.callWith_K0 (first := [.ref a]) I1.kIn hm.kp (run_fnS (us := [.ref a]) (vs := [.ref a]) F hr hb (hx σ) I1 (.cons rfl .nil) q)
/-- o.m(..): o an instance of the class c -/
def mMeth (c n : Nat) (f : Fs) (mo : Em) (ma : Ema) : Em := fun ρ => (mo ρ).bind fun x => match x with
  | .fz (.obj c' fs) => .need (c' = c) ((ma ρ).bind fun xs => M.opt (toDs xs) fun ds => .need (ds.length + 1 = n) (f (.obj c' fs :: ds)))
  | _ => .bad
theorem lookup_map {fs : List (Str × V)} {nm : List Str} (h : fs.map (·.1) = nm) {m : Str} (hm : nm.contains m = false) : fs.lookup m = none := by
  subst h
  induction fs with
  | nil => rfl
  | cons p r ih =>
    rw [List.map_cons, List.contains_cons, Bool.or_eq_false_iff] at hm
    obtain ⟨a, b⟩ := p
    rw [List.lookup_cons, hm.1]
    exact ih hm.2
theorem te_meth {K : PySem.W.Frag} {c : Nat} (hn : (W.nm c).contains m = false) {σ : L2.St} {H : Hp} {Q : VK} (h : teM K W Wx (mMeth c n fs mo ma) σ H Q) : tMethX (W.cl c) m (spM K W n fs) (WE Wx) (teM K W Wx mo) (taM K W Wx ma) σ H Q := by
  obtain ⟨F, ρ, fp, ok, w⟩ := h
  refine ⟨F, ρ, fp, ok, M.wp_mono (M.wp_bind.mp w) (fun x wx F1 H1 v f1 r1 => ?_) (fun c d h => h)⟩
  cases x with
  | fz d =>
    cases d with
    | obj c' gs =>
      obtain ⟨rfl, wx⟩ := wx
      obtain ⟨⟨a, dx, es, rfl, h1, h2, h3⟩, _⟩ := r1.rep
      refine ⟨a, dx, es, rfl, r1.step.sub _ _ h1, lookup_map h2 hn, F1, ρ, fp, ok.step r1.step, M.wp_mono (M.wp_bind.mp wx) (fun xs wy F2 H2 vs f2 r2 => ?_) (fun c d h => h.step r1.step)⟩
      obtain ⟨ds, hd, hl, wy⟩ := M.wp_opt.mp wy
      obtain ⟨F3, s3, hv⟩ := r2.frz hd
      exact sp_run (F2 := F3) (ds := .obj c' gs :: ds) ⟨_, _, rfl, ⟨a, dx, es, rfl, s3.ff _ _ h1, h2, Reps.ex s3.ff h3⟩, hv⟩ (r1.step.trans0 s3) hl wy
    | _ => exact wx.elim
  | _ => exact wx.elim
theorem de_meth {c : Nat} (ho : DE X W Wx o mo) (cl : Cls X.K (W.cl c)) (hm : Meth X.K (W.cl c) m f) (F : FnOk X.prog X.w X.K X.mg X.base (L2.CX X.prog X.w) k f fd ps (spM X.K W n fs)) (hr : Room k X.A) (hb : Binds X.K fd ps []) (tk : Takes X Wx) (hn : (W.nm c).contains m = false) (ha : DA X W Wx (e :: es) ma) {pl : Sem Bool}
    (hst : starEach (e :: es) X.env = (false, eval e X.env) :: starEach es X.env := by rfl) (hpl : (backTo pos (starEach es X.env)).any (·.1) = false := by rfl)
    (ht : eval (.Call (.Attribute o m apos) (e :: es) [] pos) X.env = (do
      let ov ← eval o X.env
      standAt apos.atName
      let (f, first) ← holding [ov] (getMethod ov m pl)
      callWith pos f first (backTo pos (starEach (e :: es) X.env)) (backToKw pos (keywordEach [] X.env))) := by rfl) :
    DE X W Wx (.Call (.Attribute o m apos) (e :: es) [] pos) (mMeth c n fs mo ma) := PE_imp (pe_methX ho cl hm F hr hb (fun σ => passAt tk σ) ha hst hpl ht) fun σ H Q h => te_meth hn h
theorem de_meth0 {c : Nat} (ho : DE X W Wx o mo) (cl : Cls X.K (W.cl c)) (hm : Meth X.K (W.cl c) m f) (F : FnOk X.prog X.w X.K X.mg X.base (L2.CX X.prog X.w) k f fd ps (spM X.K W n fs)) (hr : Room k X.A) (hb : Binds X.K fd ps []) (tk : Takes X Wx) (hn : (W.nm c).contains m = false) {pl : Sem Bool}
    (ht : eval (.Call (.Attribute o m apos) [] [] pos) X.env = (do
      let ov ← eval o X.env
      standAt apos.atName
      let (f, first) ← holding [ov] (getMethod ov m pl)
      callWith pos f first (backTo pos (starEach [] X.env)) (backToKw pos (keywordEach [] X.env))) := by rfl) :
    DE X W Wx (.Call (.Attribute o m apos) [] [] pos) (mMeth c n fs mo maNil) := PE_imp (pe_methX0 ho cl hm F hr hb (fun σ => passAt tk σ) ht) fun σ H Q h => by
  obtain ⟨F, ρ, fp, ok, w⟩ := te_meth hn h
  refine ⟨F, ρ, fp, ok, M.wp_mono w (fun x k F' H' v f r => ?_) (fun c d h => h)⟩
  obtain ⟨a, dx, es, h1, h2, h3, F2, ρ2, fp2, ok2, w2⟩ := k F' H' v f r
  exact ⟨a, dx, es, h1, h2, h3, w2 F2 H' [] [] ⟨ok2.refl, ⟨rfl, rfl⟩, fun _ h => absurd h List.not_mem_nil, fun _ => ⟨List.nodup_nil, fun _ h => absurd h List.not_mem_nil⟩⟩⟩
/-! ### fields, properties -/
def mFld (c j : Nat) (mo : Em) : Em := fun ρ => (mo ρ).bind fun x => match x with
  | .fz (.obj c' fs) => .need (c' = c) (M.opt fs[j]? fun d => .ret (.fz d))
  | .bo (.sf c' _ fs) => .need (c' = c) (M.opt fs[j]? fun d => .ret (.fz d))
  | _ => .bad
theorem lookup_ix : ∀ {fs : List (Str × V)} {nm : List Str} {j : Nat} {x : Str} {v : V}, fs.map (·.1) = nm → nm.Nodup → nm[j]? = some x → (fs.map (·.2))[j]? = some v → fs.lookup x = some v
  | [], nm, j, x, v, h, _, hx, _ => by subst h; cases hx
  | (a, b) :: r, nm, 0, x, v, h, hn, hx, hv => by
    subst h
    cases hx
    cases hv
    rw [List.lookup_cons, beq_self_eq_true]
  | (a, b) :: r, nm, j + 1, x, v, h, hn, hx, hv => by
    subst h
    rw [List.map_cons, List.nodup_cons] at hn
    have hx2 : (r.map (·.1))[j]? = some x := hx
    have ne : (x == a) = false := by
      rw [beq_eq_false_iff_ne]
      intro e
      exact hn.1 (by rw [← e]; exact List.mem_of_getElem? hx2)
    rw [List.lookup_cons, ne]
    exact lookup_ix rfl hn.2 hx2 hv
theorem de_fld {c j : Nat} {fl : Str} (ho : DE X W Wx o mo) (cl : Cls X.K (W.cl c)) (na : NoAttr X.K (W.cl c) fl) (nd : (W.nm c).Nodup) (hj : (W.nm c)[j]? = some fl) (hb : attributeBase o fl X.env (eval o X.env) = eval o X.env := by rfl) :
    DE X W Wx (.Attribute o fl pos) (mFld c j mo) := PE_imp (pe_fld ho hb) fun σ H Q ⟨F, ρ, fp, ok, w⟩ => by
  refine ⟨F, ρ, fp, ok, M.wp_mono (M.wp_bind.mp w) (fun x wx F1 H1 v f1 r1 => ?_) (fun c d h => h)⟩
  cases x with
  | fz d =>
    cases d with
    | obj c' gs =>
      obtain ⟨rfl, wx⟩ := wx
      obtain ⟨d, hd, wx⟩ := M.wp_opt.mp wx
      obtain ⟨⟨a, dx, es, rfl, h1, h2, h3⟩, _⟩ := r1.rep
      obtain ⟨u, h4, h5⟩ := Reps.get h3 hd
      exact ⟨a, _, dx, es, u, rfl, r1.step.sub _ _ h1, cl, na, lookup_ix h2 nd hj h4, wx _ _ _ _ ((Res.val r1.step.sub r1.step.fa r1.step.st h5).pre r1.step)⟩
    | _ => exact wx.elim
  | bo l =>
    cases l with
    | sf c' p gs =>
      obtain ⟨rfl, wx⟩ := wx
      obtain ⟨d, hd, wx⟩ := M.wp_opt.mp wx
      obtain ⟨dx, es, rfl, h1, h2, h3, _⟩ := r1.rep
      obtain ⟨u, h4, h5⟩ := Reps.get h3 hd
      have hjl : j < gs.length := (List.getElem?_eq_some_iff.mp hd).1
      refine ⟨p, _, dx, es, u, rfl, h1, cl, na, lookup_ix h2 (nd.sublist (List.take_sublist _ _)) ?_ h4, wx _ _ _ _ ((Res.val r1.step.sub r1.step.fa r1.step.st h5).pre r1.step)⟩
      rw [List.getElem?_take_of_lt hjl]
      exact hj
    | _ => exact wx.elim
  | _ => exact wx.elim
end
end Dn
end

section
set_option Elab.async false
set_option linter.all false
set_option maxRecDepth 100000
set_option maxHeartbeats 400000
namespace PySem.GrX
open PySem.W PySem.Calls PyProof.Rows PySem.HandSPX
/-- a whole number of less than 1900 bits shows short enough -/
theorem shows_big {prog : Program} {w : World} {A : Around} {h : Heap} {i : Int} {t : Tok} (hi : i.natAbs < 2 ^ 1900) : Shows prog w A h (.int i t) := fun s E Q _ hq => by
  have hl : i.natAbs.log2 < 1920 := by
    by_cases h0 : i.natAbs = 0
    · rw [h0]; decide
    · exact Nat.lt_of_lt_of_le ((Nat.log2_lt h0).2 hi) (by decide)
  refine pyReprObj_int hl (hq _ _ _ ?_)
  have e := int_text_length_le10 (a := i) (k := 600) (by decide) (Nat.lt_of_lt_of_le hi (by decide +kernel))
  rw [ofString_length]
  omega
end PySem.GrX
namespace L2
open PySem PySem.Spec PyProof.Rows
theorem showV_big {P : Program} {w : World} {H : Hp} {i : Int} (hi : i.natAbs < 2 ^ 1900) : ShowV P w H (.int i) := fun u h A r _ => by
  obtain ⟨t, rfl⟩ := r
  exact PySem.GrX.shows_big hi
end L2
end

section
set_option Elab.async false
set_option linter.all false
set_option maxRecDepth 100000
set_option maxHeartbeats 1000000
namespace Dn
open PySem PySem.Spec PyProof.Rows L2 Evl GrO
section
variable {X : Cx} {W : Wd} {Wx : WX} {x m : Str} {p pos apos : Pos} {e o : Expr} {es : List Expr} {ma : Ema} {mo me : Em} {k n : Nat} {f C : Addr} {fd : FuncData} {ps : List Str} {fs : Fs}
/-! ### a property -/
def mProp (c : Nat) (f : Fs) (mo : Em) : Em := fun ρ => (mo ρ).bind fun x => match x with
  | .fz (.obj c' fs) => .need (c' = c) (M.noex (f [.obj c' fs]))
  | _ => .bad
theorem sp_run0 {K : PySem.W.Frag} {F F2 H H2 : Hp} {ds : List D} {vs : List V} {Q : VK} {E' : Nat → D → Prop} {E : XK} (hv : Reps K W F2 ds vs) (s : Step W [] F H F2 H2) (hl : ds.length = n) (w : (M.noex (fs ds)).wp (fun lv => ∀ F' H' v f, Res K W F H F' H' lv v f → Q v H') E') : spM K W n fs vs H2 Q E :=
  ⟨F2, ds, s.sub, s.fa, s.st, hl, hv, M.wp_mono (M.wp_noex.mp w) (fun lv h F' H' v g r _ => h F' H' v g (r.pre s)) (fun c d h => h.elim)⟩
theorem de_prop {c : Nat} {pa g : Addr} (ho : DE X W Wx o mo) (cl : Cls X.K (W.cl c)) (hp : PropOf X.K (W.cl c) m pa g) (F : FnOk X.prog X.w X.K X.mg X.base (L2.CX X.prog X.w) k g fd ps (spM X.K W 1 fs)) (hr : Room (k + 1) X.A) (hb : Binds X.K fd ps [])
    (hab : attributeBase o m X.env (eval o X.env) = eval o X.env := by rfl) : DE X W Wx (.Attribute o m pos) (mProp c fs mo) := PE_imp (pe_prop ho cl hp F hr hb .nil passL hab) fun σ H Q ⟨F, ρ, fp, ok, w⟩ => by
  refine ⟨F, ρ, fp, ok, M.wp_mono (M.wp_bind.mp w) (fun x wx F1 H1 v f1 r1 => ?_) (fun c d h => h)⟩
  cases x with
  | fz d =>
    cases d with
    | obj c' gs =>
      obtain ⟨rfl, wx⟩ := wx
      have r := r1.rep.1
      obtain ⟨a, dx, es, rfl, h1, h2, h3⟩ := r1.rep.1
      exact ⟨a, dx, es, rfl, r1.step.sub _ _ h1, sp_run0 (ds := [.obj c' gs]) ⟨_, _, rfl, r, rfl⟩ r1.step rfl wx⟩
    | _ => exact wx.elim
  | _ => exact wx.elim
/-! ### the making of an instance -/
abbrev Fi := List D → M (List D)
def spI (K : PySem.W.Frag) (W : Wd) (c n : Nat) (fi : Fi) : Sp := fun vs H Q E => ∃ p dx F ds vr, vs = .ref p :: vr ∧ H p = some (.ins (W.cl c) dx []) ∧ F p = none ∧ p ≠ W.a ∧ p ≠ W.q ∧ Ex F H ∧ F W.a = none ∧ StOk W H ∧ ds.length = n ∧ Reps K W F ds vr ∧
  (fi ds).wp (fun fs => ∀ F' H' dx gs, Step W [p] F H F' H' → F' p = none → H' p = some (.ins (W.cl c) dx gs) → gs.map (·.1) = W.nm c → Reps K W F' fs (gs.map (·.2)) → Q .non H')
    (fun cc d => ∀ F' H' d2 v, Step W [p] F H F' H' → H d2 = none → H' d2 = some (.xd [(("value" : Str), v)]) → Rep K W F' d v → E (.ref (W.cl cc)) (some d2) H')
def mMake (c n : Nat) (fi : Fi) (dd : List D) (ma : Ema) : Em := fun ρ => (ma ρ).bind fun xs => M.opt (toDs xs) fun ds => .need ((ds ++ dd).length = n) ((fi (ds ++ dd)).bind fun fs => .ret (.fz (.obj c fs)))
theorem made_step {F F2 F' H H1 H' : Hp} {x dx : Addr} {o : HO} (s2 : Step W [] F H F2 H1) (nx : H1 x = none) (ndx : H1 dx = none) (s3 : Step W [x] F2 (upd (upd H1 dx (.own x)) x (.ins C dx [])) F' H') (hF : F' x = none) (hH : H' x = some o) : Step W [] F H (upd F' x o) H' := by
  have old : ∀ b u, H1 b = some u → b ≠ x ∧ (upd (upd H1 dx (.own x)) x (.ins C dx [])) b = some u := fun b u e => by
    have n1 : b ≠ x := fun z => by rw [z, nx] at e; cases e
    have n2 : b ≠ dx := fun z => by rw [z, ndx] at e; cases e
    exact ⟨n1, by rw [upd_ne n1, upd_ne n2]; exact e⟩
  have nw : ∀ p, (upd (upd H1 dx (.own x)) x (.ins C dx [])) p = none → H1 p = none := fun p e => by
    cases q : H1 p with
    | none => rfl
    | some u => rw [(old p u q).2] at e; cases e
  refine ⟨(s2.ff.trans s3.ff).trans (Ex.new hF), fun p hp => ?_, fun b u e _ na => ?_, fun b u e => ?_, fun b u e => ?_, ?_, s3.st⟩
  · by_cases hx : p = x
    · rw [hx]
      exact Or.inr (Or.inl (s2.free nx))
    · rw [upd_ne hx]
      rcases s2.nf p hp with z | z | z
      · rcases s3.nf p z with y | y | y
        · exact Or.inl y
        · exact Or.inr (Or.inl (s2.free (nw p y)))
        · exact absurd (List.mem_singleton.mp y) hx
      · exact Or.inr (Or.inl z)
      · exact absurd z List.not_mem_nil
  · obtain ⟨n1, e1⟩ := old b u (s2.keep b u e List.not_mem_nil na)
    exact s3.keep b u e1 (fun z => n1 (List.mem_singleton.mp z)) na
  · obtain ⟨u1, e1⟩ := s2.there b u e
    exact s3.there b u1 (old b u1 e1).2
  · by_cases hx : b = x
    · rw [hx, upd_same] at e
      rw [hx, hH]
      exact e
    · rw [upd_ne hx] at e
      exact s3.sub _ _ e
  · have n : W.a ≠ x := fun z => (s2.st.ne nx).1 z.symm
    rw [upd_ne n]
    exact s3.fa
theorem made_stepE {F F2 F' H H1 H' : Hp} {x dx : Addr} (s2 : Step W [] F H F2 H1) (nx : H1 x = none) (ndx : H1 dx = none) (s3 : Step W [x] F2 (upd (upd H1 dx (.own x)) x (.ins C dx [])) F' H') : Step W [] F H F' H' := by
  have old : ∀ b u, H1 b = some u → b ≠ x ∧ (upd (upd H1 dx (.own x)) x (.ins C dx [])) b = some u := fun b u e => by
    have n1 : b ≠ x := fun z => by rw [z, nx] at e; cases e
    have n2 : b ≠ dx := fun z => by rw [z, ndx] at e; cases e
    exact ⟨n1, by rw [upd_ne n1, upd_ne n2]; exact e⟩
  have nw : ∀ p, (upd (upd H1 dx (.own x)) x (.ins C dx [])) p = none → H1 p = none := fun p e => by
    cases q : H1 p with
    | none => rfl
    | some u => rw [(old p u q).2] at e; cases e
  refine ⟨s2.ff.trans s3.ff, fun p hp => ?_, fun b u e _ na => ?_, fun b u e => ?_, s3.sub, s3.fa, s3.st⟩
  · rcases s2.nf p hp with z | z | z
    · rcases s3.nf p z with y | y | y
      · exact Or.inl y
      · exact Or.inr (Or.inl (s2.free (nw p y)))
      · rw [List.mem_singleton.mp y]
        exact Or.inr (Or.inl (s2.free nx))
    · exact Or.inr (Or.inl z)
    · exact absurd z List.not_mem_nil
  · obtain ⟨n1, e1⟩ := old b u (s2.keep b u e List.not_mem_nil na)
    exact s3.keep b u e1 (fun z => n1 (List.mem_singleton.mp z)) na
  · obtain ⟨u1, e1⟩ := s2.there b u e
    exact s3.there b u1 (old b u1 e1).2
theorem te_make {K : PySem.W.Frag} {c : Nat} {fi : Fi} {dd : List D} {dvs : List V} (rd : ∀ F, Reps K W F dd dvs) {σ : L2.St} {H : Hp} {Q : VK} (h : teM K W Wx (mMake c n fi dd ma) σ H Q) : tMkS (W.cl c) (spI K W c n fi) dvs (WE Wx) (taM K W Wx ma) σ H Q := by
  obtain ⟨F, ρ, fp, ok, w⟩ := h
  refine ⟨F, ρ, fp, ok, M.wp_mono (M.wp_bind.mp w) (fun xs wx F1 H1 vs f1 r1 => ?_) (fun c d h => h)⟩
  obtain ⟨ds, hd, hl, wx⟩ := M.wp_opt.mp wx
  obtain ⟨F2, s2, hv⟩ := r1.frz hd
  intro x dx nx ndx ne
  have none2 : ∀ p, H1 p = none → F2 p = none := fun p hp => by
    cases q : F2 p with
    | none => rfl
    | some o => rw [s2.sub _ _ q] at hp; cases hp
  have npx := s2.st.ne nx
  have npd := s2.st.ne ndx
  refine ⟨x, dx, F2, ds ++ dd, vs ++ dvs, rfl, upd_same, none2 x nx, npx.1, npx.2, fun a o e => ?_, s2.fa, (s2.st.put npd.1 npd.2).put npx.1 npx.2, hl, Reps.append hv (rd F2), M.wp_mono (M.wp_bind.mp wx) (fun fs wf F' H' dx' gs s3 hF hH hn hr => ⟨rfl, ?_⟩) (fun cc d h F' H' d2 v s3 n2 e2 r2 => ?_)⟩
  · have e1 := s2.sub _ _ e
    have n1 : a ≠ x := fun z => by rw [z, nx] at e1; cases e1
    have n2 : a ≠ dx := fun z => by rw [z, ndx] at e1; cases e1
    rw [upd_ne n1, upd_ne n2]
    exact e1
  · have s4 := made_step s2 nx ndx s3 hF hH
    exact wf _ H' (.ref x) [] ⟨s4, ⟨⟨x, dx', gs, rfl, upd_same, hn, Reps.ex (Ex.new hF) hr⟩, rfl⟩, fun _ h => absurd h List.not_mem_nil, fun _ => ⟨List.nodup_nil, fun _ h => absurd h List.not_mem_nil⟩⟩
  · have s4 := made_stepE s2 nx ndx s3
    refine h F' H' d2 v s4 (s2.free ?_) e2 r2
    cases q : H1 d2 with
    | none => rfl
    | some u =>
      have n1 : d2 ≠ x := fun z => by rw [z, nx] at q; cases q
      have n3 : d2 ≠ dx := fun z => by rw [z, ndx] at q; cases q
      rw [upd_ne n1, upd_ne n3, q] at n2
      cases n2
theorem de_make {c : Nat} {fi : Fi} {dd : List D} {dvs : List V} {dv : List Value} (mk : Mk X.K (W.cl c) f) (fo : FnOk X.prog X.w X.K X.mg X.base (L2.CX X.prog X.w) k f fd ps (spI X.K W c n fi)) (room : Room (k + 1) X.A) (gl : Gl X x) (hm : X.mg x = some (.ref (W.cl c))) (bi : Binds X.K fd ps dv) (dvr : Vals dvs dv) (rd : ∀ F, Reps X.K W F dd dvs) (tk : Takes X Wx)
    (ar : DA X W Wx (e :: es) ma) (nd : (x == ("__debug__" : Str)) = false := by decide) (se : starEach (e :: es) X.env = (false, eval e X.env) :: starEach es X.env := by rfl) (np : (backTo pos (starEach es X.env)).any (·.1) = false := by rfl) :
    DE X W Wx (.Call (.Name x p) (e :: es) [] pos) (mMake c n fi dd ma) := PE_imp (pe_makeS mk fo room gl hm bi dvr (fun σ => passAt tk σ) ar nd se np) fun σ H Q h => te_make rd h
end
/-- an __init__'s run -/
def runI (p : Addr) (c L : Nat) (m : Sm) (n : Nat) (ds : List D) : M (List D) := ((m (.sf c p [] :: (ds.map .fz ++ List.replicate (n - (ds.length + 1)) .un))).noex).bind fun fl => match fl with
  | .exn _ c d => .exc c d
  | .next (.sf c' p' fs :: _) => .need ((c' = c ∧ p' = p) ∧ fs.length = L) (.ret fs)
  | _ => .bad
section
variable {P : Program} {w : World} {K : PySem.W.Frag} {mg : Str → Option Value} {base : Heap} {W : Wd}
theorem init_core {c L n : Nat} {N : List Str} {m : Sm} {fi : Fi} {H : Hp} {vs : List V} {Q : VK} {E : XK} (hL : (W.nm c).length = L) (h : spI K W c n fi vs H Q E) (hr : ∀ (p : Addr) (ds : List D), ds.length = n → Ref (runI p c L m N.length ds) (fi ds)) :
    tsM K W (fun cls d _ H' => E cls d H') m { nx := fun _ H' => Q .non H', rt := Q } (L2.start N vs) H := by
  obtain ⟨p, dx, F, ds, vr, rfl, hp, Fp, npa, npq, ex, fa, st, hl, hv, wf⟩ := h
  have w2 := M.wp_noex.mp (M.wp_bind.mp (hr p ds hl _ _ wf))
  have h0 : RepE K W F H (.sf c p [] :: (ds.map LV.fz ++ List.replicate (N.length - (ds.length + 1)) LV.un)) (L2.start N (.ref p :: vr)) [p] := by
    have := start_rep (K := K) (W := W) (F := F) (H := H) (N.length - (ds.length + 1)) hv
    refine ⟨some (.ref p), vr.map some ++ List.replicate (N.length - (ds.length + 1)) none, [p], [], ?_, ⟨dx, [], rfl, hp, by rw [List.length_nil, List.take_zero]; rfl, rfl, rfl⟩, this, rfl⟩
    unfold L2.start
    rw [List.map_cons, List.length_cons, Reps.length hv]
    rfl
  refine ⟨F, _, [p], ⟨ex, fa, st, fun q hq => ?_, List.nodup_cons.mpr ⟨List.not_mem_nil, List.nodup_nil⟩, h0⟩, ?_⟩
  · rw [List.mem_singleton.mp hq]
    exact ⟨Fp, npa, npq⟩
  · refine M.wp_mono w2 (fun fl k => ?_) (fun cc d h => h)
    cases fl with
    | brk ρ => exact k.elim
    | cont ρ => exact k.elim
    | ret l => exact k.elim
    | exn ρ c d => exact fun F' H' σ' fp' dx v s ok sub n e r => k F' H' dx v s n e r
    | next ρ =>
      cases ρ with
      | nil => exact k.elim
      | cons l r =>
        cases l with
        | sf c' p' fs =>
          obtain ⟨⟨⟨rfl, rfl⟩, hfl⟩, k⟩ := k
          intro F' H' σ' fp' s ok sub
          obtain ⟨x, r', f, g, e1, rs, _, e2⟩ := ok.rep
          cases x with
          | none => exact rs.elim
          | some v =>
            obtain ⟨dx', gs, rfl, h1, h2, h3, h4⟩ := rs
            refine k F' H' dx' gs s ?_ h1 ?_ h3
            · refine (ok.own p' ?_).1
              rw [e2, h4]
              exact List.mem_append_left _ List.mem_cons_self
            · rw [h2, hfl, ← hL, List.take_length]
        | _ => exact k.elim
/-- THE RULE for an __init__ -/
theorem init_den {x qual : Str} {st : Stmt} {f : Addr} {fd : FuncData} {N ps : List Str} {k n c L : Nat} {m : Sm} {fi : Fi} (T : Fun K x qual st f fd) (S : FnScope N ps (defScope st)) (hn : ps.length = n + 1) (hL : (W.nm c).length = L)
    (hb : ∀ (cdv : Value) (A : Around) (outer : List Env) (s : Shared) (H : Hp) (E : XK), Room k (A.deeper (envOfC qual (defScope st) s.heap.objs.size f cdv)) → DSs (cxOf (L2.CX P w) P w K mg base N qual (defScope st) f cdv A outer s H E) W (fun cls d _ H' => E cls d H') (defBody st) m)
    (hr : ∀ (p : Addr) (ds : List D), ds.length = n → Ref (runI p c L m N.length ds) (fi ds)) : FnOk P w K mg base (L2.CX P w) (k + 1) f fd ps (spI K W c n fi) := by
  refine T.okX S (fun vs H Q E h => ?_) (fun cdv A outer s H vs Q E room h => ⟨_, hb cdv A outer s H E room, init_core hL h hr⟩)
  obtain ⟨p, dx, F, ds, vr, rfl, _, _, _, _, _, _, _, hl, hr, _⟩ := h
  rw [List.length_cons, Reps.length hr, hl, hn]
theorem init_denD {x qual : Str} {pr : Arguments} {bd : List Stmt} {sc : Scope} {dvs : List V} {kws : List (Str × V)} {f : Addr} {fd : FuncData} {N ps : List Str} {k n c L : Nat} {m : Sm} {fi : Fi} (T : FunD K x qual pr bd sc dvs kws f fd) (S : FnScope N ps sc) (hn : ps.length = n + 1) (hL : (W.nm c).length = L)
    (hb : ∀ (cdv : Value) (A : Around) (outer : List Env) (s : Shared) (H : Hp) (E : XK), Room k (A.deeper (envOfC qual sc s.heap.objs.size f cdv)) → DSs (cxOf (L2.CX P w) P w K mg base N qual sc f cdv A outer s H E) W (fun cls d _ H' => E cls d H') bd m)
    (hr : ∀ (p : Addr) (ds : List D), ds.length = n → Ref (runI p c L m N.length ds) (fi ds)) : FnOk P w K mg base (L2.CX P w) (k + 1) f fd ps (spI K W c n fi) := by
  refine T.ok S (fun vs H Q E h => ?_) (fun cdv A outer s H vs Q E room h => ⟨_, hb cdv A outer s H E room, init_core hL h hr⟩)
  obtain ⟨p, dx, F, ds, vr, rfl, _, _, _, _, _, _, _, hl, hr, _⟩ := h
  rw [List.length_cons, Reps.length hr, hl, hn]
end
/-! ## what changes what is one's own -/
section
variable {K : PySem.W.Frag} {W : Wd} {F F' H H' : Hp} {ρ : List LV} {σ : L2.St} {fp : List Addr}
theorem Ok.mut {i : Nat} {l : LV} (ok : Ok K W F H ρ σ fp) (hi : ρ[i]? = some l) (hl : l ≠ .un) : ∃ v f, σ[i]? = some (some v) ∧ RepO K W F H l v f ∧ (∀ q ∈ f, q ∈ fp) ∧
    ∀ (p : Addr) (o : HO) (l' : LV), p ∈ f → l' ≠ .un → RepO K W F (upd H p o) l' v f → Step W fp F H F (upd H p o) ∧ Ok K W F (upd H p o) (ρ.set i l') σ fp := by
  obtain ⟨y, f0, g, h, h1, h2, h3, h4⟩ := RepE.at ok.rep hi
  have hv : ∃ v, y = some v ∧ RepO K W F H l v f0 := by
    cases l with
    | un => exact absurd rfl hl
    | _ =>
      cases y with
      | none => exact h2.elim
      | some v => exact ⟨v, rfl, h2⟩
  obtain ⟨v, rfl, hr⟩ := hv
  have sf : ∀ q ∈ f0, q ∈ fp := fun q hq => by
    rw [h3]
    simp only [List.mem_append]
    exact Or.inl (Or.inr hq)
  refine ⟨v, f0, h1, hr, sf, fun p o l' hp hl' hr' => ?_⟩
  obtain ⟨o0, e0⟩ := ok.there p (sf p hp)
  obtain ⟨n1, n2, n3⟩ := ok.own p (sf p hp)
  have hs : Step W fp F H F (upd H p o) := by
    refine ⟨Ex.refl _, fun _ h => Or.inl h, fun b u e nb na => ?_, fun b u e => ?_, fun b u e => ?_, ok.fa, ok.st.put n2 n3⟩
    · rw [upd_ne (fun z => nb (by rw [z]; exact sf p hp))]
      exact e
    · by_cases hb : b = p
      · rw [hb]
        exact ⟨_, upd_same⟩
      · rw [upd_ne hb]
        exact ⟨_, e⟩
    · rw [upd_ne (fun z => by rw [z, n1] at e; cases e)]
      exact ok.sub _ _ e
  refine ⟨hs, hs.sub, ok.fa, hs.st, ok.own, ok.nod, ?_⟩
  have nod := ok.nod
  rw [h3, List.nodup_append, List.nodup_append] at nod
  have hset : σ.set i (some v) = σ := by
    apply List.ext_getElem?
    intro j
    by_cases hj : i = j
    · subst hj
      have := (List.getElem?_eq_some_iff.mp h1).1
      rw [List.getElem?_set_self this, h1]
    · rw [List.getElem?_set_ne hj]
  have hR : RepS K W F (upd H p o) l' (some v) f0 := by
    cases l' with
    | un => exact absurd rfl hl'
    | _ => exact hr'
  have := h4 F (upd H p o) l' (some v) f0 (Ex.refl _) (fun q hq u e => by
    have n : q ≠ p := fun z => by
      subst z
      rcases List.mem_append.mp hq with hq | hq
      · exact nod.1.2.2 q hq q hp rfl
      · exact nod.2.2 q (List.mem_append_right _ hp) q hq rfl
    rw [upd_ne n]
    exact e) hR
  rw [hset, ← h3] at this
  exact this
end
/-- self.f = e in an __init__ -/
def sFldM (i c j : Nat) (ma : Em) : Sm := fun ρ => (ma ρ).tr ρ fun x => M.opt (toD x) fun d => match ρ[i]? with
  | some (.sf c' p fs) => .need (c' = c ∧ fs.length = j) (.ret (.next (ρ.set i (.sf c' p (fs ++ [d])))))
  | _ => .bad
/-- raise C(e) -/
def ShowD : D → Prop
  | .int i => i.natAbs < 2 ^ 1900
  | .str s => (∀ c ∈ s.cps.toList, c < 16 ^ 8) ∧ s.length ≤ 1000000
  | _ => False
def sRaise (c : Nat) (ma : Em) : Sm := fun ρ => (ma ρ).tr ρ fun x => M.opt (toD x) fun d => .need (ShowD d) (.ret (.exn ρ c d))
/-- xs.append(e) -/
def sApp (i : Nat) (ma : Em) : Sm := fun ρ => match ρ[i]? with
  | some (.os ds) => (ma ρ).tr ρ fun x => M.opt (toD x) fun d => .need (ds.length < 100000) (.ret (.next (ρ.set i (.os (ds ++ [d])))))
  | _ => .bad
/-- xs.extend(ys), ys a new list -/
def sExt (i : Nat) (ma : Em) : Sm := fun ρ => match ρ[i]? with
  | some (.os ds) => (ma ρ).tr ρ fun x => M.opt (listF x) fun es => .need (ds.length + es.length ≤ 100000) (.ret (.next (ρ.set i (.os (ds ++ es)))))
  | _ => .bad
/-- xs[e] = v -/
def sItem (i : Nat) (mi mv : Em) : Sm := fun ρ => (mv ρ).tr ρ fun x => M.opt (toD x) fun d => match ρ[i]? with
  | some (.os ds) => (mi ρ).tr ρ fun y => match y with
    | .fz (.int k) => M.opt (ixN ds.length k) fun j => .ret (.next (ρ.set i (.os (ds.set j d))))
    | _ => .bad
  | _ => .bad
/-- xs.pop() as a statement; x = xs.pop() -/
def popM (i : Nat) (k : D → List LV → M Fl) : Sm := fun ρ => match ρ[i]? with
  | some (.os ds) => M.opt ds[ds.length - 1]? fun d => k d (ρ.set i (.os ds.dropLast))
  | _ => .bad
def sPop (i : Nat) : Sm := popM i fun _ ρ => .ret (.next ρ)
def sPopTo (j i : Nat) : Sm := popM i fun d ρ => setS j (.fz d) ρ
/-- xs[a:b] = ys -/
def sSlice (i : Nat) (ml mh : List LV → M (Option Int)) (mv : Em) : Sm := fun ρ => (mv ρ).tr ρ fun x => match x with
  | .os es => match ρ[i]? with
    | some (.os ds) => (ml ρ).tr ρ fun lo => (mh ρ).tr ρ fun hi => match lo, hi with
      | some a, some b => .need ((0 ≤ a ∧ a ≤ b ∧ b ≤ (ds.length : Int)) ∧ ds.length + es.length ≤ 100000) (.ret (.next (ρ.set i (.os (ds.take a.toNat ++ es ++ ds.drop b.toNat)))))
      | _, _ => .bad
    | _ => .bad
  | _ => .bad
section
variable {X : Cx} {W : Wd} {Wx : WX} {e o xi lo hi : Expr} {ma mi mv : Em} {pos p2 apos cpos : Pos} {i j c : Nat}
theorem putF_new {f : Str} {v : V} : ∀ {gs : List (Str × V)}, f ∉ gs.map (·.1) → putF f v gs = gs ++ [(f, v)]
  | [], _ => rfl
  | (a, b) :: r, h => by
    rw [List.map_cons, List.mem_cons, not_or] at h
    have hn : ¬ a = f := fun z => h.1 z.symm
    unfold putF
    rw [if_neg hn, putF_new h.2]
    rfl
theorem reps_one {K : PySem.W.Frag} {F : Hp} {d : D} {v : V} (h : Rep K W F d v) : Reps K W F [d] [v] := ⟨v, [], rfl, h, rfl⟩
theorem ds_fld {fl : Str} (hself : PE X o (tVar i)) (cl : Cls X.K (W.cl c)) (na : NoAttr X.K (W.cl c) fl) (nd : (W.nm c).Nodup) (hj : (W.nm c)[j]? = some fl) (hlen : (W.nm c).length ≤ 900) (hv : DE X W Wx e ma) (hs : swapsWith e (some (.Attribute o fl p2)) pos.line X.env = pure false := by rfl) :
    DS X W Wx (.Assign [.Attribute o fl p2] e pos) (sFldM i c j ma) := PS_imp (ps_fld hself hv hs) fun En σ H ⟨F, ρ, fp, ok, w⟩ => by
  refine ⟨F, ρ, fp, ok, M.wp_mono (M.wp_tr.mp w) (fun x wx F1 H1 y f1 r1 => ?_) (fun c d h => exP.toE ok h)⟩
  obtain ⟨d, hd, wx⟩ := M.wp_opt.mp wx
  obtain ⟨F2, s2, ry⟩ := r1.frz hd
  have ok2 := ok.step s2
  cases q : ρ[i]? with
  | none => rw [q] at wx; exact wx.elim
  | some l =>
    rw [q] at wx
    cases l with
    | sf c' p fs =>
      obtain ⟨⟨rfl, hl⟩, wy⟩ := wx
      obtain ⟨v, f, hσ, hr, hf, hm⟩ := ok2.mut q (fun z => by cases z)
      obtain ⟨dx, gs, rfl, h1, h2, h3, rfl⟩ := hr
      have hjl : j < (W.nm c').length := (List.getElem?_eq_some_iff.mp hj).1
      have hgl : gs.length = fs.length := by
        have := Reps.length h3
        rw [List.length_map] at this
        exact this
      have nin : fl ∉ gs.map (·.1) := fun z => by
        rw [h2, hl] at z
        obtain ⟨m, hm⟩ := List.getElem?_of_mem z
        have hmj : m < j := by
          have := (List.getElem?_eq_some_iff.mp hm).1
          rw [List.length_take] at this
          omega
        rw [List.getElem?_take_of_lt hmj] at hm
        have := nodup_ix nd hm hj
        omega
      have hput : putF fl y gs = gs ++ [(fl, y)] := putF_new nin
      obtain ⟨s3, ok3⟩ := hm p (.ins (W.cl c') dx (putF fl y gs)) (.sf c' p (fs ++ [d])) List.mem_cons_self (fun z => by cases z) ⟨dx, putF fl y gs, rfl, upd_same, by
        rw [hput, List.map_append, h2, List.length_append, List.length_cons, List.length_nil, hl, List.take_succ, hj]
        rfl, by
        rw [hput, List.map_append]
        exact Reps.append h3 (reps_one ry), rfl⟩
      refine ⟨.ref p, hσ, p, W.cl c', dx, gs, rfl, h1, cl, na, by omega, ?_⟩
      exact wy F2 _ σ fp (s2.any.trans s3 (fun q hq => Or.inl hq)) ok3 sub_refl
    | _ => exact wx.elim
theorem showD {P : Program} {w : World} {K : PySem.W.Frag} {F H : Hp} {d : D} {v : V} (h : ShowD d) (r : Rep K W F d v) : ShowV P w H v := by
  cases d with
  | int i => rw [show v = .int i from r]; exact showV_big h
  | str s => rw [show v = .str s from r]; exact showV_str h.1 h.2
  | _ => exact h.elim
theorem ds_raise {x : Str} {a : Expr} {p pp pos2 : Pos} {k : Nat} {Dd fI : Addr} (hc : X.calm = true) (T : PySem.GrX.BaseT X.prog X.K Dd fI) (O : PySem.GrX.OwnT X.K Dd fI (W.cl c)) (hr : Room k X.A) (gC : X.mg x = some (.ref (W.cl c))) (tk : Takes X Wx) (ha : DE X W Wx a ma) (hg : Gl X x := by rfl)
    (hdb : (x == ("__debug__" : Str)) = false := by decide) (he : starEach (a :: []) X.env = (false, eval a X.env) :: starEach [] X.env := by rfl) (hpl : (backTo pp (starEach [] X.env)).any (·.1) = false := by rfl) :
    DS X W Wx (.Raise (some (.Call (.Name x p) [a] [] pp)) none pos2) (sRaise c ma) := PS_imp (ps_raiseGr hc T O hr gC tk (da_cons ha da_nil he) hg hdb he hpl) fun En σ H ⟨F, ρ, fp, ok, w⟩ => by
  refine taM_one (E := fun _ _ => True) ok (M.wp_mono (M.wp_tr.mp w) (fun x h => h) (fun c d h => exP.toE ok h)) (fun x F1 H1 v f kx r => ?_)
  obtain ⟨d, hd, hsh, kx⟩ := M.wp_opt.mp kx
  obtain ⟨F2, s2, rv⟩ := r.frz hd
  refine ⟨v, rfl, showD hsh rv, fun dx ndx => ?_⟩
  have s3 := s2.trans0 (Step.new (o := .xd [(("value" : Str), v)]) s2.sub s2.fa s2.st ndx)
  exact kx F2 _ σ fp dx v s3.any (ok.step s3) sub_refl (s2.free ndx) upd_same rv
end
end Dn
end

section
set_option Elab.async false
set_option linter.all false
set_option maxRecDepth 100000
set_option maxHeartbeats 1000000
namespace Dn
open PySem PySem.Spec PyProof.Rows L2 Evl GrO
section
variable {X : Cx} {W : Wd} {Wx : WX} {e o xi : Expr} {ma mi mv : Em} {pos p2 apos cpos : Pos} {i j c : Nat}
theorem os_rep {K : PySem.W.Frag} {F H : Hp} {ds : List D} {v : V} {f : List Addr} (h : RepO K W F H (.os ds) v f) : ∃ p vs, v = .ref p ∧ H p = some (.lst vs) ∧ Reps K W F ds vs ∧ f = [p] := h
/-- xs.append(e) -/
theorem ds_app (ho : PE X o (tVar i)) (ha : DE X W Wx e ma) (hbase : attributeBase o "append" X.env (eval o X.env) = eval o X.env := by rfl)
    (hfew : ((backTo cpos (starEach (e :: []) X.env)).all (fun x => !x.1) && (backToKw cpos (keywordEach [] X.env)).all (fun x => x.1.isSome)
      && decide ((e :: []).length + ([] : List Keyword).length + (if ([] : List Keyword).isEmpty then 0 else 1) < 30)) = true := by rfl)
    (hline : (apos.endLine == cpos.line) = true := by rfl) (hs : starEach (e :: []) X.env = (false, eval e X.env) :: starEach [] X.env := by rfl) (hplain : (backTo cpos (starEach [] X.env)).any (·.1) = false := by rfl)
    (hsw : swapsWith (.Call (.Attribute o "append" apos) [e] [] cpos) none pos.line X.env = pure false := by rfl) :
    DS X W Wx (.Expr (.Call (.Attribute o "append" apos) [e] [] cpos) pos) (sApp i ma) := PS_imp (ps_expr (pe_bm PySem.F.plainAttrs_list PySem.F.slot_list_append PySem.F.type_list_append mt_append ho (da_cons ha da_nil hs) hbase hfew hline hs hplain) hsw) fun En σ H ⟨F, ρ, fp, ok, w⟩ => by
  unfold sApp at w
  cases q : ρ[i]? with
  | none => rw [q] at w; exact w.elim
  | some l =>
    rw [q] at w
    cases l with
    | os ds =>
      obtain ⟨v, f, hσ, hr, hf, hm⟩ := ok.mut q (fun z => by cases z)
      obtain ⟨p, vs, rfl, h1, h2, rfl⟩ := os_rep hr
      refine ⟨.ref p, hσ, Or.inl ⟨rfl, vs, SqL.of h1⟩, ?_⟩
      refine taM_one (E := fun _ _ => True) ok (M.wp_mono (M.wp_tr.mp w) (fun x h => h) (fun c d h => exP.toE ok h)) (fun x F1 H1 y f kx r => ?_)
      obtain ⟨d, hd, hz, kx⟩ := M.wp_opt.mp kx
      obtain ⟨F2, s2, ry⟩ := r.frz hd
      have ok2 := ok.step s2
      obtain ⟨v', f', hσ', hr', hf', hm'⟩ := ok2.mut q (fun z => by cases z)
      rw [hσ] at hσ'
      cases hσ'
      obtain ⟨p', vs', e', h1', h2', rfl⟩ := os_rep hr'
      cases e'
      obtain ⟨s3, ok3⟩ := hm' p (.lst (vs' ++ [y])) (.os (ds ++ [d])) List.mem_cons_self (fun z => by cases z) ⟨p, _, rfl, upd_same, Reps.append h2' (reps_one ry), rfl⟩
      refine ⟨p, vs', y, rfl, rfl, h1', Nat.lt_of_lt_of_le (by rw [Reps.length h2']; exact hz) (by rw [sizeLine_eq]; decide), ?_⟩
      exact kx F2 _ σ fp (s2.any.trans s3 sub_refl) ok3 sub_refl
    | _ => exact w.elim
/-- xs.extend(e), e a new list -/
theorem ds_ext (ho : PE X o (tVar i)) (ha : DE X W Wx e ma) (hbase : attributeBase o "extend" X.env (eval o X.env) = eval o X.env := by rfl)
    (hfew : ((backTo cpos (starEach (e :: []) X.env)).all (fun x => !x.1) && (backToKw cpos (keywordEach [] X.env)).all (fun x => x.1.isSome)
      && decide ((e :: []).length + ([] : List Keyword).length + (if ([] : List Keyword).isEmpty then 0 else 1) < 30)) = true := by rfl)
    (hline : (apos.endLine == cpos.line) = true := by rfl) (hs : starEach (e :: []) X.env = (false, eval e X.env) :: starEach [] X.env := by rfl) (hplain : (backTo cpos (starEach [] X.env)).any (·.1) = false := by rfl)
    (hsw : swapsWith (.Call (.Attribute o "extend" apos) [e] [] cpos) none pos.line X.env = pure false := by rfl) :
    DS X W Wx (.Expr (.Call (.Attribute o "extend" apos) [e] [] cpos) pos) (sExt i ma) := PS_imp (ps_expr (pe_bm PySem.F.plainAttrs_list PySem.F.slot_list_extend PySem.F.type_list_extend mt_extend ho (da_cons ha da_nil hs) hbase hfew hline hs hplain) hsw) fun En σ H ⟨F, ρ, fp, ok, w⟩ => by
  unfold sExt at w
  cases q : ρ[i]? with
  | none => rw [q] at w; exact w.elim
  | some l =>
    rw [q] at w
    cases l with
    | os ds =>
      obtain ⟨v, f, hσ, hr, hf, hm⟩ := ok.mut q (fun z => by cases z)
      obtain ⟨p, vs, rfl, h1, h2, rfl⟩ := os_rep hr
      refine ⟨.ref p, hσ, Or.inl ⟨rfl, vs, SqL.of h1⟩, ?_⟩
      refine taM_one (E := fun _ _ => True) ok (M.wp_mono (M.wp_tr.mp w) (fun x h => h) (fun c d h => exP.toE ok h)) (fun x F1 H1 y f kx r => ?_)
      obtain ⟨es, hd, hz, kx⟩ := M.wp_opt.mp kx
      obtain ⟨F2, b, ws, s2, rfl, k1, k2⟩ := listF_frz r hd
      have ok2 := ok.step s2
      obtain ⟨v', f', hσ', hr', hf', hm'⟩ := ok2.mut q (fun z => by cases z)
      rw [hσ] at hσ'
      cases hσ'
      obtain ⟨p', vs', e', h1', h2', rfl⟩ := os_rep hr'
      cases e'
      obtain ⟨s3, ok3⟩ := hm' p (.lst (vs' ++ ws)) (.os (ds ++ es)) List.mem_cons_self (fun z => by cases z) ⟨p, _, rfl, upd_same, Reps.append h2' k2, rfl⟩
      refine ⟨p, b, vs', ws, rfl, rfl, h1', s2.sub _ _ k1, sz_of (by rw [Reps.length h2', Reps.length k2]; exact hz), ?_⟩
      exact kx F2 _ σ fp (s2.any.trans s3 sub_refl) ok3 sub_refl
    | _ => exact w.elim
theorem Reps.set {K : PySem.W.Frag} {F : Hp} : ∀ {ds : List D} {vs : List V} {d : D} {v : V} (j : Nat), Reps K W F ds vs → Rep K W F d v → Reps K W F (ds.set j d) (vs.set j v)
  | [], vs, _, _, _, h, _ => by rw [show vs = [] from h]; rfl
  | a :: ds, vs, d, v, 0, ⟨x, r, e, h1, h2⟩, h => by rw [e]; exact ⟨v, r, rfl, h, h2⟩
  | a :: ds, vs, d, v, j + 1, ⟨x, r, e, h1, h2⟩, h => by rw [e]; exact ⟨x, r.set j v, rfl, h1, Reps.set j h2 h⟩
/-- xs[e] = v -/
theorem ds_item {st : Stmt} (h : PS X st (tAsg (teM X.K W Wx mv) (gSub (tVar i) (teM X.K W Wx mi) rSetL))) : DS X W Wx st (sItem i mi mv) := PS_imp h fun En σ H ⟨F, ρ, fp, ok, w⟩ => by
  refine ⟨F, ρ, fp, ok, M.wp_mono (M.wp_tr.mp w) (fun x wx F1 H1 y f1 r1 => ?_) (fun c d h => exP.toE ok h)⟩
  obtain ⟨d, hd, wx⟩ := M.wp_opt.mp wx
  obtain ⟨F2, s2, ry⟩ := r1.frz hd
  have ok2 := ok.step s2
  cases q : ρ[i]? with
  | none => rw [q] at wx; exact wx.elim
  | some l =>
    rw [q] at wx
    cases l with
    | os ds =>
      obtain ⟨v, f, hσ, hr, hf, hm⟩ := ok2.mut q (fun z => by cases z)
      obtain ⟨p, vs, rfl, h1, h2, rfl⟩ := os_rep hr
      refine ⟨.ref p, hσ, F2, ρ, fp, ok2, M.wp_mono (M.wp_tr.mp wx) (fun z wz F3 H3 u f3 r3 => ?_) (fun c d h => exP.toE ok2 (exP.step h s2.any sub_refl))⟩
      have ok3 := ok2.step r3.step
      obtain ⟨v', f', hσ', hr', hf', hm'⟩ := ok3.mut q (fun z => by cases z)
      rw [hσ] at hσ'
      cases hσ'
      obtain ⟨p', vs', e', h1', h2', rfl⟩ := os_rep hr'
      cases e'
      cases z with
      | fz dz =>
        cases dz with
        | int k =>
          obtain ⟨jj, hj, wz⟩ := M.wp_opt.mp wz
          obtain ⟨s3, ok4⟩ := hm' p (.lst (vs'.set jj y)) (.os (ds.set jj d)) List.mem_cons_self (fun z => by cases z) ⟨p, _, rfl, upd_same, Reps.set jj h2' (Rep.ex r3.step.ff ry), rfl⟩
          refine ⟨p, vs', k, jj, rfl, r3.rep.1, h1', by rw [Reps.length h2']; exact hj, ?_⟩
          exact wz F3 _ σ fp ((s2.trans0 r3.step).any.trans s3 sub_refl) ok4 sub_refl
        | _ => exact wz.elim
      | _ => exact wz.elim
    | _ => exact wx.elim
theorem Reps.dropLast {K : PySem.W.Frag} {F : Hp} {ds : List D} {vs : List V} (h : Reps K W F ds vs) : Reps K W F ds.dropLast vs.dropLast := by
  rw [List.dropLast_eq_take, List.dropLast_eq_take, Reps.length h]
  exact Reps.take _ h
/-- xs.pop() -/
theorem te_pop {K : PySem.W.Frag} {σ : L2.St} {H : Hp} {En : Ends} {k : D → List LV → M Fl} {Q : VK} (h : tsM K W Wx (popM i k) En σ H)
    (hk : ∀ {F F2 H2 : Hp} {ρ2 : List LV} {fp : List Addr} {d : D} {v : V}, Step W fp F H F2 H2 → Ok K W F2 H2 ρ2 σ fp → Rep K W F2 d v → (k d ρ2).wp (flP K W Wx F H fp En) no2 → Q v H2) : tBM0 K "list" rPop (tVar i) σ H Q := by
  obtain ⟨F, ρ, fp, ok, w⟩ := h
  unfold popM at w
  cases q : ρ[i]? with
  | none => rw [q] at w; exact w.elim
  | some l =>
    rw [q] at w
    cases l with
    | os ds =>
      obtain ⟨v, f, hσ, hr, hf, hm⟩ := ok.mut q (fun z => by cases z)
      obtain ⟨p, vs, rfl, h1, h2, rfl⟩ := os_rep hr
      obtain ⟨d, hd, w⟩ := M.wp_opt.mp w
      obtain ⟨y, h3, h4⟩ := Reps.get h2 hd
      obtain ⟨s3, ok3⟩ := hm p (.lst vs.dropLast) (.os ds.dropLast) List.mem_cons_self (fun z => by cases z) ⟨p, _, rfl, upd_same, Reps.dropLast h2, rfl⟩
      exact ⟨.ref p, hσ, Or.inl ⟨rfl, vs, SqL.of h1⟩, p, vs, y, rfl, rfl, h1, by rw [Reps.length h2]; exact h3, hk s3 ok3 h4 w⟩
    | _ => exact w.elim
theorem ds_pop (ho : PE X o (tVar i)) (hbase : attributeBase o "pop" X.env (eval o X.env) = eval o X.env := by rfl) (hline : (apos.endLine == cpos.line) = true := by rfl)
    (hsw : swapsWith (.Call (.Attribute o "pop" apos) [] [] cpos) none pos.line X.env = pure false := by rfl) : DS X W Wx (.Expr (.Call (.Attribute o "pop" apos) [] [] cpos) pos) (sPop i) :=
  PS_imp (ps_expr (pe_bm0 PySem.F.plainAttrs_list PySem.F.slot_list_pop PySem.F.type_list_pop mt_pop ho hbase hline) hsw) fun En σ H h =>
    te_pop h fun s ok _ w => w _ _ σ _ s ok sub_refl
theorem ds_popTo (ho : PE X o (tVar i)) (h : PS X (.Assign [xi] (.Call (.Attribute o "pop" apos) [] [] cpos) pos) (tAsg (tBM0 X.K "list" rPop (tVar i)) (gName j))) : DS X W Wx (.Assign [xi] (.Call (.Attribute o "pop" apos) [] [] cpos) pos) (sPopTo j i) :=
  PS_imp h fun En σ H h => te_pop h fun {F F2 H2 ρ2 fp d v} s ok r w => by
    show En.nx (σ.set j (some v)) H2
    unfold setS at w
    cases q : ρ2[j]? with
    | none => rw [q] at w; exact w.elim
    | some l =>
      rw [q] at w
      obtain ⟨fp', ok', sub⟩ := ok.setD q r
      exact w F2 H2 _ fp' s ok' (fun q hq => (sub q hq).elim Or.inl (fun z => Or.inr (s.free z)))
theorem pe_popV (ho : PE X o (tVar i)) (hbase : attributeBase o "pop" X.env (eval o X.env) = eval o X.env := by rfl) (hline : (apos.endLine == cpos.line) = true := by rfl) : PE X (.Call (.Attribute o "pop" apos) [] [] cpos) (tBM0 X.K "list" rPop (tVar i)) :=
  pe_bm0 PySem.F.plainAttrs_list PySem.F.slot_list_pop PySem.F.type_list_pop mt_pop ho hbase hline
/-- xs[a:b] = e, a new list -/
theorem ds_slice {st : Stmt} {ml mh : List LV → M (Option Int)} (h : PS X st (tAsg (teM X.K W Wx mv) (gSl (tVar i) (toM X.K W Wx ml) (toM X.K W Wx mh)))) : DS X W Wx st (sSlice i ml mh mv) := PS_imp h fun En σ H ⟨F, ρ, fp, ok, w⟩ => by
  refine ⟨F, ρ, fp, ok, M.wp_mono (M.wp_tr.mp w) (fun x wx F1 H1 y f1 r1 => ?_) (fun c d h => exP.toE ok h)⟩
  cases x with
  | os es =>
    have ok1 := ok.step r1.step
    cases q : ρ[i]? with
    | none => simp only [q] at wx; exact wx.elim
    | some l =>
      simp only [q] at wx
      cases l with
      | os ds =>
        obtain ⟨v, f, hσ, hr, hf, hm⟩ := ok1.mut q (fun z => by cases z)
        obtain ⟨p, vs, rfl, h1, h2, rfl⟩ := os_rep hr
        refine ⟨.ref p, hσ, F1, ρ, fp, ok1, M.wp_mono (M.wp_tr.mp wx) (fun lo wl F2 H2 s2 => ?_) (fun c d h => exP.toE ok1 (exP.step h r1.step.any sub_refl))⟩
        have s12 := r1.step.trans0 s2
        refine ⟨F2, ρ, fp, ok.step s12, M.wp_mono (M.wp_tr.mp wl) (fun hi wh F3 H3 s3 => ?_) (fun c d h => exP.toE (ok.step s12) (exP.step h s12.any sub_refl))⟩
        have s13 := s12.trans0 s3
        have ok3 := ok.step s13
        obtain ⟨v', f', hσ', hr', hf', hm'⟩ := ok3.mut q (fun z => by cases z)
        rw [hσ] at hσ'
        cases hσ'
        obtain ⟨p', vs', e', h1', h2', rfl⟩ := os_rep hr'
        cases e'
        obtain ⟨k1, k2⟩ := own_step r1 (s2.trans0 s3)
        obtain ⟨b, ws, rfl, g1, g2, rfl⟩ := os_rep k1
        have nb : H b = none := (r1.new rfl).2 b List.mem_cons_self
        have np : p ≠ b := fun z => by
          obtain ⟨o, e⟩ := ok.there p (hf p List.mem_cons_self)
          rw [z, nb] at e
          cases e
        cases lo with
        | none => exact wh.elim
        | some a =>
          cases hi with
          | none => exact wh.elim
          | some c =>
            obtain ⟨⟨⟨w1, w2, w3⟩, w4⟩, wh⟩ := wh
            obtain ⟨s4, ok4⟩ := hm' p (.lst (vs'.take a.toNat ++ ws ++ vs'.drop c.toNat)) (.os (ds.take a.toNat ++ es ++ ds.drop c.toNat)) List.mem_cons_self (fun z => by cases z) ⟨p, _, rfl, upd_same, Reps.append (Reps.append (Reps.take _ h2') g2) (Reps.drop _ h2'), rfl⟩
            refine ⟨p, b, vs', ws, a, c, rfl, rfl, rfl, rfl, h1', g1, np, w1, w2, by rw [Reps.length h2']; exact w3, sz_of (by rw [Reps.length h2', Reps.length g2]; exact w4), ?_⟩
            exact wh F3 _ σ fp (s13.any.trans s4 sub_refl) ok4 sub_refl
      | _ => exact wx.elim
  | _ => exact wx.elim
end
end Dn
end

section
set_option Elab.async false
set_option linter.all false
set_option maxRecDepth 100000
set_option maxHeartbeats 1000000
namespace Dn
open PySem PySem.Spec PyProof.Rows L2 Evl GrO
/-! ## a, b = e; methods of texts; f-strings; isinstance -/
def sUnp (g : Tg) (ma : Em) : Sm := fun ρ => (ma ρ).tr ρ fun x => M.opt (toD x) fun d => (g d ρ).bind fun ρ' => .ret (.next ρ')
def mM1 (f : Str → LV → M LV) (mo me : Em) : Em := fun ρ => (mo ρ).bind fun x => match x with
  | .fz (.str a) => (me ρ).bind fun y => f a y
  | _ => .bad
def mM0 (f : Str → M LV) (mo : Em) : Em := fun ρ => (mo ρ).bind fun x => match x with
  | .fz (.str a) => f a
  | _ => .bad
def fSplit (a : Str) : LV → M LV
  | .fz (.str b) => .need ((b.length == 0) = false ∧ a.length ≤ 99000) (.ret (.os ((Txt.split a b).map .str)))
  | _ => .bad
def fPart (a : Str) : LV → M LV
  | .fz (.str b) => .need ((b.length == 0) = false ∧ a.length ≤ 99000) (.ret (.fz (.tup [.str (Txt.partition a b).1, .str (Txt.partition a b).2.1, .str (Txt.partition a b).2.2])))
  | _ => .bad
def fFind (a : Str) : LV → M LV
  | .fz (.str b) => .ret (.fz (.int (Txt.find a b)))
  | _ => .bad
def fStarts (a : Str) : LV → M LV
  | .fz (.str b) => .ret (.fz (.bl (Txt.startswith a b)))
  | _ => .bad
def fJoin (a : Str) : LV → M LV := fun y => M.opt (seqD y) fun ds => M.opt (strsD ds) fun ys => .need ((ys.map (·.length)).sum + ys.length * a.length ≤ 16777216) (.ret (.fz (.str (Txt.join a ys))))
/-- {x} in an f-string -/
def mFmt (ma : Em) : Em := fun ρ => (ma ρ).bind fun x => match x with
  | .fz (.str a) => .need (a.length ≤ 100000) (.ret (.fz (.str a)))
  | .fz (.int i) => .need (i.natAbs.log2 < 1920) (.ret (.fz (.str (toString i))))
  | _ => .bad
def mJs : List Em → Str → Em
  | [], acc, _ => .ret (.fz (.str acc))
  | m :: ms, acc, ρ => (m ρ).bind fun x => match x with
    | .fz (.str y) => .need ((acc ++ y).length ≤ 100000) (mJs ms (acc ++ y) ρ)
    | _ => .bad
def isiD (t : String) : LV → Option Bool
  | .fz .non => some (t == "NoneType")
  | .fz (.bl _) => some (t == "bool" || t == "int")
  | .fz (.int _) => some (t == "int")
  | .fz (.str _) => some (t == "str")
  | .fz (.lst _) => some (t == "list")
  | .fz (.dK _) => some (t == "dict")
  | .os _ => some (t == "list")
  | .bo (.os _) => some (t == "list")
  | .fz (.tup _) => some (t == "tuple")
  | _ => none
def mIsi (t : String) (ma : Em) : Em := fun ρ => (ma ρ).bind fun x => M.opt (isiD t x) fun b => .ret (.fz (.bl b))
section
variable {X : Cx} {W : Wd} {Wx : WX} {e o : Expr} {ma mo me : Em} {pos p apos cpos : Pos} {g : TG} {gm : Tg} {st : Stmt}
theorem ds_unp (tm : TgM X.K W g gm) (h : PS X st (tAsg (teM X.K W Wx ma) g)) : DS X W Wx st (sUnp gm ma) := PS_imp h fun En σ H ⟨F, ρ, fp, ok, w⟩ => by
  refine ⟨F, ρ, fp, ok, M.wp_mono (M.wp_tr.mp w) (fun x wx F1 H1 v f1 r1 => ?_) (fun c d h => exP.toE ok h)⟩
  obtain ⟨d, hd, wx⟩ := M.wp_opt.mp wx
  obtain ⟨F2, s2, rv⟩ := r1.frz hd
  refine tm (ok.step s2) rv (M.wp_mono (M.wp_bind.mp wx) (fun ρ' w' σ' fp' ok' sub => w' F2 H1 σ' fp' s2.any ok' (fun q hq => (sub q hq).elim Or.inl (fun z => Or.inr (s2.free z)))) (fun c d h => h))
def M1M (K : PySem.W.Frag) (W : Wd) (r : V → List V → Hp → VK → Prop) (f : Str → LV → M LV) : Prop := ∀ ⦃F H : Hp⦄ ⦃a : Str⦄ ⦃y : LV⦄ ⦃u : V⦄ ⦃fy : List Addr⦄ ⦃Q : VK⦄ ⦃E : Nat → D → Prop⦄, Ex F H → F W.a = none → StOk W H → RepO K W F H y u fy →
  (f a y).wp (fun lv => ∀ F' H' z f', Res K W F H F' H' lv z f' → Q z H') E → r (.str a) [u] H Q
def rSplitM : V → List V → Hp → VK → Prop := fun x xs H Q => ∃ a b, x = .str a ∧ xs = [.str b] ∧ (b.length == 0) = false ∧ a.length + 2 ≤ sizeLine ∧ rNewStrs (Txt.split a b) H Q
def rPartM : V → List V → Hp → VK → Prop := fun x xs H Q => ∃ a b, x = .str a ∧ xs = [.str b] ∧ (b.length == 0) = false ∧ a.length ≤ sizeLine ∧ ∀ p, H p = none → Q (.ref p) (upd H p (.tup [.str (Txt.partition a b).1, .str (Txt.partition a b).2.1, .str (Txt.partition a b).2.2]))
def rFindM : V → List V → Hp → VK → Prop := fun x xs H Q => ∃ a b, x = .str a ∧ xs = [.str b] ∧ Q (.int (Txt.find a b)) H
def rStartsM : V → List V → Hp → VK → Prop := fun x xs H Q => ∃ a b, x = .str a ∧ xs = [.str b] ∧ Q (.bl (Txt.startswith a b)) H
def rJoinM (K : PySem.W.Frag) : V → List V → Hp → VK → Prop := fun x xs H Q => ∃ a p, ∃ ys : List Str, x = .str a ∧ xs = [.ref p] ∧ (SqL K H p (ys.map V.str) ∨ SqT K H p (ys.map V.str)) ∧ (ys.map (·.length)).sum + ys.length * a.length ≤ 16777216 ∧ Q (.str (Txt.join a ys)) H
theorem mt_splitM : MtR X "str.split" rSplitM := mt_split
theorem mt_partM : MtR X "str.partition" rPartM := mt_partition
theorem mt_findM : MtR X "str.find" rFindM := mt_find
theorem mt_startsM : MtR X "str.startswith" rStartsM := mt_startswith
theorem mt_joinM : MtR X "str.join" (rJoinM X.K) := mt_join
variable {K : PySem.W.Frag}
theorem mm_split : M1M K W rSplitM fSplit := by
  intro F H a y u fy Q E ex fa stt r w
  unfold fSplit at w
  split at w
  · obtain ⟨⟨w1, w2⟩, w⟩ := w
    exact ⟨a, _, rfl, by rw [rep_s r], w1, sz_of (by omega), fun p hp => ret_q w (Res.lst0 ex fa stt hp (reps_strs _))⟩
  · exact w.elim
theorem mm_part : M1M K W rPartM fPart := by
  intro F H a y u fy Q E ex fa stt r w
  unfold fPart at w
  split at w
  · obtain ⟨⟨w1, w2⟩, w⟩ := w
    exact ⟨a, _, rfl, by rw [rep_s r], w1, sz_of (by omega), fun p hp => ret_q w (Res.tup ex fa stt hp ⟨_, _, rfl, rfl, _, _, rfl, rfl, _, _, rfl, rfl, rfl⟩)⟩
  · exact w.elim
theorem mm_find : M1M K W rFindM fFind := by
  intro F H a y u fy Q E ex fa stt r w
  unfold fFind at w
  split at w
  · exact ⟨a, _, rfl, by rw [rep_s r], ret_d (d := .int _) ex fa stt w rfl⟩
  · exact w.elim
theorem mm_starts : M1M K W rStartsM fStarts := by
  intro F H a y u fy Q E ex fa stt r w
  unfold fStarts at w
  split at w
  · exact ⟨a, _, rfl, by rw [rep_s r], ret_d (d := .bl _) ex fa stt w rfl⟩
  · exact w.elim
theorem mm_join : M1M K W (rJoinM K) fJoin := by
  intro F H a y u fy Q E ex fa stt r w
  obtain ⟨ds, hd, w⟩ := M.wp_opt.mp w
  obtain ⟨ys, hy, w1, w⟩ := M.wp_opt.mp w
  obtain ⟨p, vs, rfl, h1, h2⟩ := seqD_rep ex hd r
  rw [strsD_rep hy h2] at h1
  exact ⟨a, p, ys, rfl, rfl, h1, w1, ret_d (d := .str _) ex fa stt w rfl⟩
theorem de_m1 {id : String} {name : Str} {r : V → List V → Hp → VK → Prop} {f : Str → LV → M LV} (slot : Slot "str" name id) (ty : typeOf (.builtin id) = pure (.type "method_descriptor")) (rule : MtR X id r) (mm : M1M X.K W r f) (ho : DE X W Wx o mo) (he : DE X W Wx e me)
    (hs : starEach [e] X.env = [(false, eval e X.env)] := by rfl) (hbase : attributeBase o name X.env (eval o X.env) = eval o X.env := by rfl) (hline : (apos.endLine == pos.line) = true := by rfl) :
    DE X W Wx (.Call (.Attribute o name apos) [e] [] pos) (mM1 f mo me) := PE_imp (pe_m1 slot ty rule ho he hs hbase hline) fun σ H Q ⟨F, ρ, fp, ok, w⟩ => by
  refine ⟨F, ρ, fp, ok, M.wp_mono (M.wp_bind.mp w) (fun x wx F1 H1 v f1 r1 => ?_) (fun c d h => h)⟩
  cases x with
  | fz d =>
    cases d with
    | str a =>
      refine ⟨⟨a, r1.rep.1⟩, F1, ρ, fp, ok.step r1.step, M.wp_mono (M.wp_bind.mp wx) (fun y wy F2 H2 u f2 r2 => ?_) (fun c d h => h.step r1.step)⟩
      rw [show v = .str a from r1.rep.1]
      exact mm r2.step.sub r2.step.fa r2.step.st r2.rep (M.wp_mono wy (fun lv k F' H' z f' rz => k F' H' z f' (rz.pre (r1.step.trans0 r2.step))) (fun c d h => h))
    | _ => exact wx.elim
  | _ => exact wx.elim
/-! f-strings -/
theorem de_fmt (h : DE X W Wx e ma) : DE X W Wx (.FormattedValue e (-1) none pos) (mFmt ma) := PE_imp (pe_fmt h) fun σ H Q ⟨F, ρ, fp, ok, w⟩ => by
  refine ⟨F, ρ, fp, ok, M.wp_mono (M.wp_bind.mp w) (fun x wx F1 H1 v f1 r1 => ?_) (fun c d h => h)⟩
  cases x with
  | fz d =>
    cases d with
    | str a => exact Or.inl ⟨a, r1.rep.1, sz_of wx.1, wx.2 _ _ _ [] ((Res.val (d := .str _) r1.step.sub r1.step.fa r1.step.st rfl).pre r1.step)⟩
    | int i => exact Or.inr ⟨i, r1.rep.1, wx.1, wx.2 _ _ _ [] ((Res.val (d := .str _) r1.step.sub r1.step.fa r1.step.st rfl).pre r1.step)⟩
    | _ => exact wx.elim
  | _ => exact wx.elim
inductive DJ (X : Cx) (W : Wd) (Wx : WX) : List Expr → List Em → Prop
  | nil : DJ X W Wx [] []
  | cons {e : Expr} {m : Em} {es : List Expr} {ms : List Em} (h : DE X W Wx e m) (r : DJ X W Wx es ms) : DJ X W Wx (e :: es) (m :: ms)
theorem DJ.pj {es : List Expr} {ms : List Em} (h : DJ X W Wx es ms) : PJ X es (ms.map (teM X.K W Wx)) := by
  induction h with
  | nil => exact .nil
  | cons h r ih => exact .cons h ih
theorem te_js {σ : L2.St} : ∀ {ms : List Em} {acc : Str} {F F0 H H0 : Hp} {ρ : List LV} {fp : List Addr} {Q : VK}, Ok K W F H ρ σ fp → Step W [] F0 H0 F H → (mJs ms acc ρ).wp (fun lv => ∀ F' H' v f, Res K W F0 H0 F' H' lv v f → Q v H') (excE K W Wx σ F0 H0) →
    tJs (ms.map (teM K W Wx)) acc σ H fun out H1 => Q (.str out) H1
  | [], acc, F, F0, H, H0, ρ, fp, Q, ok, s, w => w _ _ _ [] ((Res.val (d := .str _) s.sub s.fa s.st rfl).pre s)
  | m :: ms, acc, F, F0, H, H0, ρ, fp, Q, ok, s, w => by
    refine ⟨F, ρ, fp, ok, M.wp_mono (M.wp_bind.mp w) (fun x wx F1 H1 v f1 r1 => ?_) (fun c d h => h.step s)⟩
    cases x with
    | fz d =>
      cases d with
      | str y => exact ⟨y, r1.rep.1, sz_of wx.1, te_js (ok.step r1.step) (s.trans0 r1.step) wx.2⟩
      | _ => exact wx.elim
    | _ => exact wx.elim
theorem de_js {e1 e2 : Expr} {es : List Expr} {ms : List Em} (h : DJ X W Wx (e1 :: e2 :: es) ms) : DE X W Wx (.JoinedStr (e1 :: e2 :: es) pos) (mJs ms Str.empty) := PE_imp (pe_joined h.pj) fun σ H Q ⟨F, ρ, fp, ok, w⟩ => te_js ok ok.refl w
theorem de_js1 (h : DE X W Wx e ma) : DE X W Wx (.JoinedStr [e] pos) ma := pe_joined1 h
/-! isinstance(e, a type of Python's) -/
theorem isi_ty {F H : Hp} {t : String} {x : LV} {v : V} {f : List Addr} {b : Bool} (ht : t = "bool" ∨ t = "int" ∨ t = "str" ∨ t = "list" ∨ t = "tuple" ∨ t = "dict") (ex : Ex F H) (r : RepO K W F H x v f) (h : isiD t x = some b) : ∃ ty : String, TyX K H v (.type ty) ∧ kitB ty t = some b := by
  have lst : ∀ {p : Addr} {vs : List V}, v = .ref p → H p = some (.lst vs) → some (t == "list") = some b → ∃ ty : String, TyX K H v (.type ty) ∧ kitB ty t = some b := fun {p vs} e1 e2 h => by
    subst e1
    refine ⟨"list", .base (.lst e2), ?_⟩
    rcases ht with rfl | rfl | rfl | rfl | rfl | rfl <;> (cases h; decide +kernel)
  cases x with
  | fz d =>
    have r := r.1
    cases d with
    | non => rw [show v = .non from r]; exact ⟨"NoneType", .base .non, by rcases ht with rfl | rfl | rfl | rfl | rfl | rfl <;> (cases h; decide +kernel)⟩
    | bl k => rw [show v = .bl k from r]; exact ⟨"bool", .base (.bl _), by rcases ht with rfl | rfl | rfl | rfl | rfl | rfl <;> (cases h; decide +kernel)⟩
    | int k => rw [show v = .int k from r]; exact ⟨"int", .base (.int _), by rcases ht with rfl | rfl | rfl | rfl | rfl | rfl <;> (cases h; decide +kernel)⟩
    | str k => rw [show v = .str k from r]; exact ⟨"str", .base (.str _), by rcases ht with rfl | rfl | rfl | rfl | rfl | rfl <;> (cases h; decide +kernel)⟩
    | lst ds => obtain ⟨p, vs, e, h1, _⟩ := r; exact lst e (ex _ _ h1) h
    | tup ds =>
      obtain ⟨p, vs, rfl, h1, _⟩ := r
      refine ⟨"tuple", ?_, by rcases ht with rfl | rfl | rfl | rfl | rfl | rfl <;> (cases h; decide +kernel)⟩
      rcases ex_t ex h1 with (h2 | ⟨o, h2⟩) | ⟨o, its, n, h2, h3, _⟩
      · exact .base (.tup h2)
      · exact .fTuple h2
      · exact .kTuple h2 h3
    | dK ds =>
      obtain ⟨p, vs, rfl, h1, _⟩ := r
      exact ⟨"dict", .base (.dK (ex _ _ h1)), by rcases ht with rfl | rfl | rfl | rfl | rfl | rfl <;> (cases h; decide +kernel)⟩
    | _ => cases h
  | os ds => obtain ⟨p, vs, e, h1, _⟩ := r; exact lst e h1 h
  | bo l =>
    cases l with
    | os ds => obtain ⟨p, vs, e, h1, _⟩ := r; exact lst e h1 h
    | _ => cases h
  | _ => cases h
theorem de_isi {t : String} {ts : Str} {p1 p2 : Pos} (ht : t = "bool" ∨ t = "int" ∨ t = "str" ∨ t = "list" ∨ t = "tuple" ∨ t = "dict") (hg : Gl X "isinstance") (hm : X.mg "isinstance" = none) (hv : bootBuiltins "isinstance" = some (.builtin "isinstance"))
    (hgt : PE X (.Name ts p2) (tC (.ty t))) (ha : DE X W Wx e ma) (h1 : starEach (e :: .Name ts p2 :: []) X.env = (false, eval e X.env) :: starEach [.Name ts p2] X.env := by rfl) (h2 : starEach (.Name ts p2 :: []) X.env = (false, eval (.Name ts p2) X.env) :: starEach [] X.env := by rfl)
    (h3 : (backTo pos (starEach [.Name ts p2] X.env)).any (·.1) = false := by rfl) : DE X W Wx (.Call (.Name "isinstance" p1) [e, .Name ts p2] [] pos) (mIsi t ma) :=
  PE_imp (pe_callB call_isi hg hm hv (pa_cons ha (pa_cons hgt pa_nil h2) h1) (by decide) (by decide) h1 h3) fun σ H Q ⟨F, ρ, fp, ok, w⟩ => by
    refine ⟨F, ρ, fp, ok, M.wp_mono (M.wp_bind.mp w) (fun x wx F1 H1 v f1 r1 => ?_) (fun c d h => h)⟩
    obtain ⟨b, hb, wx⟩ := M.wp_opt.mp wx
    obtain ⟨ty, h1, h2⟩ := isi_ty ht r1.step.sub r1.rep hb
    exact ⟨v, .ty t, .type ty, .type t, b, rfl, .ty t, h1, kit_ty h2, wx _ _ _ [] ((Res.val (d := .bl _) r1.step.sub r1.step.fa r1.step.st rfl).pre r1.step)⟩
end
end Dn
end

section
set_option Elab.async false
set_option linter.all false
set_option maxRecDepth 100000
set_option maxHeartbeats 1000000
namespace Dn
open PySem PySem.Spec PyProof.Rows L2 Evl GrO
/-! ## a call that only looks at what is one's own, and hands back a plain value -/
def unb : LV → LV
  | .bo l => l
  | l => l
def flatR : LV → M LV
  | .fz (.int i) => .ret (.fz (.int i))
  | .fz (.str i) => .ret (.fz (.str i))
  | .fz (.bl i) => .ret (.fz (.bl i))
  | .fz .non => .ret (.fz .non)
  | _ => .bad
def mCallB (n : Nat) (f : Fs) (ma : Ema) : Em := fun ρ => (ma ρ).bind fun xs => M.opt (toDs (xs.map unb)) fun ds => .need (ds.length = n) ((M.noex (f ds)).bind flatR)
section
variable {K : PySem.W.Frag} {W : Wd} {F F' H H' : Hp}
theorem unb_rep {l : LV} {v : V} {f : List Addr} (r : RepO K W F H l v f) : RepO K W F H (unb l) v f := by
  cases l <;> exact r
theorem unbs_rep : ∀ {ls : List LV} {vs : List V} {f : List Addr}, RepOs K W F H ls vs f → RepOs K W F H (ls.map unb) vs f
  | [], _, _, h => h
  | _ :: _, _, _, ⟨v, r, g, k, a, b, c, e⟩ => ⟨v, r, g, k, a, unb_rep b, unbs_rep c, e⟩
theorem flatR_wp {lv : LV} {P : LV → Prop} {E : Nat → D → Prop} (h : (flatR lv).wp P E) : (∃ d, lv = .fz d ∧ ∀ {F F' : Hp} {v : V}, Rep K W F d v → Rep K W F' d v) ∧ P lv := by
  unfold flatR at h
  split at h
  · exact ⟨⟨_, rfl, fun r => r⟩, h⟩
  · exact ⟨⟨_, rfl, fun r => r⟩, h⟩
  · exact ⟨⟨_, rfl, fun r => r⟩, h⟩
  · exact ⟨⟨_, rfl, fun r => r⟩, h⟩
  · exact h.elim
end
section
variable {X : Cx} {W : Wd} {Wx : WX} {x m : Str} {p pos apos : Pos} {e o : Expr} {es : List Expr} {ma : Ema} {mo : Em} {k n : Nat} {f C : Addr} {fd : FuncData} {ps : List Str} {fs : Fs}
theorem te_callB {K : PySem.W.Frag} {σ : L2.St} {H : Hp} {Q : VK} (h : teM K W Wx (mCallB n fs ma) σ H Q) : tCallS (spM K W n fs) (WE Wx) (taM K W Wx ma) σ H Q := by
  obtain ⟨F, ρ, fp, ok, w⟩ := h
  refine ⟨F, ρ, fp, ok, M.wp_mono (M.wp_bind.mp w) (fun xs wx F1 H1 vs f1 r1 => ?_) (fun c d h => h)⟩
  obtain ⟨ds, hd, hl, wx⟩ := M.wp_opt.mp wx
  have ok1 := ok.step r1.step
  have me : Ex F1 (mix F1 H1 f1) := mix_ex (fun q hq => (r1.own q hq).1)
  have hv := Reps.frz r1.step.sub me (unbs_rep r1.rep) (fun q hq => hq) hd
  have na : W.a ∉ f1 := fun z => (r1.own _ z).2.1 rfl
  refine ⟨mix F1 H1 f1, ds, mix_sub r1.step.sub, by rw [mix_none na]; exact r1.step.fa, r1.step.st, hl, hv, M.wp_mono (M.wp_noex.mp (M.wp_bind.mp wx)) (fun lv h F' H' v g r _ => ?_) (fun c d h => h.elim)⟩
  obtain ⟨⟨d, rfl, hf⟩, h⟩ := flatR_wp (K := K) (W := W) h
  have s : Step W [] F1 H1 F1 H' := ⟨Ex.refl _, fun _ h => Or.inl h, r.step.keep, r.step.there, me.trans (r.step.ff.trans r.step.sub), r1.step.fa, r.step.st⟩
  exact h F1 H' v [] ⟨r1.step.trans0 s, ⟨hf r.rep.1, rfl⟩, fun _ h => absurd h List.not_mem_nil, fun _ => ⟨List.nodup_nil, fun _ h => absurd h List.not_mem_nil⟩⟩
theorem de_callB (F : FnOk X.prog X.w X.K X.mg X.base (L2.CX X.prog X.w) k f fd ps (spM X.K W n fs)) (hr : Room k X.A) (hg : Gl X x) (hm : X.mg x = some (.ref f)) (hk : PySem.W.keepIn X.K (.ref f) = true) (hb : Binds X.K fd ps []) (tk : Takes X Wx)
    (ha : DA X W Wx (e :: es) ma) (hdb : (x == ("__debug__" : Str)) = false := by decide) (he : starEach (e :: es) X.env = (false, eval e X.env) :: starEach es X.env := by rfl) (hpl : (backTo pos (starEach es X.env)).any (·.1) = false := by rfl) :
    DE X W Wx (.Call (.Name x p) (e :: es) [] pos) (mCallB n fs ma) := PE_imp (pe_callS F hr hg hm hk hb (fun σ => passAt tk σ) ha hdb he hpl) fun σ H Q h => te_callB h
end
end Dn
end

section
set_option Elab.async false
set_option linter.all false
set_option maxRecDepth 100000
set_option maxHeartbeats 1000000
namespace Dn
open PySem PySem.Spec PyProof.Rows L2 Evl GrO
/-! ## short words for terms -/
section
variable {X : Cx} {W : Wd} {Wx : WX} {e a b c : Expr} {ma mb mc : Em} {pos : Pos} {i : Nat}
theorem de_int {n : Int} {j : Nat} : DE X W Wx (.Constant (.int n) j pos) (mC (.int n)) := de_c pe_int (fun _ => rfl)
theorem de_str {s : Str} {j : Nat} : DE X W Wx (.Constant (.str s) j pos) (mC (.str s)) := de_c pe_str (fun _ => rfl)
theorem de_bl {k : Bool} {j : Nat} : DE X W Wx (.Constant (.bool k) j pos) (mC (.bl k)) := de_c pe_bl (fun _ => rfl)
theorem de_non {j : Nat} : DE X W Wx (.Constant .none j pos) (mC .non) := de_c pe_non (fun _ => rfl)
theorem de_gs {x : Str} {s : Str} (hg : Gl X x) (h : ∃ t, X.mg x = some (.str s t)) (hd : (x == ("__debug__" : Str)) = false := by decide) : DE X W Wx (.Name x pos) (mC (.str s)) := de_c (C8.pe_gc (v := .str s) hg (let ⟨t, e⟩ := h; ⟨_, e, t, rfl⟩) hd) (fun _ => rfl)
theorem de_gi {x : Str} {s : Int} (hg : Gl X x) (h : ∃ t, X.mg x = some (.int s t)) (hd : (x == ("__debug__" : Str)) = false := by decide) : DE X W Wx (.Name x pos) (mC (.int s)) := de_c (C8.pe_gc (v := .int s) hg (let ⟨t, e⟩ := h; ⟨_, e, t, rfl⟩) hd) (fun _ => rfl)
theorem de_v (i : Nat) (h : PE X e (tVar i)) : DE X W Wx e (mVar i) := de_var i h
variable {K : PySem.W.Frag}
theorem om_div : OpM K W (rI CDiv fun i j => .int (i / j)) fDiv := om_i2 (C := CDiv)
theorem om_mod : OpM K W (rI (fun _ j => 0 < j) fun i j => .int (i % j)) fMod := om_i2
theorem om_pow : OpM K W (rI CPow fun i j => .int (i ^ j.toNat)) fPow := om_i2 (C := CPow)
/-! a < b < c -/
def mChain (f g : LV → LV → M LV) (ma mb mc : Em) : Em := fun ρ => (ma ρ).bind fun x => (mb ρ).bind fun y => (f x y).bind fun z => match z with
  | .fz (.bl k) => if k = true then (mc ρ).bind fun w => g y w else .ret (.fz (.bl false))
  | _ => .bad
theorem own_trans {F F' H H' : Hp} {x : LV} {v : V} {f : List Addr} (r : RepO K W F H x v f) (own : ∀ q ∈ f, F q = none ∧ q ≠ W.a ∧ q ≠ W.q) (s : Step W [] F H F' H') : RepO K W F' H' x v f ∧ ∀ q ∈ f, F' q = none ∧ q ≠ W.a ∧ q ≠ W.q := by
  refine ⟨RepO.step r (fun q hq => (own q hq).2.1) s, fun q hq => ⟨?_, (own q hq).2⟩⟩
  rcases s.nf q (own q hq).1 with z | z | z
  · exact z
  · obtain ⟨o, e⟩ := RepO.there r q hq
    rw [e] at z
    cases z
  · cases z
theorem te_chain {r r' : R2} {f g : LV → LV → M LV} (hf : OpM K W r f) (hg : OpM K W r' g) {σ : L2.St} {H : Hp} {Q : VK} (h : teM K W Wx (mChain f g ma mb mc) σ H Q) : tChain r r' (teM K W Wx ma) (teM K W Wx mb) (teM K W Wx mc) σ H Q := by
  obtain ⟨F, ρ, fp, ok, w⟩ := h
  refine ⟨F, ρ, fp, ok, M.wp_mono (M.wp_bind.mp w) (fun x wx F1 H1 v f1 r1 => ?_) (fun c d h => h)⟩
  refine ⟨F1, ρ, fp, ok.step r1.step, M.wp_mono (M.wp_bind.mp wx) (fun y wy F2 H2 u f2 r2 => ?_) (fun c d h => h.step r1.step)⟩
  obtain ⟨k1, o1⟩ := own_step r1 r2.step
  have s2 := r1.step.trans0 r2.step
  refine hf r2.step.sub r2.step.fa r2.step.st k1 r2.rep o1 r2.own (M.wp_mono (M.wp_bind.mp wy) (fun z wz F3 H3 t f3 r3 => ?_) (fun c d h => h))
  have s3 := s2.trans0 r3.step
  cases z with
  | fz d =>
    cases d with
    | bl k =>
      refine ⟨k, r3.rep.1, ?_⟩
      cases k with
      | false => exact wz _ _ _ [] ((Res.val (d := .bl false) (v := .bl false) r3.step.sub r3.step.fa r3.step.st rfl).pre s3)
      | true =>
        refine ⟨F3, ρ, fp, ok.step s3, M.wp_mono (M.wp_bind.mp wz) (fun w' ww F4 H4 q f4 r4 => ?_) (fun c d h => h.step s3)⟩
        obtain ⟨k2, o2⟩ := own_step r2 (r3.step.trans0 r4.step)
        exact hg r4.step.sub r4.step.fa r4.step.st k2 r4.rep o2 r4.own (M.wp_mono ww (fun lv k F' H' z f' rz => k F' H' z f' (rz.pre (s3.trans0 r4.step))) (fun c d h => h))
    | _ => exact wz.elim
  | _ => exact wz.elim
theorem de_chain {op op' : CmpOp} {r r' : R2} {f g : LV → LV → M LV} (ho : OpR X (compareOp op) r) (hf : OpM X.K W r f) (ho' : OpR X (compareOp op') r') (hg : OpM X.K W r' g) (ha : DE X W Wx a ma) (hb : DE X W Wx b mb) (hc : DE X W Wx c mc)
    (hm : lastMarks [op, op'] [b, c] = false := by with_unfolding_all rfl) : DE X W Wx (.Compare a [op, op'] [b, c] pos) (mChain f g ma mb mc) := PE_imp (pe_chain ho ho' ha hb hc hm) fun σ H Q h => te_chain hf hg h
/-! comparisons as tests -/
theorem tt_of {t : TE} (hm : ∀ σ H Q, teM K W Wx ma σ H Q → t σ H Q) {σ : L2.St} {H : Hp} {Q : Bool → Hp → Prop} (h : ttM K W Wx (tVal ma) σ H Q) : tTest t σ H Q := by
  obtain ⟨F, ρ, fp, ok, w⟩ := h
  refine hm _ _ _ ⟨F, ρ, fp, ok, M.wp_mono (M.wp_bind.mp w) (fun x wx F1 H1 v f1 r1 => ?_) (fun c d h => h)⟩
  cases x with
  | fz d =>
    cases d with
    | bl b => exact ⟨b, r1.rep.1, wx F1 H1 r1.step⟩
    | _ => exact wx.elim
  | _ => exact wx.elim
theorem dt_cmp {op : CmpOp} {r : R2} {f : LV → LV → M LV} (ho : OpR X (compareOp op) r) (hf : OpM X.K W r f) (ha : DE X W Wx a ma) (hb : DE X W Wx b mb) (hm : behindInMarks op b = false) : DT X W Wx (.Compare a [op] [b] pos) (tVal (m2 f ma mb)) :=
  PT_imp (pt_cmpR ho ha hb hm) fun σ H Q h => tt_of (fun σ H Q h => te_op2 hf h) h
theorem dt_chain {op op' : CmpOp} {r r' : R2} {f g : LV → LV → M LV} (ho : OpR X (compareOp op) r) (hf : OpM X.K W r f) (ho' : OpR X (compareOp op') r') (hg : OpM X.K W r' g) (ha : DE X W Wx a ma) (hb : DE X W Wx b mb) (hc : DE X W Wx c mc)
    (hm : lastMarks [op, op'] [b, c] = false := by with_unfolding_all rfl) : DT X W Wx (.Compare a [op, op'] [b, c] pos) (tVal (mChain f g ma mb mc)) := PT_imp (pt_chain ho ho' ha hb hc hm) fun σ H Q h => tt_of (fun σ H Q h => te_chain hf hg h) h
/-! x += e of ints -/
def sAug (i : Nat) (g : Int → Int → Int) (ma : Em) : Sm := fun ρ => match ρ[i]? with
  | some (.fz (.int x)) => (ma ρ).tr ρ fun y => match y with
    | .fz (.int z) => .ret (.next (ρ.set i (.fz (.int (g x z)))))
    | _ => .bad
  | _ => .bad
theorem ds_aug {st : Stmt} {g : Int → Int → Int} (h : PS X st (tAug i (teM X.K W Wx ma) (ipI g))) : DS X W Wx st (sAug i g ma) := PS_imp h fun En σ H ⟨F, ρ, fp, ok, w⟩ => by
  unfold sAug at w
  cases q : ρ[i]? with
  | none => rw [q] at w; exact w.elim
  | some l =>
    rw [q] at w
    obtain ⟨x, f, hx, hr, hf⟩ := ok.get q
    cases l with
    | fz d =>
      cases d with
      | int n =>
        cases x with
        | none => exact hr.elim
        | some v =>
          have ev : v = .int n := hr.1
          subst ev
          refine ⟨.int n, hx, F, ρ, fp, ok, M.wp_mono (M.wp_tr.mp w) (fun y wy F1 H1 u f1 r1 => ?_) (fun c d h => exP.toE ok h)⟩
          cases y with
          | fz dy =>
            cases dy with
            | int z =>
              obtain ⟨fp', ok', sub⟩ := (ok.step r1.step).setD (d := .int (g n z)) (v := .int (g n z)) q rfl
              exact ⟨n, z, rfl, r1.rep.1, wy F1 H1 _ fp' r1.step.any ok' (fun q hq => (sub q hq).elim Or.inl (fun z => Or.inr (r1.step.free z)))⟩
            | _ => exact wy.elim
          | _ => exact wy.elim
      | _ => exact w.elim
    | _ => exact w.elim
end
end Dn
end

section
set_option Elab.async false
set_option linter.all false
set_option maxRecDepth 100000
set_option maxHeartbeats 1000000
namespace Dn
open PySem PySem.Spec PyProof.Rows L2 Evl GrO
/-! ## an own object's len, abs, [], for; zip -/
section
variable {X : Cx} {W : Wd} {Wx : WX} {x m : Str} {p pos apos tpos : Pos} {e o a b tg : Expr} {es : List Expr} {ma : Ema} {mo me mb : Em} {k n : Nat} {f C : Addr} {fd : FuncData} {ps : List Str} {fs : Fs}
def mLenO (c : Nat) (f : Fs) (mo : Em) : Em := fun ρ => (mo ρ).bind fun x => match x with
  | .fz (.obj c' fs) => .need (c' = c) ((M.noex (f [.obj c' fs])).bind fun l => match l with
    | .fz (.int n) => .need (0 ≤ n ∧ n < 100000000) (.ret (.fz (.int n)))
    | _ => .bad)
  | _ => .bad
theorem de_lenO {c : Nat} (ho : DE X W Wx o mo) (F : FnOk X.prog X.w X.K X.mg X.base (L2.CX X.prog X.w) k f fd ps (spM X.K W 1 fs)) (hs : PySem.W.findIn X.K (.ref (W.cl c)) "__len__" = some (some (.ref f))) (hf : PySem.W.isFn X.K (.ref f) = true) (hb : Binds X.K fd ps []) (hr : Room (k + 1) X.A) (hg : Gl X "len") (hm : X.mg "len" = none)
    (h1 : starEach [o] X.env = (false, eval o X.env) :: starEach [] X.env := by rfl) (h2 : (backTo pos (starEach [] X.env)).any (·.1) = false := by rfl) : DE X W Wx (.Call (.Name "len" p) [o] [] pos) (mLenO c fs mo) :=
  PE_imp (pe_callB (call_lenO (C := W.cl c) F hs hf hb hr passL) hg hm PySem.boot_len (da_cons ho da_nil h1) (by decide) (by decide) h1 h2) fun σ H Q ⟨F, ρ, fp, ok, w⟩ => by
  refine taM_one (E := fun _ _ => True) ok (M.wp_bind.mp w) (fun x F1 H1 v f1 wx r1 => ?_)
  cases x with
  | fz d =>
    cases d with
    | obj c' gs =>
      obtain ⟨rfl, wx⟩ := wx
      have r := r1.rep.1
      obtain ⟨a, dx, es, rfl, h1, h2, h3⟩ := r1.rep.1
      refine ⟨a, dx, es, rfl, r1.step.sub _ _ h1, F1, [.obj c' gs], r1.step.sub, r1.step.fa, r1.step.st, rfl, ⟨_, _, rfl, r, rfl⟩, M.wp_mono (M.wp_noex.mp (M.wp_bind.mp wx)) (fun lv h F' H' v g r _ => ?_) (fun c d h => h.elim)⟩
      cases lv with
      | fz d =>
        cases d with
        | int n =>
          obtain ⟨⟨hn0, hn1⟩, h⟩ := h
          obtain ⟨N, rfl⟩ := Int.eq_ofNat_of_zero_le hn0
          refine ⟨N, r.rep.1, by omega, h F' H' _ [] ((Res.val (d := .int (N : Int)) (v := .int (N : Int)) r.step.sub r.step.fa r.step.st rfl).pre (r1.step.trans0 r.step))⟩
        | _ => exact h.elim
      | _ => exact h.elim
    | _ => exact wx.elim
  | _ => exact wx.elim
def mAbsO (c : Nat) (f : Fs) (mo : Em) : Em := mProp c f mo
theorem de_absO {c : Nat} (ho : DE X W Wx o mo) (F : FnOk X.prog X.w X.K X.mg X.base (L2.CX X.prog X.w) k f fd ps (spM X.K W 1 fs)) (hs : PySem.W.findIn X.K (.ref (W.cl c)) "__abs__" = some (some (.ref f))) (hf : PySem.W.isFn X.K (.ref f) = true) (hb : Binds X.K fd ps []) (hr : Room (k + 1) X.A) (hg : Gl X "abs") (hm : X.mg "abs" = none)
    (h1 : starEach [o] X.env = (false, eval o X.env) :: starEach [] X.env := by rfl) (h2 : (backTo pos (starEach [] X.env)).any (·.1) = false := by rfl) : DE X W Wx (.Call (.Name "abs" p) [o] [] pos) (mAbsO c fs mo) :=
  PE_imp (pe_callB (call_absO (C := W.cl c) F hs hf hb hr passL) hg hm (by decide +kernel) (da_cons ho da_nil h1) (by decide) (by decide) h1 h2) fun σ H Q ⟨F, ρ, fp, ok, w⟩ => by
  refine taM_one (E := fun _ _ => True) ok (M.wp_bind.mp w) (fun x F1 H1 v f1 wx r1 => ?_)
  cases x with
  | fz d =>
    cases d with
    | obj c' gs =>
      obtain ⟨rfl, wx⟩ := wx
      have r := r1.rep.1
      obtain ⟨a, dx, es, rfl, h1, h2, h3⟩ := r1.rep.1
      exact ⟨a, dx, es, rfl, r1.step.sub _ _ h1, sp_run0 (ds := [.obj c' gs]) ⟨_, _, rfl, r, rfl⟩ r1.step rfl wx⟩
    | _ => exact wx.elim
  | _ => exact wx.elim
def mIxO (c : Nat) (f : Fs) (mo mb : Em) : Em := fun ρ => (mo ρ).bind fun x => match x with
  | .fz (.obj c' fs) => .need (c' = c) ((mb ρ).bind fun y => match y with
    | .fz d => M.noex (f [.obj c' fs, d])
    | _ => .bad)
  | _ => .bad
theorem de_ixO {c : Nat} (ho : DE X W Wx o mo) (hb' : DE X W Wx b mb) (hs : PySem.W.findIn X.K (.ref (W.cl c)) "__getitem__" = some (some (.ref f))) (hf : PySem.W.isFn X.K (.ref f) = true) (hfn : PySem.W.fnIn X.K f = true) (F : FnOk X.prog X.w X.K X.mg X.base (L2.CX X.prog X.w) k f fd ps (spM X.K W 2 fs)) (hr : Room (k + 1) X.A) (hb : Binds X.K fd ps [])
    (hsl : ∀ v u, subscripted b true v u = runValue (.builtin "lifetime.subscript" ⟨[v, u], []⟩) := by intro _ _; with_unfolding_all rfl) : DE X W Wx (.Subscript o b pos) (mIxO c fs mo mb) :=
  PE_imp (pe_ixO (C := W.cl c) F hs hf hfn hb hr passL ho hb' hsl) fun σ H Q ⟨F, ρ, fp, ok, w⟩ => by
  refine ⟨F, ρ, fp, ok, M.wp_mono (M.wp_bind.mp w) (fun x wx F1 H1 v f1 r1 => ?_) (fun c d h => h)⟩
  cases x with
  | fz d =>
    cases d with
    | obj c' gs =>
      obtain ⟨rfl, wx⟩ := wx
      have r := r1.rep.1
      obtain ⟨a, dx, es, rfl, h1, h2, h3⟩ := r1.rep.1
      refine ⟨F1, ρ, fp, ok.step r1.step, M.wp_mono (M.wp_bind.mp wx) (fun y wy F2 H2 u f2 r2 => ?_) (fun c d h => h.step r1.step)⟩
      cases y with
      | fz d =>
        have s2 := r1.step.trans0 r2.step
        exact ⟨a, dx, es, rfl, r2.step.sub _ _ (r2.step.ff _ _ h1), sp_run0 (ds := [.obj c' gs, d]) ⟨_, _, rfl, Rep.ex r2.step.ff r, _, _, rfl, r2.rep.1, rfl⟩ s2 rfl wy⟩
      | _ => exact wy.elim
    | _ => exact wx.elim
  | _ => exact wx.elim
/-- for .. in o, where the class's __iter__ gives iter(self.field j), a tuple -/
def iOwn (c j : Nat) (mo : Em) : Im := fun ρ => (mo ρ).bind fun x => match x with
  | .fz (.obj c' fs) => .need (c' = c) (match fs[j]? with
    | some (.tup ds) => .ret ds
    | _ => .bad)
  | _ => .bad
theorem di_own {c j : Nat} {fl : Str} (ho : DE X W Wx o mo) (F : FnN X.prog X.w X.K X.mg X.base (L2.CX X.prog X.w) k f fd ["self"] (spIter X.K (W.cl c) fl)) (hs : PySem.W.findIn X.K (.ref (W.cl c)) "__iter__" = some (some (.ref f))) (hf : PySem.W.isFn X.K (.ref f) = true) (hb : Binds X.K fd ["self"] []) (hr : Room k X.A) (nd : (W.nm c).Nodup) (hj : (W.nm c)[j]? = some fl) : DI X W Wx tg o (iOwn c j mo) :=
  PI_imp (pi_ownI ho F hs hf hb hr passL) fun σ H R ⟨F, ρ, fp, ok, w⟩ => by
  refine ⟨F, ρ, fp, ok, M.wp_mono (M.wp_bind.mp w) (fun x wx F1 H1 v f1 r1 => ?_) (fun c d h => h)⟩
  cases x with
  | fz d =>
    cases d with
    | obj c' gs =>
      obtain ⟨rfl, wx⟩ := wx
      obtain ⟨a, dx, es, rfl, h1, h2, h3⟩ := r1.rep.1
      cases q : gs[j]? with
      | none => rw [q] at wx; exact wx.elim
      | some d =>
        rw [q] at wx
        cases d with
        | tup ds =>
          obtain ⟨u, h4, t, vs, rfl, h6, h7⟩ := Reps.get h3 q
          exact ⟨a, dx, es, t, vs, rfl, r1.step.sub _ _ h1, lookup_ix h2 nd hj h4, ex_t r1.step.sub h6, wx F1 H1 _ r1.step (it_tup h6 h7)⟩
        | _ => exact wx.elim
    | _ => exact wx.elim
  | _ => exact wx.elim
theorem listF_toD {x : LV} {ds : List D} (h : listF x = some ds) : toD x = some (.lst ds) := by
  cases x with
  | fz d => cases d <;> first | (cases h; rfl) | cases h
  | os d => cases h; rfl
  | _ => cases h
theorem di_zipL {elts : List Expr} {kk : Nat} (hg : Gl X "zip") (hm : X.mg "zip" = none) (ha : DE X W Wx a me) (hb : DE X W Wx b mb) (hs : starEach [a, b] X.env = (false, eval a X.env) :: starEach [b] X.env := by rfl) (hs2 : starEach [b] X.env = (false, eval b X.env) :: starEach [] X.env := by rfl) (hp : (backTo pos (starEach [b] X.env)).any (·.1) = false := by rfl) : DI X W Wx (.Tuple elts kk tpos) (.Call (.Name "zip" p) [a, b] [] pos) (iZipLM me mb) :=
  PI_imp (pi_zip hg hm (da_cons ha (da_cons hb da_nil hs2) hs) hs hp) fun σ H R ⟨F, ρ, fp, ok, w⟩ => by
    refine ⟨F, ρ, fp, ok, M.wp_bind.mpr (M.wp_mono (M.wp_bind.mp w) (fun x wx => ?_) (fun c d h => h))⟩
    refine M.wp_bind.mpr (M.wp_bind.mpr (M.wp_mono (M.wp_bind.mp wx) (fun y wy => ?_) (fun c d h => h)))
    intro F1 H1 vs f r
    obtain ⟨ds, hd, wy⟩ := M.wp_opt.mp wy
    obtain ⟨es, he, wy⟩ := M.wp_opt.mp wy
    have t : toDs [x, y] = some [.lst ds, .lst es] := by
      show (match toD x, (match toD y, some [] with | some d, some ds => some (d :: ds) | _, _ => none) with | some d, some ds => some (d :: ds) | _, _ => none) = _
      rw [listF_toD hd, listF_toD he]
    obtain ⟨F2, s, u, vr, rfl, ⟨p1, v1, rfl, a1, b1⟩, u2, vr2, rfl, ⟨p2, v2, rfl, a2, b2⟩, rfl⟩ := r.frz t
    exact ⟨p1, p2, v1, v2, rfl, SqL.of (s.sub _ _ a1), SqL.of (s.sub _ _ a2), wy F2 H1 _ s (it_zipL a1 a2 b1 b2)⟩
end
end Dn
end

section
set_option Elab.async false
set_option linter.all false
set_option maxRecDepth 100000
set_option maxHeartbeats 1000000
namespace Dn
open PySem PySem.Spec PyProof.Rows L2 Evl GrO
/-! ## try .. except .. as e -/
namespace M
variable {α : Type}
def adr : D → Addr
  | .int i => i.toNat
  | _ => 0
/-- whatever address -/
def all (k : Addr → M α) : M α := .pick (fun _ => True) fun d => k (adr d)
theorem wp_all {k : Addr → M α} {P : α → Prop} {E : Nat → D → Prop} : (M.all k).wp P E ↔ ∀ a, (k a).wp P E := by
  refine ⟨fun h a => ?_, fun h d _ => h _⟩
  have := h (.int (a : Int)) trivial
  exact this
end M
section
variable {K : PySem.W.Frag} {W : Wd} {F F' H H' : Hp}
mutual
theorem RepO.nox : ∀ {l : LV} {v : V} {fp : List Addr}, RepO K W F H l v fp → ∀ q ∈ fp, ∀ fs, H q ≠ some (.xd fs)
  | .un, _, _, h, _, _, _, _ => h.elim
  | .fz _, _, _, ⟨_, z⟩, q, hq, _, _ => by rw [z] at hq; cases hq
  | .ol _, _, _, ⟨p, vs, f, a, b, c, z⟩, q, hq, fs, e => by
    rw [z] at hq
    rcases List.mem_cons.mp hq with rfl | hq
    · rw [b] at e; cases e
    · exact RepOs.nox c q hq fs e
  | .bo l, v, fp, h, q, hq, fs, e => RepO.nox (l := l) (v := v) (fp := fp) h q hq fs e
  | .ex _ _ _ _, _, _, ⟨_, _, z⟩, q, hq, _, _ => by rw [z] at hq; cases hq
  | .os _, _, _, ⟨p, vs, a, b, c, z⟩, q, hq, fs, e => by
    rw [z] at hq
    rw [List.mem_singleton.mp hq, b] at e
    cases e
  | .ok _, _, _, ⟨p, vs, a, b, c, z⟩, q, hq, fs, e => by
    rw [z] at hq
    rw [List.mem_singleton.mp hq, b] at e
    cases e
  | .sf _ p _, _, _, ⟨dx, gs, a, b, n, c, z⟩, q, hq, fs, e => by
    rw [z] at hq
    rw [List.mem_singleton.mp hq, b] at e
    cases e
theorem RepOs.nox : ∀ {l : List LV} {v : List V} {fp : List Addr}, RepOs K W F H l v fp → ∀ q ∈ fp, ∀ fs, H q ≠ some (.xd fs)
  | [], _, _, ⟨_, z⟩, q, hq, _, _ => by rw [z] at hq; cases hq
  | _ :: _, _, _, ⟨v, r, f, g, a, b, c, z⟩, q, hq, fs, e => by
    rw [z] at hq
    exact (List.mem_append.mp hq).elim (fun hq => RepO.nox b q hq fs e) (fun hq => RepOs.nox c q hq fs e)
end
theorem RepS.nox {l : LV} {x : Option V} {fp : List Addr} (h : RepS K W F H l x fp) : ∀ q ∈ fp, ∀ fs, H q ≠ some (.xd fs) := by
  cases l with
  | un =>
    intro q hq
    have z : fp = [] := by cases x <;> exact h
    rw [z] at hq
    cases hq
  | _ =>
    cases x with
    | none => exact h.elim
    | some v => exact RepO.nox h
theorem RepE.nox : ∀ {l : List LV} {σ : L2.St} {fp : List Addr}, RepE K W F H l σ fp → ∀ q ∈ fp, ∀ fs, H q ≠ some (.xd fs)
  | [], _, _, ⟨_, z⟩, q, hq, _, _ => by rw [z] at hq; cases hq
  | _ :: _, _, _, ⟨v, r, f, g, a, b, c, z⟩, q, hq, fs, e => by
    rw [z] at hq
    exact (List.mem_append.mp hq).elim (fun hq => RepS.nox b q hq fs e) (fun hq => RepE.nox c q hq fs e)
theorem upd_ex {dx : Addr} {o : HO} (s : Ex F' H') (e : H' dx = some o) : Ex F' (upd F' dx o) := fun a u h => by
  by_cases n : a = dx
  · have h2 := s _ _ h
    rw [n, e] at h2
    rw [n, upd_same]
    exact h2
  · rw [upd_ne n]
    exact h
theorem Step.addx {A : List Addr} {dx : Addr} {fs : List (Str × V)} (s : Step W A F H F' H') (n : H dx = none) (e : H' dx = some (.xd fs)) : Step W A F H (upd F' dx (.xd fs)) H' := by
  have na : W.a ≠ dx := fun z => by
    obtain ⟨ns, i, b, c, d, h1, _⟩ := s.st
    rw [z, e] at h1
    cases h1
  refine ⟨s.ff.trans (upd_ex s.sub e), fun p hp => ?_, s.keep, s.there, fun a u h => ?_, by rw [upd_ne na]; exact s.fa, s.st⟩
  · by_cases hx : p = dx
    · rw [hx]; exact Or.inr (Or.inl n)
    · rw [upd_ne hx]; exact s.nf p hp
  · by_cases hx : a = dx
    · rw [hx, upd_same] at h
      rw [hx, e]
      exact h
    · rw [upd_ne hx] at h
      exact s.sub _ _ h
theorem Ok.addx {ρ : List LV} {σ : L2.St} {fp : List Addr} {dx : Addr} {fs : List (Str × V)} (ok : Ok K W F H ρ σ fp) (e : H dx = some (.xd fs)) : Ok K W (upd F dx (.xd fs)) H ρ σ fp := by
  have na : W.a ≠ dx := fun z => by
    obtain ⟨ns, i, b, c, d, h1, _⟩ := ok.st
    rw [z, e] at h1
    cases h1
  refine ⟨fun a u h => ?_, by rw [upd_ne na]; exact ok.fa, ok.st, fun q hq => ?_, ok.nod, RepE.ex (upd_ex ok.sub e) ok.rep (fun _ _ _ h => h)⟩
  · by_cases hx : a = dx
    · rw [hx, upd_same] at h
      rw [hx, e]
      exact h
    · rw [upd_ne hx] at h
      exact ok.sub _ _ h
  · have hx : q ≠ dx := fun z => RepE.nox ok.rep q hq fs (by rw [z]; exact e)
    rw [upd_ne hx]
    exact ok.own q hq
end
def setX (i : Nat) (x : LV) (ρ : List LV) (m : Sm) : M Fl := match ρ[i]? with
  | some _ => m (ρ.set i x)
  | none => .bad
def endX (i : Nat) : Fl → M Fl
  | .next ρ => .ret (.next (ρ.set i .un))
  | .brk ρ => .ret (.brk (ρ.set i .un))
  | .cont ρ => .ret (.cont (ρ.set i .un))
  | .ret l => .ret (.ret l)
  | .exn _ _ _ => .bad
def sTryAs (i : Nat) (es hb : Nat → Bool) (mb : Sm) (ms : Addr → Addr → Nat → Sm) : Sm := fun ρ => (mb ρ).bind fun fl => match fl with
  | .exn ρ' c d => .need (es c = true) (if hb c = true then M.all fun a => M.all fun dx => (setX i (.ex a dx c d) ρ' (ms a dx c)).bind (endX i) else .ret (.exn ρ' c d))
  | x => .ret x
section
variable {X : Cx} {W : Wd} {Wx : WX} {x n : Str} {cv : Value} {i : Nat} {body suite : List Stmt} {b0 : Stmt} {np pos pos' : Pos} {es hb : Nat → Bool} {mb : Sm} {ms : Addr → Addr → Nat → Sm}
def tsX (K : PySem.W.Frag) (W : Wd) (ms : Addr → Addr → Nat → Sm) : Addr → Value → Option Addr → TS := fun a cls d => fun D σ H => ∃ c dx, cls = .ref (W.cl c) ∧ d = some dx ∧ tsM K W W0 (ms a dx c) D σ H
theorem goP_un {K : PySem.W.Frag} {F H : Hp} {fp : List Addr} {N : L2.St → Hp → Prop} {ρ : List LV} (h : goP K W F H fp N (ρ.set i .un)) : goP K W F H fp (fun σ H => N (σ.set i none) H) ρ := fun F' H' σ' fp' s ok sub => by
  obtain ⟨f2, ok2, s2⟩ := ok.wipe [i]
  exact h F' H' _ f2 s ok2 (fun q hq => sub q (s2 q hq))
theorem ds_try_as (hs : X.stack = X.env :: X.outer) (hf : X.env.frame = some X.env.locals) (hN : X.N.Nodup) (hi : X.N[i]? = some n) (hln : X.env.kindOf n = some .local) (hc : Names X x cv) (tk : Takes X Wx)
    (hx : ∀ c, es c = true → PySem.W.exmOne X.K (.ref (W.cl c)) cv = some (hb c))
    (hb' : ∀ (Wi : WX) (pn : List (Addr × Obj)) (xe : Value → Shared → Prop), Takes (X.tr pn xe) Wi → PassesOwn (model X.prog X.w) X.A X.env xe → DSs (X.tr pn xe) W Wi body mb)
    (hsu : ∀ (a : Addr) (oe : Obj) (c : Nat) (dx : Addr) (pn : List (Addr × Obj)), Zc (.ref (W.cl c)) (some dx) oe → (∃ vs, oe.data = .fields vs) → DSs (X.suite a ((a, oe) :: pn)) W W0 (b0 :: suite) (ms a dx c)) :
    DS X W Wx (.Try body [.ExceptHandler (some (.Name x np)) (some n) (b0 :: suite) pos'] [] [] pos) (sTryAs i es hb mb ms) :=
  PS_imp (ps_try_as (tb := fun Wi => tsM X.K W Wi mb) (ts := tsX X.K W ms) hs hf hN hi hln hc tk hb' (fun a oe cls d pn hz hf => ⟨fun pins s σ H D I q => by
    obtain ⟨c, dx, rfl, rfl, q⟩ := q
    exact (hsu a oe c dx pn hz hf).run pins s σ H D I q⟩)) fun En σ H ⟨F, ρ, fp, ok, w⟩ => by
  refine ⟨F, ρ, fp, ok, M.wp_mono (M.wp_bind.mp w) (fun fl wf => ?_) (fun c d h => h)⟩
  cases fl with
  | next ρ => exact wf
  | brk ρ => exact wf
  | cont ρ => exact wf
  | ret l => exact wf
  | exn ρ' c d =>
    obtain ⟨hes, wf⟩ := wf
    intro F' H' σ' fp' dx v s ok' sub nd e r
    refine ⟨hb c, hx c hes, fun hh a na => ?_, fun hh => ?_⟩
    · rw [if_pos hh] at wf
      have wf := M.wp_bind.mp (M.wp_all.mp (M.wp_all.mp wf a) dx)
      unfold setX at wf
      cases q : ρ'[i]? with
      | none => rw [q] at wf; exact wf.elim
      | some l =>
        rw [q] at wf
        have s2 := s.addx nd e
        have ok2 := ok'.addx e
        obtain ⟨f3, ok3, sub3⟩ := Ok.set (lv := .ex a dx c d) (x := some (.ref a)) (f := []) ok2 q ok2.refl ⟨rfl, ⟨v, upd_same, Rep.ex (upd_ex ok'.sub e) r⟩, rfl⟩ (fun _ h => absurd h List.not_mem_nil) List.nodup_nil (fun _ h => absurd h List.not_mem_nil)
        have sub4 : ∀ q ∈ f3, q ∈ fp ∨ H q = none := fun q hq => (sub3 q hq).elim (sub q) (fun z => Or.inr (s.free z))
        refine ⟨c, dx, rfl, rfl, _, _, f3, ok3, M.wp_mono wf (fun fl wl => ?_) (fun c d h => h)⟩
        cases fl with
        | next ρ2 => exact goP_un (goP.step wl s2 sub4)
        | brk ρ2 => exact goP_un (goP.step wl s2 sub4)
        | cont ρ2 => exact goP_un (goP.step wl s2 sub4)
        | ret l => exact reP.step wl s2 sub4
        | exn ρ2 c d => exact wl.elim
    · rw [if_neg (by rw [hh]; decide)] at wf
      exact wf F' H' σ' fp' dx v s ok' sub nd e r
/-! the error's value, its kind -/
def mXv (es : Nat → Bool) (a dx : Addr) (c : Nat) (mo : Em) : Em := fun ρ => (mo ρ).bind fun x => match x with
  | .bo (.ex a' dx' c' d) => .need ((a' = a ∧ dx' = dx ∧ c' = c) ∧ es c = true) (.ret (.fz d))
  | _ => .bad
def mIsX (kt : Nat → Option Bool) (a dx : Addr) (c : Nat) (mo : Em) : Em := fun ρ => (mo ρ).bind fun x => match x with
  | .bo (.ex a' dx' c' d) => .need (a' = a ∧ dx' = dx ∧ c' = c) (M.opt (kt c) fun b => .ret (.fz (.bl b)))
  | _ => .bad
end
section
variable {X : Cx} {W : Wd} {Wx : WX} {a dx : Addr} {c : Nat} {oe : Obj} {pn : List (Addr × Obj)} {e e2 : Expr} {mo : Em} {pos p : Pos} {kt : Nat → Option Bool}
theorem de_xv {es : Nat → Bool} (hz : Zc (.ref (W.cl c)) (some dx) oe) (hf : ∃ vs, oe.data = .fields vs) (hk : ∀ c, es c = true → XfC X.K (W.cl c) ∧ PySem.W.findIn X.K (.ref (W.cl c)) "value" = some none) (ho : DE (X.suite a ((a, oe) :: pn)) W Wx e mo) (hb : attributeBase e "value" X.env (eval e X.env) = eval e X.env := by rfl) :
    DE (X.suite a ((a, oe) :: pn)) W Wx (.Attribute e "value" pos) (mXv es a dx c mo) := PE_imp (pe_xg hz hf ho hb) fun σ H Q ⟨F, ρ, fp, ok, w⟩ => by
  refine ⟨F, ρ, fp, ok, M.wp_mono (M.wp_bind.mp w) (fun x wx F1 H1 v f1 r1 => ?_) (fun c d h => h)⟩
  cases x with
  | bo l =>
    cases l with
    | ex a' dx' c' d =>
      obtain ⟨⟨⟨rfl, rfl, rfl⟩, he⟩, wx⟩ := wx
      obtain ⟨rfl, ⟨v', h1, h2⟩, _⟩ := r1.rep
      exact ⟨_, _, _, v', rfl, rfl, (hk _ he).1, (hk _ he).2, rfl, r1.step.sub _ _ h1, rfl, wx _ _ _ _ ((Res.val r1.step.sub r1.step.fa r1.step.st h2).pre r1.step)⟩
    | _ => exact wx.elim
  | _ => exact wx.elim
theorem de_isX {cv : Value} {u : V} (hz : Zc (.ref (W.cl c)) (some dx) oe) (hf : ∃ vs, oe.data = .fields vs) (hk : ∀ c b, kt c = some b → ExcC X.K (W.cl c) ∧ PySem.W.kitOne X.K (.ref (W.cl c)) cv = some b) (hu : ∀ w, RelV u w → w = cv) (hg : Gl X "isinstance") (hm : X.mg "isinstance" = none) (hcl : PE (X.suite a ((a, oe) :: pn)) e2 (tC u))
    (ho : DE (X.suite a ((a, oe) :: pn)) W Wx e mo) (h1 : starEach [e, e2] X.env = (false, eval e X.env) :: starEach [e2] X.env := by rfl) (h1' : starEach [e2] X.env = (false, eval e2 X.env) :: starEach [] X.env := by rfl) (h2 : (backTo pos (starEach [e2] X.env)).any (·.1) = false := by rfl) :
    DE (X.suite a ((a, oe) :: pn)) W Wx (.Call (.Name "isinstance" p) [e, e2] [] pos) (mIsX kt a dx c mo) := PE_imp (pe_callB (call_isG hz hf) hg hm (by decide +kernel) (pa_cons ho (pa_cons hcl pa_nil h1') h1) (by decide) (by decide) h1 h2) fun σ H Q ⟨F, ρ, fp, ok, w⟩ => by
  refine ⟨F, ρ, fp, ok, M.wp_mono (M.wp_bind.mp w) (fun x wx F1 H1 v f1 r1 => ?_) (fun c d h => h)⟩
  cases x with
  | bo l =>
    cases l with
    | ex a' dx' c' d =>
      obtain ⟨⟨rfl, rfl, rfl⟩, wx⟩ := wx
      obtain ⟨b, hb, wx⟩ := M.wp_opt.mp wx
      obtain ⟨rfl, ⟨v', h3, h4⟩, _⟩ := r1.rep
      exact ⟨_, u, cv, b, dx', _, rfl, (hk _ b hb).1, rfl, hu, (hk _ b hb).2, rfl, r1.step.sub _ _ h3, wx _ _ _ _ ((Res.val (d := .bl b) (v := .bl b) r1.step.sub r1.step.fa r1.step.st rfl).pre r1.step)⟩
    | _ => exact wx.elim
  | _ => exact wx.elim
end
end Dn
end

section
set_option Elab.async false
set_option linter.all false
set_option maxRecDepth 100000
set_option maxHeartbeats 1000000
namespace Dn
open PySem PySem.Spec PyProof.Rows L2 Evl GrO GenW
/-! ## generators -/
inductive Gl where
  | next (out : List D) (ρ : List LV) | ret (out : List D) | brk (out : List D) (ρ : List LV) | cont (out : List D) (ρ : List LV)
abbrev Gm := List D → List LV → M Gl
def ggP (K : PySem.W.Frag) (W : Wd) (F H : Hp) (fp : List Addr) (N : List V → L2.St → Hp → Prop) (out : List D) (ρ' : List LV) : Prop :=
  ∀ F' H' σ' fp' ys, Step W fp F H F' H' → Ok K W F' H' ρ' σ' fp' → (∀ q ∈ fp', q ∈ fp ∨ H q = none) → Reps K W F' out ys → N ys σ' H'
def glP (K : PySem.W.Frag) (W : Wd) (F H : Hp) (fp : List Addr) (D : GEnds) : Gl → Prop
  | .next out ρ => ggP K W F H fp D.nx out ρ
  | .brk out ρ => ggP K W F H fp D.bk out ρ
  | .cont out ρ => ggP K W F H fp D.ct out ρ
  | .ret out => ∀ F' H' ys, Step W fp F H F' H' → Reps K W F' out ys → D.rt ys .non H'
def tgM (K : PySem.W.Frag) (W : Wd) (m : Gm) : TGn := fun D ys σ H => ∃ F ρ fp out, Ok K W F H ρ σ fp ∧ Reps K W F out ys ∧ (m out ρ).wp (glP K W F H fp D) no2
def DG (X : Cx) (W : Wd) (st : Stmt) (m : Gm) : Prop := GS X st (tgM X.K W m)
def DGs (X : Cx) (W : Wd) (st : List Stmt) (m : Gm) : Prop := GSs X st (tgM X.K W m)
theorem GS_imp {X : Cx} {st : Stmt} {t t' : TGn} (h : GS X st t) (i : ∀ D ys σ H, t' D ys σ H → t D ys σ H) : GS X st t' := ⟨fun A S ip R n ys s0 c fs K J gd lv s σ H D a b d e q => h.run A S ip R n ys s0 c fs K J gd lv s σ H D a b d e (i _ _ _ _ q)⟩
theorem GSs_imp {X : Cx} {st : List Stmt} {t t' : TGn} (h : GSs X st t) (i : ∀ D ys σ H, t' D ys σ H → t D ys σ H) : GSs X st t' := ⟨fun A S ip R n ys s0 c fs K J gd lv s σ H D a b d e q => h.run A S ip R n ys s0 c fs K J gd lv s σ H D a b d e (i _ _ _ _ q)⟩
section
variable {K : PySem.W.Frag} {W : Wd} {F F' H H' : Hp} {fp fp' : List Addr} {En : GEnds}
theorem ggP.step {N : List V → L2.St → Hp → Prop} {out : List D} {ρ' : List LV} (h : ggP K W F H fp N out ρ') (s : Step W fp F H F' H') (sub : ∀ q ∈ fp', q ∈ fp ∨ H q = none) : ggP K W F' H' fp' N out ρ' := fun F2 H2 σ2 f2 ys s2 ok sb r =>
  h F2 H2 σ2 f2 ys (s.trans s2 sub) ok (fun q hq => (sb q hq).elim (sub q) (fun z => Or.inr (s.free z))) r
theorem glP.step {fl : Gl} (h : glP K W F H fp En fl) (s : Step W fp F H F' H') (sub : ∀ q ∈ fp', q ∈ fp ∨ H q = none) : glP K W F' H' fp' En fl := by
  cases fl with
  | next out ρ => exact ggP.step h s sub
  | brk out ρ => exact ggP.step h s sub
  | cont out ρ => exact ggP.step h s sub
  | ret out => exact fun F2 H2 ys s2 r => h F2 H2 ys (s.trans s2 sub) r
end
def gNilM : Gm := fun out ρ => .ret (.next out ρ)
def gSeq (s t : Gm) : Gm := fun out ρ => (s out ρ).bind fun fl => match fl with
  | .next out' ρ' => t out' ρ'
  | x => .ret x
def gLift (s : Sm) : Gm := fun out ρ => (s ρ).bind fun fl => match fl with
  | .next ρ' => .ret (.next out ρ')
  | .brk ρ' => .ret (.brk out ρ')
  | .cont ρ' => .ret (.cont out ρ')
  | .ret (.fz .non) => .ret (.ret out)
  | _ => .bad
def gYield (ma : Em) : Gm := fun out ρ => .need (out.length < 100000) (((ma ρ).noex).bind fun x => M.opt (toD x) fun d => .ret (.next (out ++ [d]) ρ))
def gFrom (i : Nat) : Gm := fun out ρ => match ρ[i]? with
  | some (.fz (.lst ds)) => .need (out.length + ds.length ≤ 100000) (.ret (.next (out ++ ds) ρ))
  | some (.os ds) => .need (out.length + ds.length ≤ 100000) (.ret (.next (out ++ ds) ρ))
  | _ => .bad
def forG (f : D → Gm) : List D → Gm
  | [], out, ρ => .ret (.next out ρ)
  | d :: ds, out, ρ => (f d out ρ).bind fun fl => match fl with
    | .next out ρ' => forG f ds out ρ'
    | .cont out ρ' => forG f ds out ρ'
    | .brk out ρ' => .ret (.next out ρ')
    | .ret out => .ret (.ret out)
def gFor (mi : Im) (g : Tg) (body : Gm) : Gm := fun out ρ => ((mi ρ).noex).bind fun ds => forG (fun d out ρ => (g d ρ).bind (body out)) ds out ρ
section
variable {X : Cx} {W : Wd} {Wx : WX} {e tg : Expr} {ma : Em} {st : Stmt} {sts body : List Stmt} {m m1 m2 : Gm} {s : Sm} {pos yp : Pos} {mi : Im} {g : TG} {gm : Tg} {i : Nat}
theorem dgs_nil : DGs X W [] gNilM := GSs_imp gss_nil fun D ys σ H ⟨F, ρ, fp, out, ok, r, w⟩ => w F H σ fp ys ok.refl ok sub_refl r
theorem dgs_cons (h1 : DG X W st m1) (h2 : DGs X W sts m2) : DGs X W (st :: sts) (gSeq m1 m2) := GSs_imp (gss_cons h1 h2) fun D ys σ H ⟨F, ρ, fp, out, ok, r, w⟩ => by
  refine ⟨F, ρ, fp, out, ok, r, M.wp_mono (M.wp_bind.mp w) (fun fl wf => ?_) (fun c d h => h)⟩
  cases fl with
  | next out' ρ' => exact fun F' H' σ' fp' ys' s ok' sub r' => ⟨F', ρ', fp', out', ok', r', M.wp_mono wf (fun fl h => h.step s sub) (fun c d h => h)⟩
  | ret l => exact wf
  | brk out' ρ' => exact wf
  | cont out' ρ' => exact wf
theorem dg_lift (h : DS X W W0 st s) : DG X W st (gLift s) := GS_imp (gs_ps h) fun D ys σ H ⟨F, ρ, fp, out, ok, r, w⟩ => by
  refine ⟨F, ρ, fp, ok, M.wp_mono (M.wp_bind.mp w) (fun fl wf => ?_) (fun c d h => h)⟩
  cases fl with
  | next ρ' => exact fun F' H' σ' fp' s ok' sub => wf F' H' σ' fp' ys s ok' sub (Reps.ex s.ff r)
  | brk ρ' => exact fun F' H' σ' fp' s ok' sub => wf F' H' σ' fp' ys s ok' sub (Reps.ex s.ff r)
  | cont ρ' => exact fun F' H' σ' fp' s ok' sub => wf F' H' σ' fp' ys s ok' sub (Reps.ex s.ff r)
  | ret l =>
    cases l with
    | fz d =>
      cases d with
      | non =>
        intro F' H' v f s hr own nd sub
        rw [show v = .non from hr.1]
        exact wf F' H' ys s (Reps.ex s.ff r)
      | _ => exact wf.elim
    | _ => exact wf.elim
  | exn ρ' c d => exact wf.elim
theorem dg_yield (h : DE X W W0 e ma) (h1 : X.env.scope.isCoroutine = false := by rfl) (h2 : interactive X.env = false := by rfl) : DG X W (.Expr (.Yield (some e) yp) pos) (gYield ma) := GS_imp (gs_yield h h1 h2) fun D ys σ H ⟨F, ρ, fp, out, ok, r, w⟩ => by
  obtain ⟨hl, w⟩ := w
  have w := M.wp_noex.mp (M.wp_bind.mp w)
  refine ⟨Nat.lt_of_lt_of_le (by rw [Reps.length r]; exact hl) (by rw [sizeLine_eq]; decide : 100000 ≤ sizeLine), F, ρ, fp, ok, M.wp_mono w (fun x wx F1 H1 v f1 r1 => ?_) (fun c d h => h.elim)⟩
  obtain ⟨d, hd, wx⟩ := M.wp_opt.mp wx
  obtain ⟨F2, s2, rv⟩ := r1.frz hd
  exact wx F2 H1 σ fp _ s2.any (ok.step s2) sub_refl (Reps.append (Reps.ex s2.ff r) ⟨v, [], rfl, rv, rfl⟩)
theorem dg_from (h : PE X e (tVar i)) (hA : X.A.handled = none) (h2 : interactive X.env = false := by rfl) : DG X W (.Expr (.YieldFrom e yp) pos) (gFrom i) := GS_imp (gs_yieldFrom (yf_list h) hA h2) fun D ys σ H ⟨F, ρ, fp, out, ok, r, w⟩ => by
  have sz : ∀ {a b : Nat}, a + b ≤ 100000 → a + b ≤ sizeLine := fun h => Nat.le_trans h (by rw [sizeLine_eq]; decide)
  unfold gFrom at w
  cases q : ρ[i]? with
  | none => rw [q] at w; exact w.elim
  | some l =>
    obtain ⟨x, f, hx, hr, hf⟩ := ok.get q
    rw [q] at w
    cases l with
    | fz d =>
      cases d with
      | lst ds =>
        cases x with
        | none => exact hr.elim
        | some v =>
          obtain ⟨⟨p, vs, rfl, h1, h2⟩, _⟩ := hr
          exact ⟨.ref p, hx, p, vs, rfl, ok.sub _ _ h1, sz (by rw [Reps.length r, Reps.length h2]; exact w.1), w.2 F H σ fp _ ok.refl ok sub_refl (Reps.append r h2)⟩
      | _ => exact w.elim
    | os ds =>
      cases x with
      | none => exact hr.elim
      | some v =>
        obtain ⟨p, vs, rfl, h1, h2, _⟩ := hr
        exact ⟨.ref p, hx, p, vs, rfl, h1, sz (by rw [Reps.length r, Reps.length h2]; exact w.1), w.2 F H σ fp _ ok.refl ok sub_refl (Reps.append r h2)⟩
    | _ => exact w.elim
theorem dg_for (hp : PassesOwn (model X.prog X.w) X.A X.env X.xe) (hc : X.calm = true) (hi : DI X W W0 tg e mi) (hg : PG X tg g) (tm : TgM X.K W g gm) (hb : DGs X W body m) (hs : ∀ x, foldedSetIterable e X.env x = pure x := by intro _; rfl) : DG X W (.For tg e body [] pos) (gFor mi gm m) :=
  GS_imp (gs_for hp hc hi hg hb hs) fun En ys σ H ⟨F, ρ, fp, out, ok, r, w⟩ => by
  refine ⟨F, ρ, fp, ok, M.wp_mono (M.wp_noex.mp (M.wp_bind.mp w)) (fun ds wd F1 H1 J s1 it => ?_) (fun c d h => h.elim)⟩
  let Pw : Nat → List V → L2.St → Hp → Prop := fun i ys' σ' H' => i ≤ ds.length ∧ ∃ F' ρ' fp' out', Ex F1 F' ∧ Step W fp F H F' H' ∧ Ok X.K W F' H' ρ' σ' fp' ∧ (∀ q ∈ fp', q ∈ fp ∨ H q = none) ∧ Reps X.K W F' out' ys' ∧ (forG (fun d out ρ => (gm d ρ).bind (m out)) (ds.drop i) out' ρ').wp (glP X.K W F H fp En) no2
  refine ⟨fun i k ys' σ' H' => k = ds.length - i ∧ Pw i ys' σ' H', ⟨ds.length, by simp, Nat.zero_le _, F1, ρ, fp, out, Ex.refl _, s1.any, ok.step s1, sub_refl, Reps.ex s1.ff r, wd⟩, ?_⟩
  rintro i k ys' σ' H' ⟨rfl, hi, F', ρ', fp', out', e1, s2, ok', sub, ro, w⟩
  by_cases hlt : i < ds.length
  · refine Or.inr ⟨it.go e1 ok'.sub hlt, Pw (i + 1), fun ys2 σ2 H2 p => ⟨ds.length - (i + 1), by omega, rfl, p⟩, fun x H2 y => ?_⟩
    obtain ⟨F2, s3, rx⟩ := it.yld e1 ok'.sub ok'.fa ok'.st (List.getElem?_eq_getElem hlt) y
    rw [List.drop_eq_getElem_cons hlt] at w
    have okx := ok'.step s3
    have w := M.wp_bind.mp (M.wp_bind.mp w)
    refine tm okx rx (M.wp_mono w (fun ρ2 w2 σ2 fp2 ok2 sub2 => ?_) (fun c d h => h))
    refine ⟨F2, ρ2, fp2, out', ok2, Reps.ex s3.ff ro, M.wp_mono w2 (fun fl wf => ?_) (fun c d h => h)⟩
    have s23 : Step W fp F H F2 H2 := s2.trans0 s3
    have subx : ∀ q ∈ fp2, q ∈ fp ∨ H q = none := fun q hq => by
      rcases sub2 q hq with z | z
      · exact sub q z
      · exact Or.inr (s23.free z)
    have again : ∀ out3 ρ3, (forG (fun d out ρ => (gm d ρ).bind (m out)) (ds.drop (i + 1)) out3 ρ3).wp (glP X.K W F H fp En) no2 → ggP X.K W F2 H2 fp2 (Pw (i + 1)) out3 ρ3 := fun out3 ρ3 w3 F4 H4 σ4 fp4 ys4 s4 ok4 sub4 r4 =>
      ⟨hlt, F4, ρ3, fp4, out3, e1.trans (s3.ff.trans s4.ff), s23.trans s4 subx, ok4, fun q hq => (sub4 q hq).elim (subx q) (fun z => Or.inr (s23.free z)), r4, w3⟩
    cases fl with
    | next out3 ρ3 => exact again out3 ρ3 wf
    | cont out3 ρ3 => exact again out3 ρ3 wf
    | brk out3 ρ3 => exact ggP.step wf s23 subx
    | ret out3 => exact fun F2 H2 ys s2 r => wf F2 H2 ys (s23.trans s2 subx) r
  · have e : i = ds.length := by omega
    subst e
    rw [List.drop_length] at w
    exact Or.inl ⟨it.stop e1 ok'.sub rfl, w F' H' σ' fp' ys' s2 ok' sub ro⟩
end
/-! a generator's promise -/
abbrev Fg := List D → M (List D)
def spG (K : PySem.W.Frag) (W : Wd) (n : Nat) (f : Fg) : SpG := fun vs H Q _ => ∃ F ds, Ex F H ∧ F W.a = none ∧ StOk W H ∧ ds.length = n ∧ Reps K W F ds vs ∧
  (f ds).wp (fun out => ∀ F' H' ys, Step W [] F H F' H' → Reps K W F' out ys → Q ys H') no2
def runG (m : Gm) (n : Nat) (ds : List D) : M (List D) := ((m [] (ds.map .fz ++ List.replicate (n - ds.length) .un)).noex).bind fun fl => match fl with
  | .next out _ => .ret out
  | .ret out => .ret out
  | _ => .bad
section
variable {P : Program} {w : World} {K : PySem.W.Frag} {mg : Str → Option Value} {base : Heap} {W : Wd}
theorem gen_den {x qual : Str} {st : Stmt} {f : Addr} {fd : FuncData} {N ps : List Str} {k n : Nat} {m : Gm} {fs : Fg} (T : Fun K x qual st f fd) (S : GScope N ps (defScope st)) (hn : ps.length = n)
    (hb : ∀ (cdv : Value) (A : Around) (outer : List Env) (s : Shared) (H : Hp) (E : XK) (pn : List (Addr × Obj)), Room k (A.deeper (envOfC qual (defScope st) s.heap.objs.size f cdv)) → DGs (gcxOf P w K mg base N qual (defScope st) f cdv A outer s H E pn) W (defBody st) m)
    (hr : ∀ ds : List D, ds.length = n → Ref (runG m N.length ds) (fs ds)) : GFn P w K mg base (k + 1) f fd ps (spG K W n fs) := by
  obtain ⟨oc, od, kV, doc, pm, an, cdv, ct, osl, efd, lk, hcd⟩ := T.ex
  rw [efd] at lk ⊢
  refine gfn_of lk hcd S (fun vs H Q E h => ?_) (fun A outer s H vs Q E pn room h => ?_)
  · obtain ⟨F, ds, _, _, _, hl, hr, _⟩ := h
    rw [Reps.length hr, hl, hn]
  · obtain ⟨F, ds, ex, fa, st', hl, hv, wf⟩ := h
    have w2 := M.wp_noex.mp (M.wp_bind.mp (hr ds hl _ _ wf))
    have h0 : RepE K W F H (ds.map .fz ++ List.replicate (N.length - ds.length) .un) (L2.start N vs) [] := by
      have := start_rep (K := K) (W := W) (F := F) (H := H) (N.length - vs.length) hv
      rw [Reps.length hv] at this
      unfold L2.start
      rw [Reps.length hv]
      exact this
    refine ⟨_, hb cdv A outer s H E pn room, F, ds.map LV.fz ++ List.replicate (N.length - ds.length) LV.un, [], [], ⟨ex, fa, st', fun _ h => absurd h List.not_mem_nil, List.nodup_nil, h0⟩, rfl, ?_⟩
    refine M.wp_mono w2 (fun fl k => ?_) (fun c d h => h)
    cases fl with
    | next out ρ => exact fun F' H' σ' fp' ys s ok sub r => k F' H' ys s r
    | brk out ρ => exact k.elim
    | cont out ρ => exact k.elim
    | ret out => exact fun F' H' ys s r => ⟨rfl, k F' H' ys s r⟩
end
section
variable {X : Cx} {W : Wd} {Wx : WX} {x m nm : Str} {p pos apos pos' : Pos} {e o : Expr} {es : List Expr} {ma : Ema} {mo : Em} {k n : Nat} {f C : Addr} {fd : FuncData} {ps : List Str} {fs : Fg}
/-- list(o.m()) -/
def mListG0 (c n : Nat) (f : Fg) (mo : Em) : Em := fun ρ => (mo ρ).bind fun x => match x with
  | .fz (.obj c' fs) => .need (c' = c ∧ n = 1) (((f [.obj c' fs]).noex).bind fun out => .ret (.os out))
  | _ => .bad
theorem listG_res {K : PySem.W.Frag} {F H F' H' : Hp} {out : List D} {ys : List V} {q : Addr} (s : Step W [] F H F' H') (r : Reps K W F' out ys) (hq : H' q = none) : Res K W F H F' (upd H' q (.lst ys)) (.os out) (.ref q) [q] :=
  (Res.lst0 s.sub s.fa s.st hq r).pre s
theorem de_listG0 {c : Nat} {pl : Sem Bool} (ho : DE X W Wx o mo) (cl : Cls X.K (W.cl c)) (hm : Meth X.K (W.cl c) m f) (F : GFn X.prog X.w X.K X.mg X.base k f fd ps (spG X.K W n fs)) (hr : Room k X.A) (hr3 : Room (k + 3) X.A) (hb : Binds X.K fd ps []) (hn : (W.nm c).contains m = false)
    (hg : L2.Gl X "list") (hmg : X.mg "list" = none)
    (ht : eval (.Call (.Attribute o m apos) [] [] pos') X.env = (do
      let ov ← eval o X.env
      standAt apos.atName
      let (f, first) ← holding [ov] (getMethod ov m pl)
      callWith pos' f first (backTo pos' (starEach [] X.env)) (backToKw pos' (keywordEach [] X.env))) := by rfl)
    (hst : starEach [.Call (.Attribute o m apos) [] [] pos'] X.env = (false, eval (.Call (.Attribute o m apos) [] [] pos') X.env) :: starEach [] X.env := by rfl) :
    DE X W Wx (.Call (.Name "list" p) [.Call (.Attribute o m apos) [] [] pos'] [] pos) (mListG0 c n fs mo) :=
  PE_imp (pe_listG (E := E0) (pgen_meth0 ho cl hm F hr hb .nil ht) passL (fun _ _ _ h => h.elim) hr3 hg hmg (by decide +kernel) (by decide) (by decide) hst) fun σ H Q ⟨F, ρ, fp, ok, w⟩ => by
  refine ⟨F, ρ, fp, ok, M.wp_mono (M.wp_bind.mp w) (fun x wx F1 H1 v f1 r1 => ?_) (fun c d h => h)⟩
  cases x with
  | fz d =>
    cases d with
    | obj c' gs =>
      obtain ⟨⟨rfl, rfl⟩, wx⟩ := wx
      have r := r1.rep.1
      obtain ⟨a, dx, es, rfl, h1, h2, h3⟩ := r1.rep.1
      refine ⟨a, dx, es, rfl, r1.step.sub _ _ h1, lookup_map h2 hn, F1, [.obj c' gs], r1.step.sub, r1.step.fa, r1.step.st, rfl, ⟨_, _, rfl, r, rfl⟩, M.wp_mono (M.wp_noex.mp (M.wp_bind.mp wx)) (fun out k F' H' ys s ry q hq => ?_) (fun c d h => h)⟩
      exact k F' _ _ [q] (listG_res (r1.step.trans0 s) ry hq)
    | _ => exact wx.elim
  | _ => exact wx.elim
/-- list(g(..)) -/
def mListG (n : Nat) (f : Fg) (ma : Ema) : Em := fun ρ => (ma ρ).bind fun xs => M.opt (toDs xs) fun ds => .need (ds.length = n) (((f ds).noex).bind fun out => .ret (.os out))
theorem de_listG {px : Pos} (F : GFn X.prog X.w X.K X.mg X.base k f fd ps (spG X.K W n fs)) (hr : Room k X.A) (hr3 : Room (k + 3) X.A) (hgx : L2.Gl X x) (hx : X.mg x = some (.ref f)) (hk : PySem.W.keepIn X.K (.ref f) = true) (hb : Binds X.K fd ps []) (ha : DA X W Wx (e :: es) ma) (hg : L2.Gl X "list") (hmg : X.mg "list" = none)
    (hdb : (x == ("__debug__" : Str)) = false := by decide) (he : starEach (e :: es) X.env = (false, eval e X.env) :: starEach es X.env := by rfl) (hpl : (backTo pos' (starEach es X.env)).any (·.1) = false := by rfl)
    (hst : starEach [.Call (.Name x px) (e :: es) [] pos'] X.env = (false, eval (.Call (.Name x px) (e :: es) [] pos') X.env) :: starEach [] X.env := by rfl) :
    DE X W Wx (.Call (.Name "list" p) [.Call (.Name x px) (e :: es) [] pos'] [] pos) (mListG n fs ma) :=
  PE_imp (pe_listG (E := E0) (pgen_call F hr hgx hx hk hb .nil ha hdb he hpl) passL (fun _ _ _ h => h.elim) hr3 hg hmg (by decide +kernel) (by decide) (by decide) hst) fun σ H Q ⟨F, ρ, fp, ok, w⟩ => by
  refine ⟨F, ρ, fp, ok, M.wp_mono (M.wp_bind.mp w) (fun xs wx F1 H1 vs f1 r1 => ?_) (fun c d h => h)⟩
  obtain ⟨ds, hd, hl, wx⟩ := M.wp_opt.mp wx
  obtain ⟨F2, s2, hv⟩ := r1.frz hd
  refine ⟨F2, ds, s2.sub, s2.fa, s2.st, hl, by rw [List.append_nil]; exact hv, M.wp_mono (M.wp_noex.mp (M.wp_bind.mp wx)) (fun out k F' H' ys s ry q hq => ?_) (fun c d h => h)⟩
  exact k F' _ _ [q] (listG_res (s2.trans0 s) ry hq)
end
end Dn
end

section
set_option Elab.async false
set_option linter.all false
set_option maxRecDepth 100000
set_option maxHeartbeats 1000000
namespace Dn
open PySem PySem.Spec PyProof.Rows L2 Evl GrO
/-! ## what a law's top holds -/
structure DefT (K : PySem.W.Frag) (mg : Str → Option Value) (x : Str) (st : Stmt) (ps : List Str) where
  f : Addr
  fd : FuncData
  F : Fun K x x st f fd
  B : Binds K fd ps []
  g : mg x = some (.ref f)
/-- a method: its place in the class at C -/
structure MetT (K : PySem.W.Frag) (C : Addr) (m q : Str) (st : Stmt) (ps : List Str) where
  f : Addr
  fd : FuncData
  F : Fun K m q st f fd
  B : Binds K fd ps []
  at_ : PySem.W.findIn K (.ref C) m = some (some (.ref f))
  fn : PySem.W.isFn K (.ref f) = true
  fi : PySem.W.fnIn K f = true
theorem MetT.M {K : PySem.W.Frag} {C : Addr} {m q : Str} {st : Stmt} {ps : List Str} (T : MetT K C m q st ps) : Meth K C m T.f := ⟨T.at_, T.fn, T.F.kp⟩
/-- a making without defaults -/
structure In0T (K : PySem.W.Frag) (C : Addr) (q : Str) (st : Stmt) (ps : List Str) where
  f : Addr
  fd : FuncData
  F : Fun K "__init__" q st f fd
  M : Mk K C f
  B : Binds K fd ps []
/-- a making with one default, the empty tuple at tn -/
structure IniT (K : PySem.W.Frag) (C : Addr) (q : Str) (st : Stmt) (ps : List Str) where
  tn : Addr
  f : Addr
  fd : FuncData
  F : FunD K "__init__" q (defArgs st) (defBody st) (defScope st) [.ref tn] [] f fd
  M : Mk K C f
  B : Binds K fd ps []
  B1 : Binds K fd ps [.ref tn]
  nt : ∀ H, SqT K H tn []
/-! ## own errors by number: 100 is the base of all -/
def hbE (h : Nat) : Nat → Bool := fun c => h == 100 || c == h
def ktE (es : Nat → Bool) (h : Nat) : Nat → Option Bool := fun c => if es c = true then some (hbE h c) else none
def ktV (es : Nat → Bool) : Nat → Option Bool := fun c => if es c = true then some true else none
theorem ktE_of {es : Nat → Bool} {h c : Nat} {b : Bool} (e : ktE es h c = some b) : es c = true ∧ hbE h c = b := by
  unfold ktE at e
  split at e
  · rename_i q
    cases e
    exact ⟨q, rfl⟩
  · cases e
theorem ktV_of {es : Nat → Bool} {c : Nat} {b : Bool} (e : ktV es c = some b) : es c = true ∧ true = b := by
  unfold ktV at e
  split at e
  · rename_i q
    cases e
    exact ⟨q, rfl⟩
  · cases e
/-! ## no promise; a statement that is never run -/
section
variable {P : Program} {w : World} {K : PySem.W.Frag} {mg : Str → Option Value} {base : Heap} {W : Wd}
theorem fn_bad {f : Addr} {fd : FuncData} {ps : List Str} {k n : Nat} : FnOk P w K mg base (L2.CX P w) k f fd ps (spM K W n fun _ => .bad) :=
  ⟨fun vs H Q E h => (let ⟨_, _, _, _, _, _, _, h⟩ := h; h.elim), fun A outer s H args us vs Q E _ _ _ _ h => (let ⟨_, _, _, _, _, _, _, h⟩ := h; h.elim)⟩
theorem fn_imp {f : Addr} {fd : FuncData} {ps : List Str} {k : Nat} {sp sp' : Sp} (h : FnOk P w K mg base (L2.CX P w) k f fd ps sp) (i : ∀ vs H Q E, sp' vs H Q E → sp vs H Q E) : FnOk P w K mg base (L2.CX P w) k f fd ps sp' :=
  ⟨fun vs H Q E q => h.len vs H Q E (i _ _ _ _ q), fun A outer s H args us vs Q E a b c d q => h.run A outer s H args us vs Q E a b c d (i _ _ _ _ q)⟩
end
theorem dss_never {X : Cx} {W : Wd} {Wx : WX} {sts : List Stmt} : DSs X W Wx sts (fun _ => .bad) := PSs_imp pss_never fun D σ H ⟨F, ρ, fp, ok, w⟩ => w.elim
/-! ## the draws -/
/-- the drawing state at p -/
def DrS (p : Addr) (H : Hp) : Prop := ∃ (q : Addr) (ns : List Int) (i : Nat) (b c d : Int), H p = some (.lst [.ref q, .int (i : Int), .int b, .int c, .int d]) ∧ H q = some (.lst (ns.map V.int)) ∧ ns.length ≤ 100
def Fr (p : Addr) (H H' : Hp) : Prop := DrS p H' ∧ (∀ a o, a ≠ p → H a = some o → H' a = some o) ∧ ∀ (q : Addr) (r : List V), H p = some (.lst (.ref q :: r)) → ∃ r', H' p = some (.lst (.ref q :: r'))
theorem DrS.ne {p q : Addr} {H : Hp} {ns : List Int} {i b c d : Int} (h : H p = some (.lst [.ref q, .int i, .int b, .int c, .int d])) (hq : H q = some (.lst (ns.map V.int))) : q ≠ p := fun e => by
  rw [e, h] at hq
  have e2 := Option.some.inj hq
  injection e2 with e3
  cases ns with
  | nil => cases e3
  | cons n r =>
    rw [List.map_cons] at e3
    injection e3 with e4 _
    cases e4
def At (p : Addr) (o : HO) (H0 H : Hp) : Prop := H p = some o ∧ ∀ a o', a ≠ p → H0 a = some o' → H a = some o'
theorem At.ex {p : Addr} {o : HO} {H0 H H1 : Hp} (h : At p o H0 H) (e : Ex H H1) : At p o H0 H1 := ⟨e _ _ h.1, fun a o' n k => e _ _ (h.2 a o' n k)⟩
theorem At.put {p : Addr} {o o2 : HO} {H0 H H1 : Hp} (h : At p o H0 H) (e : Ex H H1) : At p o2 H0 (upd H1 p o2) := ⟨upd_same, fun a o' n k => by rw [upd_ne n]; exact e _ _ (h.2 a o' n k)⟩
section
variable {K : PySem.W.Frag} {σ : L2.St} {H H0 : Hp} {te : TE} {tz : TS} {D : Ends} {p : Addr} {xs : List V} {v : V} {x : V}
theorem q_st {i : Nat} {n : Int} (j : Nat) (ys : List V) (hA : At p (.lst xs) H0 H) (hs : σ[i]? = some (some (.ref p))) (h : Ev te σ H v) (hj : Nat.blt j xs.length = true) (en : n = (j : Int)) (ey : xs.set j v = ys) (k : ∀ H1, At p (.lst ys) H0 H1 → H1 p = some (.lst ys) → tz D σ H1) :
    tSeq (tAsg te (gSub (tVar i) (tC (.int n)) rSetL)) tz D σ H := by
  subst en
  subst ey
  exact q_setL hA.1 h (ev_var hs) ev_c (Nat.le_of_ble_eq_true hj) fun H1 e1 => k _ (hA.put e1) upd_same
theorem s_st {i : Nat} {n : Int} (j : Nat) (ys : List V) (hA : At p (.lst xs) H0 H) (hs : σ[i]? = some (some (.ref p))) (h : Ev te σ H v) (hj : Nat.blt j xs.length = true) (en : n = (j : Int)) (ey : xs.set j v = ys) (k : ∀ H1, At p (.lst ys) H0 H1 → H1 p = some (.lst ys) → D.nx σ H1) :
    tAsg te (gSub (tVar i) (tC (.int n)) rSetL) D σ H := by
  subst en
  subst ey
  exact s_setL hA.1 h (ev_var hs) ev_c (Nat.le_of_ble_eq_true hj) fun H1 e1 => k _ (hA.put e1) upd_same
end
theorem big_div {b m : Int} (h : 1 ≤ m) (k : m < 1073741824 ∨ m = 10 ^ 30) : CDivW b m := by
  rcases k with k | k
  · exact wide_div (b := 30) (by omega) (by have : (2 : Nat) ^ 30 = 1073741824 := by decide
                                            omega) (by decide) (by decide)
  · subst k
    exact wide_div (b := 100) (by decide) (by decide +kernel) (by decide) (by decide)
def sp_l_draw : Sp := fun vs H Q _ => ∃ (p : Addr) (m : Int), vs = [.ref p, .int m] ∧ DrS p H ∧ 1 ≤ m ∧ (m < 1073741824 ∨ m = 10 ^ 30) ∧ ∀ (r : Nat) (H' : Hp), (r : Int) < m → Fr p H H' → Q (.int (r : Int)) H'
theorem draw_mod {x m : Int} (h : 1 ≤ m) : ∃ r : Nat, x.fmod m = (r : Int) ∧ (r : Int) < m := by
  refine ⟨(x.fmod m).toNat, ?_, ?_⟩
  · have := Int.fmod_nonneg_of_pos x (show 0 < m by omega)
    omega
  · have h1 := Int.fmod_nonneg_of_pos x (show 0 < m by omega)
    have h2 := Int.fmod_lt_of_pos x (show 0 < m by omega)
    omega
def DrawOk (m : Int) : Prop := 1 ≤ m ∧ (m < 1073741824 ∨ m = 10 ^ 30)
def Drawn (m : Int) (d : D) : Prop := ∃ r : Nat, d = .int r ∧ (r : Int) < m
/-- a draw: any number from 0 to m - 1 -/
def fs_draw : Fs := fun ds => match ds with
  | [.st, .int m] => .need (DrawOk m) (.pick (Drawn m) fun d => .ret (.fz d))
  | _ => .bad
theorem draw_form {ds : List D} {P : LV → Prop} {E : Nat → D → Prop} (h : (fs_draw ds).wp P E) : ∃ m, ds = [.st, .int m] ∧ DrawOk m ∧ ∀ d, Drawn m d → P (.fz d) := by
  unfold fs_draw at h
  split at h
  · exact ⟨_, rfl, h.1, h.2⟩
  · exact h.elim
theorem draw_sp {K : PySem.W.Frag} {W : Wd} {vs : List V} {H : Hp} {Q : VK} {E : XK} (h : spM K W 2 fs_draw vs H Q E) : sp_l_draw vs H Q E := by
  obtain ⟨F, ds, ex, fa, st, hl, hv, wf⟩ := h
  obtain ⟨m, rfl, hm, k⟩ := draw_form wf
  obtain ⟨v, r, rfl, r1, v2, r2, rfl, r3, rfl⟩ := hv
  rw [show v = .ref W.a from r1, show v2 = .int m from r3]
  obtain ⟨ns, i, b, c, d, e1, e2, e3⟩ := st
  refine ⟨W.a, m, rfl, ⟨W.q, ns, i, b, c, d, e1, e2, e3⟩, hm.1, hm.2, fun r H' hr fr => ?_⟩
  obtain ⟨⟨q', ns', i', b', c', d', g1, g2, g3⟩, f2, f3⟩ := fr
  obtain ⟨r', e'⟩ := f3 _ _ e1
  have eq : q' = W.q := by
    rw [g1] at e'
    have := Option.some.inj e'
    injection this with e2
    injection e2 with e3 _
    injection e3
  subst eq
  have sub : Ex F H' := fun x o e => f2 x o (fun z => by rw [z, fa] at e; cases e) (ex _ _ e)
  have s : Step W [] F H F H' := ⟨Ex.refl F, fun _ h => Or.inl h, fun x o e _ na => f2 x o na e, fun x o e => by
    by_cases n : x = W.a
    · rw [n]; exact ⟨_, g1⟩
    · exact ⟨o, f2 x o n e⟩, sub, fa, ns', i', b', c', d', g1, g2, g3⟩
  exact k (.int r) ⟨r, rfl, hr⟩ F H' (.int r) [] ⟨s, ⟨rfl, rfl⟩, fun _ h => absurd h List.not_mem_nil, fun _ => ⟨List.nodup_nil, fun _ h => absurd h List.not_mem_nil⟩⟩ rfl
end Dn
end

section
set_option Elab.async false
set_option linter.all false
set_option maxRecDepth 100000
set_option maxHeartbeats 1000000
namespace Dn
open PySem PySem.Spec PyProof.Rows L2 Evl GrO
/-! ## readings without a heap -/
section
variable {α β : Type} {P : α → Prop} {E : Nat → D → Prop}
theorem wp_ret {a : α} : (M.ret a).wp P E = P a := rfl
theorem wp_need {p : Prop} {m : M α} : (M.need p m).wp P E = (p ∧ m.wp P E) := rfl
theorem wp_pick {S : D → Prop} {k : D → M α} : (M.pick S k).wp P E = (∀ d, S d → (k d).wp P E) := rfl
theorem wp_exc {c : Nat} {d : D} : (M.exc c d : M α).wp P E = E c d := rfl
theorem wp_bad : (M.bad : M α).wp P E = False := rfl
theorem wp_bindE {P : β → Prop} {f : α → M β} {m : M α} : (m.bind f).wp P E = m.wp (fun a => (f a).wp P E) E := propext M.wp_bind
theorem wp_trE {P : Fl → Prop} {ρ : List LV} {f : α → M Fl} {m : M α} : (m.tr ρ f).wp P E = m.wp (fun a => (f a).wp P E) (fun c d => P (.exn ρ c d)) := propext M.wp_tr
theorem wp_noexE {m : M α} : (m.noex).wp P E = m.wp P (fun _ _ => False) := propext M.wp_noex
theorem needI {p : Prop} {m : M α} (h : p) (q : m.wp P E) : (M.need p m).wp P E := ⟨h, q⟩
theorem needE {p : Prop} {m : M α} (h : (M.need p m).wp P E) : p ∧ m.wp P E := h
theorem badE {C : Prop} (h : (M.bad : M α).wp P E) : C := h.elim
theorem retE {a : α} (h : (M.ret a).wp P E) : P a := h
theorem opt_some {a : α} {k : α → M β} : M.opt (some a) k = k a := rfl
theorem opt_none {k : α → M β} : M.opt none k = .bad := rfl
theorem fEq_i {neg : Bool} {i j : Int} : fEq neg (.fz (.int i)) (.fz (.int j)) = .ret (.fz (.bl (eqK neg (decide (i = j))))) := rfl
theorem fEq_s {neg : Bool} {i j : Str} : fEq neg (.fz (.str i)) (.fz (.str j)) = .ret (.fz (.bl (eqK neg (decide (i = j))))) := rfl
theorem fEq_b {neg : Bool} {i j : Bool} : fEq neg (.fz (.bl i)) (.fz (.bl j)) = .ret (.fz (.bl (eqK neg (decide (i = j))))) := rfl
theorem toDs_nil : toDs [] = some [] := rfl
theorem toDs_cons {l : LV} {ls : List LV} : toDs (l :: ls) = match toD l, toDs ls with
    | some d, some ds => some (d :: ds)
    | _, _ => none := rfl
theorem toD_fz {d : D} : toD (.fz d) = some d := rfl
theorem toD_os {ds : List D} : toD (.os ds) = some (.lst ds) := rfl
theorem toD_ol {ls : List LV} : toD (.ol ls) = (toDs ls).map .lst := rfl
theorem toD_ok {ls : List (Key × D)} : toD (.ok ls) = some (.dK ls) := rfl
end
/-! loops -/
theorem wp_forM {f : D → Sm} {P : Fl → Prop} {E : Nat → D → Prop} {ds : List D} {ρ : List LV} (I : Nat → List LV → Prop) (h0 : I 0 ρ) (he : ∀ ρ, I ds.length ρ → P (.next ρ))
    (hs : ∀ i d ρ, ds[i]? = some d → I i ρ → (f d ρ).wp (fun fl => match fl with
      | .next ρ' => I (i + 1) ρ'
      | .cont ρ' => I (i + 1) ρ'
      | .brk ρ' => P (.next ρ')
      | .ret l => P (.ret l)
      | .exn ρ' c d => P (.exn ρ' c d)) E) : (forM f ds ρ).wp P E := by
  have go : ∀ (n i : Nat) (ρ : List LV), n = ds.length - i → i ≤ ds.length → I i ρ → (forM f (ds.drop i) ρ).wp P E := by
    intro n
    induction n with
    | zero =>
      intro i ρ hn hi h
      have e : i = ds.length := by omega
      subst e
      rw [List.drop_length]
      exact he ρ h
    | succ n ih =>
      intro i ρ hn hi h
      have hlt : i < ds.length := by omega
      rw [List.drop_eq_getElem_cons hlt]
      unfold forM
      rw [wp_bindE]
      refine M.wp_mono (hs i _ ρ (List.getElem?_eq_getElem hlt) h) (fun fl k => ?_) (fun c d h => h)
      cases fl with
      | next ρ' => exact ih (i + 1) ρ' (by omega) hlt k
      | cont ρ' => exact ih (i + 1) ρ' (by omega) hlt k
      | brk ρ' => exact k
      | ret l => exact k
      | exn ρ' c d => exact k
  have := go ds.length 0 ρ (by omega) (Nat.zero_le _) h0
  rw [List.drop_zero] at this
  exact this
theorem wp_lcM {G : D → M (Option D)} {P : List D → Prop} {E : Nat → D → Prop} {ds : List D} (I : Nat → List D → Prop) (h0 : I 0 []) (he : ∀ out, I ds.length out → P out)
    (hs : ∀ i d out, ds[i]? = some d → I i out → (G d).wp (fun o => match o with
      | some y => out.length < 100000 ∧ I (i + 1) (out ++ [y])
      | none => I (i + 1) out) E) : (lcM G ds []).wp P E := by
  have go : ∀ (n i : Nat) (out : List D), n = ds.length - i → i ≤ ds.length → I i out → (lcM G (ds.drop i) out).wp P E := by
    intro n
    induction n with
    | zero =>
      intro i out hn hi h
      have e : i = ds.length := by omega
      subst e
      rw [List.drop_length]
      exact he out h
    | succ n ih =>
      intro i out hn hi h
      have hlt : i < ds.length := by omega
      rw [List.drop_eq_getElem_cons hlt]
      unfold lcM
      rw [wp_bindE]
      refine M.wp_mono (hs i _ out (List.getElem?_eq_getElem hlt) h) (fun o k => ?_) (fun c d h => h)
      cases o with
      | some y => exact ⟨k.1, ih (i + 1) _ (by omega) hlt k.2⟩
      | none => exact ih (i + 1) _ (by omega) hlt k
  have := go ds.length 0 [] (by omega) (Nat.zero_le _) h0
  rw [List.drop_zero] at this
  exact this
/-- a comprehension without a test, its items told -/
theorem wp_lcMap {G : D → M (Option D)} {P : List D → Prop} {E : Nat → D → Prop} {ds : List D} (g : D → D) (hl : ds.length ≤ 100000) (hg : ∀ d ∈ ds, ∀ Q : Option D → Prop, Q (some (g d)) → (G d).wp Q E) (h : P (ds.map g)) : (lcM G ds []).wp P E := by
  refine wp_lcM (fun i out => out = (ds.take i).map g) rfl (fun out e => by rw [e, List.take_length]; exact h) (fun i d out hd e => ?_)
  have hlt := (List.getElem?_eq_some_iff.mp hd).1
  refine hg d (List.mem_of_getElem? hd) _ ⟨?_, ?_⟩
  · rw [e, List.length_map, List.length_take]
    omega
  · rw [e, List.take_add_one, hd, List.map_append]
    rfl
/-- a comprehension with a test -/
theorem wp_lcFm {G : D → M (Option D)} {P : List D → Prop} {E : Nat → D → Prop} {ds : List D} (g : D → Option D) (hl : ds.length ≤ 100000) (hg : ∀ d ∈ ds, ∀ Q : Option D → Prop, Q (g d) → (G d).wp Q E) (h : P (ds.filterMap g)) : (lcM G ds []).wp P E := by
  refine wp_lcM (fun i out => out = (ds.take i).filterMap g) rfl (fun out e => by rw [e, List.take_length]; exact h) (fun i d out hd e => ?_)
  have hlt := (List.getElem?_eq_some_iff.mp hd).1
  refine hg d (List.mem_of_getElem? hd) _ ?_
  have h1 : (ds.take (i + 1)).filterMap g = (ds.take i).filterMap g ++ (match g d with | some y => [y] | none => []) := by
    rw [List.take_add_one, hd, List.filterMap_append]
    congr 1
    show [d].filterMap g = _
    rw [List.filterMap_cons]
    cases g d <;> rfl
  cases q : g d with
  | none => rw [q] at h1; rw [e, h1, List.append_nil]
  | some y =>
    rw [q] at h1
    refine ⟨?_, by rw [e, h1]⟩
    rw [e]
    have := List.length_filterMap_le g (ds.take i)
    rw [List.length_take] at this
    omega
/-! steps -/
section
variable {P : Fl → Prop} {E : Nat → D → Prop} {s t : Sm} {ρ : List LV}
theorem wp_seq (k : ∀ N : Fl → Prop, (∀ ρ', (t ρ').wp P E → N (.next ρ')) → (∀ l, P (.ret l) → N (.ret l)) → (∀ ρ', P (.brk ρ') → N (.brk ρ')) → (∀ ρ', P (.cont ρ') → N (.cont ρ')) → (∀ ρ' c d, P (.exn ρ' c d) → N (.exn ρ' c d)) → (s ρ).wp N E) : (sSeq s t ρ).wp P E := by
  unfold sSeq
  rw [wp_bindE]
  exact k _ (fun _ h => h) (fun _ h => h) (fun _ h => h) (fun _ h => h) (fun _ _ _ h => h)
/-- a statement that goes on to the next one alone, or leaves -/
structure Sq (t : Sm) (P : Fl → Prop) (E : Nat → D → Prop) (N : Fl → Prop) : Prop where
  nx : ∀ ρ', (t ρ').wp P E → N (.next ρ')
  rt : ∀ l, P (.ret l) → N (.ret l)
  bk : ∀ ρ', P (.brk ρ') → N (.brk ρ')
  ct : ∀ ρ', P (.cont ρ') → N (.cont ρ')
  ex : ∀ ρ' c d, P (.exn ρ' c d) → N (.exn ρ' c d)
theorem wp_sq (k : ∀ N : Fl → Prop, Sq t P E N → (s ρ).wp N E) : (sSeq s t ρ).wp P E := wp_seq fun N a b c d e => k N ⟨a, b, c, d, e⟩
/-- the ends of a def -/
structure Rn (P : LV → Prop) (E : Nat → D → Prop) (R : Fl → Prop) : Prop where
  nx : ∀ ρ, P (.fz .non) → R (.next ρ)
  rt : ∀ l, isBo l = false → P l → R (.ret l)
  ex : ∀ ρ c d, E c d → R (.exn ρ c d)
theorem wp_run {P : LV → Prop} {m : Sm} {n : Nat} {ds : List D} (k : ∀ R, Rn P E R → (m (ds.map .fz ++ List.replicate (n - ds.length) .un)).wp R no2) : (runB m n ds).wp P E := by
  unfold runB
  rw [wp_bindE, wp_noexE]
  refine k _ ⟨fun _ h => h, fun l nb h => ?_, fun _ _ _ h => h⟩
  cases l with
  | bo l => cases nb
  | _ => exact h
/-- the ends of an __init__ -/
structure Ri (p : Addr) (c L : Nat) (P : List D → Prop) (E : Nat → D → Prop) (R : Fl → Prop) : Prop where
  nx : ∀ fs ρ, fs.length = L → P fs → R (.next (.sf c p fs :: ρ))
  ex : ∀ ρ c d, E c d → R (.exn ρ c d)
theorem wp_runI {P : List D → Prop} {p : Addr} {c L : Nat} {m : Sm} {n : Nat} {ds : List D} (k : ∀ R, Ri p c L P E R → (m (.sf c p [] :: (ds.map .fz ++ List.replicate (n - (ds.length + 1)) .un))).wp R no2) : (runI p c L m n ds).wp P E := by
  unfold runI
  rw [wp_bindE, wp_noexE]
  exact k _ ⟨fun fs ρ hl h => ⟨⟨⟨rfl, rfl⟩, hl⟩, h⟩, fun _ _ _ h => h⟩
/-- the ends of a loop's body -/
structure Lp (I : List LV → Prop) (P F : Fl → Prop) : Prop where
  nx : ∀ ρ, I ρ → F (.next ρ)
  ct : ∀ ρ, I ρ → F (.cont ρ)
  bk : ∀ ρ, P (.next ρ) → F (.brk ρ)
  rt : ∀ l, P (.ret l) → F (.ret l)
  ex : ∀ ρ c d, P (.exn ρ c d) → F (.exn ρ c d)
theorem wp_for {α : Type} {l : List α} {d : α → D} {mi : Im} {g : Tg} {body : Sm} (I : Nat → List LV → Prop) (hi : ∀ Q : List D → Prop, Q (l.map d) → (mi ρ).wp Q (fun c e => P (.exn ρ c e))) (h0 : I 0 ρ)
    (hs : ∀ i a ρ', l[i]? = some a → I i ρ' → ∀ F, Lp (I (i + 1)) P F → (g (d a) ρ').wp (fun ρ2 => (body ρ2).wp F E) E) (he : ∀ ρ', I l.length ρ' → P (.next ρ')) : (sFor mi g body ρ).wp P E := by
  unfold sFor
  rw [wp_trE]
  refine hi _ ?_
  refine wp_forM I h0 (fun ρ h => he ρ (by rw [List.length_map] at h; exact h)) (fun i x ρ hx h => ?_)
  rw [List.getElem?_map] at hx
  obtain ⟨a, ha, rfl⟩ := Option.map_eq_some_iff.mp hx
  rw [wp_bindE]
  exact hs i a ρ ha h _ ⟨fun _ h => h, fun _ h => h, fun _ h => h, fun _ h => h, fun _ _ _ h => h⟩
end
section
variable {P : Fl → Prop} {E : Nat → D → Prop} {ρ : List LV}
theorem wp_forA {mi : Im} {g : Tg} {body : Sm} (h : (mi ρ).wp (fun ds => (forM (fun d ρ => (g d ρ).bind body) ds ρ).wp P E) (fun c e => P (.exn ρ c e))) : (sFor mi g body ρ).wp P E := by
  unfold sFor
  rw [wp_trE]
  exact h
theorem wp_loop {α : Type} {l : List α} {d : α → D} {g : Tg} {body : Sm} (I : Nat → List LV → Prop) (h0 : I 0 ρ)
    (hs : ∀ i a ρ', l[i]? = some a → I i ρ' → ∀ F, Lp (I (i + 1)) P F → (g (d a) ρ').wp (fun ρ2 => (body ρ2).wp F E) E) (he : ∀ ρ', I l.length ρ' → P (.next ρ')) : (forM (fun d ρ => (g d ρ).bind body) (l.map d) ρ).wp P E := by
  refine wp_forM I h0 (fun ρ h => he ρ (by rw [List.length_map] at h; exact h)) (fun i x ρ hx h => ?_)
  rw [List.getElem?_map] at hx
  obtain ⟨a, ha, rfl⟩ := Option.map_eq_some_iff.mp hx
  rw [wp_bindE]
  exact hs i a ρ ha h _ ⟨fun _ h => h, fun _ h => h, fun _ h => h, fun _ h => h, fun _ _ _ h => h⟩
/-- over numbers -/
theorem wp_loopN {n : Nat} {lo : Int} {g : Tg} {body : Sm} (I : Nat → List LV → Prop) (h0 : I 0 ρ)
    (hs : ∀ i ρ', i < n → I i ρ' → ∀ F, Lp (I (i + 1)) P F → (g (.int (lo + (i : Int))) ρ').wp (fun ρ2 => (body ρ2).wp F E) E) (he : ∀ ρ', I n ρ' → P (.next ρ')) : (forM (fun d ρ => (g d ρ).bind body) (rangeD lo n) ρ).wp P E := by
  unfold rangeD
  refine wp_loop I h0 (fun i a ρ' ha hI F hF => ?_) (fun ρ' h => he ρ' (by rw [List.length_range] at h; exact h))
  have h1 := (List.getElem?_eq_some_iff.mp ha).1
  rw [List.length_range] at h1
  rw [List.getElem?_range h1] at ha
  cases ha
  exact hs i ρ' h1 hI F hF
end
/-! generators -/
section
variable {P : Gl → Prop} {E : Nat → D → Prop} {s t : Gm} {out : List D} {ρ : List LV}
structure Gq (t : Gm) (P : Gl → Prop) (E : Nat → D → Prop) (N : Gl → Prop) : Prop where
  nx : ∀ out ρ', (t out ρ').wp P E → N (.next out ρ')
  rt : ∀ out, P (.ret out) → N (.ret out)
  bk : ∀ out ρ', P (.brk out ρ') → N (.brk out ρ')
  ct : ∀ out ρ', P (.cont out ρ') → N (.cont out ρ')
theorem wp_gq (k : ∀ N : Gl → Prop, Gq t P E N → (s out ρ).wp N E) : (gSeq s t out ρ).wp P E := by
  unfold gSeq
  rw [wp_bindE]
  exact k _ ⟨fun _ _ h => h, fun _ h => h, fun _ _ h => h, fun _ _ h => h⟩
structure Rg (P : List D → Prop) (R : Gl → Prop) : Prop where
  nx : ∀ out ρ, P out → R (.next out ρ)
  rt : ∀ out, P out → R (.ret out)
theorem wp_runG {P : List D → Prop} {m : Gm} {n : Nat} {ds : List D} (k : ∀ R, Rg P R → (m [] (ds.map .fz ++ List.replicate (n - ds.length) .un)).wp R no2) : (runG m n ds).wp P E := by
  unfold runG
  rw [wp_bindE, wp_noexE]
  exact k _ ⟨fun _ _ h => h, fun _ h => h⟩
theorem wp_gfor {α : Type} {l : List α} {d : α → D} {mi : Im} {g : Tg} {body : Gm} (I : Nat → List D → List LV → Prop) (hi : ∀ Q : List D → Prop, Q (l.map d) → (mi ρ).wp Q (fun _ _ => False)) (h0 : I 0 out ρ)
    (hs : ∀ i a out ρ', l[i]? = some a → I i out ρ' → ∀ F : Gl → Prop, (∀ out ρ, I (i + 1) out ρ → F (.next out ρ)) → (g (d a) ρ').wp (fun ρ2 => (body out ρ2).wp F E) E) (he : ∀ out ρ', I l.length out ρ' → P (.next out ρ')) : (gFor mi g body out ρ).wp P E := by
  unfold gFor
  rw [wp_bindE, wp_noexE]
  refine hi _ ?_
  have go : ∀ (n i : Nat) (out : List D) (ρ : List LV), n = l.length - i → i ≤ l.length → I i out ρ → (forG (fun d out ρ => (g d ρ).bind (body out)) ((l.drop i).map d) out ρ).wp P E := by
    intro n
    induction n with
    | zero =>
      intro i out ρ hn hi h
      have e : i = l.length := by omega
      subst e
      rw [List.drop_length]
      exact he out ρ h
    | succ n ih =>
      intro i out ρ hn hi h
      have hlt : i < l.length := by omega
      rw [List.drop_eq_getElem_cons hlt, List.map_cons]
      unfold forG
      rw [wp_bindE, wp_bindE]
      exact hs i _ out ρ (List.getElem?_eq_getElem hlt) h _ (fun out ρ k => ih (i + 1) out ρ (by omega) hlt k)
  have := go l.length 0 out ρ (by omega) (Nat.zero_le _) h0
  rw [List.drop_zero] at this
  exact this
end
end Dn
end

section
set_option Elab.async false
set_option linter.all false
set_option maxRecDepth 100000
set_option maxHeartbeats 1000000
namespace Dn
open PySem PySem.Spec PyProof.Rows L2 Evl GrO
/-! ## texts as lists of signs -/
def tx (l : List Nat) : Str := ⟨l.toArray⟩
theorem tx_len {l : List Nat} : (tx l).length = l.length := List.size_toArray
theorem tx_app {a b : List Nat} : tx a ++ tx b = tx (a ++ b) := by
  show (⟨a.toArray ++ b.toArray⟩ : Str) = ⟨(a ++ b).toArray⟩
  rw [List.append_toArray]
theorem tx_inj {a b : List Nat} : tx a = tx b ↔ a = b := ⟨fun h => by
  have : a.toArray = b.toArray := congrArg Str.cps h
  exact List.toArray_inj this, fun h => by rw [h]⟩
theorem tx_list {l : List Nat} : (tx l).cps.toList = l := rfl
theorem tx_of (s : Str) : tx s.cps.toList = s := by cases s; rfl
theorem tx_ex (s : Str) : ∃ l, s = tx l := ⟨_, (tx_of s).symm⟩
theorem tx_one {c : Nat} : (⟨#[c]⟩ : Str) = tx [c] := rfl
theorem charsD_tx {l : List Nat} : charsD (tx l) = l.map fun c => .str (tx [c]) := rfl
theorem tx_nil : ("" : Str) = tx [] := rfl
theorem cut_to {l : List Nat} {g : Nat} : cutS (tx l) none (some (g : Int)) = tx (l.take g) := by
  unfold cutS HT.sIx
  simp only [tx_len, tx_list, Nat.sub_zero, List.drop_zero]
  rw [if_neg (by omega), Int.toNat_natCast]
  show tx _ = _
  congr 1
  by_cases h : g ≤ l.length
  · rw [Nat.min_eq_left h]
  · rw [Nat.min_eq_right (by omega), List.take_length, List.take_of_length_le (by omega)]
theorem cut_from {l : List Nat} {g : Nat} : cutS (tx l) (some (g : Int)) none = tx (l.drop g) := by
  unfold cutS HT.sIx
  simp only [tx_len, tx_list]
  rw [if_neg (by omega), Int.toNat_natCast]
  show tx _ = _
  congr 1
  by_cases h : g ≤ l.length
  · rw [Nat.min_eq_left h, List.take_of_length_le (by rw [List.length_drop]; omega)]
  · rw [Nat.min_eq_right (by omega), List.drop_length, List.drop_eq_nil_of_le (by omega), List.take_nil]
theorem cut_in {l : List Nat} {a b : Nat} (h : a ≤ b) (hb : b ≤ l.length) : cutS (tx l) (some (a : Int)) (some (b : Int)) = tx ((l.drop a).take (b - a)) := by
  unfold cutS HT.sIx
  simp only [tx_len, tx_list]
  rw [if_neg (by omega), if_neg (by omega), Int.toNat_natCast, Int.toNat_natCast, Nat.min_eq_left hb, Nat.min_eq_left (by omega)]
  rfl
theorem cutD_to {l : List D} {g : Nat} : cutD l none (some (g : Int)) = l.take g := by
  unfold cutD HT.sIx
  simp only [Nat.sub_zero, List.drop_zero]
  rw [if_neg (by omega), Int.toNat_natCast]
  by_cases h : g ≤ l.length
  · rw [Nat.min_eq_left h]
  · rw [Nat.min_eq_right (by omega), List.take_length, List.take_of_length_le (by omega)]
theorem cutD_from {l : List D} {g : Nat} : cutD l (some (g : Int)) none = l.drop g := by
  unfold cutD HT.sIx
  simp only
  rw [if_neg (by omega), Int.toNat_natCast]
  by_cases h : g ≤ l.length
  · rw [Nat.min_eq_left h, List.take_of_length_le (by rw [List.length_drop]; omega)]
  · rw [Nat.min_eq_right (by omega), List.drop_length, List.drop_eq_nil_of_le (by omega), List.take_nil]
theorem atI_pos {α : Type} {l : List α} {i : Nat} (h : i < l.length) : L2.atI l (i : Int) = some l[i] := by
  unfold L2.atI ixN
  rw [if_pos (by omega), if_pos (by omega), Option.bind_some, Int.toNat_natCast]
  exact List.getElem?_eq_getElem h
theorem atI_get {α : Type} {l : List α} {i : Nat} {x : α} (h : l[i]? = some x) : L2.atI l (i : Int) = some x := by
  rw [atI_pos (List.getElem?_eq_some_iff.mp h).1]
  exact congrArg some (List.getElem?_eq_some_iff.mp h).2
theorem atI_last {α : Type} {l : List α} {x : α} : L2.atI (l ++ [x]) (-1) = some x := by
  unfold L2.atI ixN
  rw [if_neg (by omega), if_pos (by rw [List.length_append, List.length_singleton]; omega), Option.bind_some]
  have : (-1 + ((l ++ [x]).length : Int)).toNat = l.length := by rw [List.length_append, List.length_singleton]; omega
  rw [this, List.getElem?_append_right (Nat.le_refl _), Nat.sub_self]
  rfl
theorem atI_fin {α : Type} {l : List α} {x : α} (h : l[l.length - 1]? = some x) : L2.atI l (-1) = some x := by
  have hl := (List.getElem?_eq_some_iff.mp h).1
  unfold L2.atI ixN
  rw [if_neg (by omega), if_pos (by omega), Option.bind_some]
  have : (-1 + (l.length : Int)).toNat = l.length - 1 := by omega
  rw [this]
  exact h
/-! readings of lists -/
theorem blsD_mapF {α : Type} {f : α → Bool} : ∀ {l : List α}, blsD (l.map fun a => .bl (f a)) = some (l.map f)
  | [] => rfl
  | a :: r => by
    show (blsD (r.map fun a => .bl (f a))).map (f a :: ·) = _
    rw [blsD_mapF]
    rfl
theorem intsD_mapF {α : Type} {f : α → Int} : ∀ {l : List α}, intsD (l.map fun a => .int (f a)) = some (l.map f)
  | [] => rfl
  | a :: r => by
    show (intsD (r.map fun a => .int (f a))).map (f a :: ·) = _
    rw [intsD_mapF]
    rfl
theorem strsD_mapF {α : Type} {f : α → Str} : ∀ {l : List α}, strsD (l.map fun a => .str (f a)) = some (l.map f)
  | [] => rfl
  | a :: r => by
    show (strsD (r.map fun a => .str (f a))).map (f a :: ·) = _
    rw [strsD_mapF]
    rfl
theorem all_id {α : Type} {f : α → Bool} : ∀ {l : List α}, (l.map f).all id = l.all f
  | [] => rfl
  | a :: r => by rw [List.map_cons, List.all_cons, List.all_cons, all_id]; rfl
theorem any_id {α : Type} {f : α → Bool} : ∀ {l : List α}, (l.map f).any id = l.any f
  | [] => rfl
  | a :: r => by rw [List.map_cons, List.any_cons, List.any_cons, any_id]; rfl
section
variable {α : Type} {P : LV → Prop} {E E' : Nat → D → Prop} {G : D → M (Option D)} {l : List α} {d : α → D}
/-- all([.. for .. in ..]) -/
theorem wp_allF (f : α → Bool) (hl : l.length ≤ 100000) (hg : ∀ a ∈ l, ∀ Q : Option D → Prop, Q (some (.bl (f a))) → (G (d a)).wp Q E) (h : P (.fz (.bl (l.all f)))) : (lcM G (l.map d) []).wp (fun out => (fAll [.os out]).wp P E') E := by
  refine wp_lcM (fun i out => out = (l.take i).map fun a => .bl (f a)) rfl (fun out e => ?_) (fun i x out hd e => ?_)
  · rw [e, List.length_map, List.take_length]
    simp only [fAll, listD]
    rw [opt_some, blsD_mapF, opt_some, wp_ret, all_id]
    exact h
  · rw [List.getElem?_map] at hd
    obtain ⟨a, ha, rfl⟩ := Option.map_eq_some_iff.mp hd
    have hlt := (List.getElem?_eq_some_iff.mp ha).1
    refine hg a (List.mem_of_getElem? ha) _ ⟨?_, ?_⟩
    · rw [e, List.length_map, List.length_take]; omega
    · rw [e, List.take_add_one, ha, List.map_append]; rfl
theorem wp_anyF (f : α → Bool) (hl : l.length ≤ 100000) (hg : ∀ a ∈ l, ∀ Q : Option D → Prop, Q (some (.bl (f a))) → (G (d a)).wp Q E) (h : P (.fz (.bl (l.any f)))) : (lcM G (l.map d) []).wp (fun out => (fAny [.os out]).wp P E') E := by
  refine wp_lcM (fun i out => out = (l.take i).map fun a => .bl (f a)) rfl (fun out e => ?_) (fun i x out hd e => ?_)
  · rw [e, List.length_map, List.take_length]
    simp only [fAny, listD]
    rw [opt_some, blsD_mapF, opt_some, wp_ret, any_id]
    exact h
  · rw [List.getElem?_map] at hd
    obtain ⟨a, ha, rfl⟩ := Option.map_eq_some_iff.mp hd
    have hlt := (List.getElem?_eq_some_iff.mp ha).1
    refine hg a (List.mem_of_getElem? ha) _ ⟨?_, ?_⟩
    · rw [e, List.length_map, List.length_take]; omega
    · rw [e, List.take_add_one, ha, List.map_append]; rfl
theorem wp_sumF (f : α → Int) (hl : l.length ≤ 100000) (hg : ∀ a ∈ l, ∀ Q : Option D → Prop, Q (some (.int (f a))) → (G (d a)).wp Q E) (h : P (.fz (.int (l.map f).sum))) : (lcM G (l.map d) []).wp (fun out => (fSum [.os out]).wp P E') E := by
  refine wp_lcM (fun i out => out = (l.take i).map fun a => .int (f a)) rfl (fun out e => ?_) (fun i x out hd e => ?_)
  · rw [e, List.length_map, List.take_length]
    simp only [fSum, listD]
    rw [opt_some, intsD_mapF, opt_some, wp_ret]
    exact h
  · rw [List.getElem?_map] at hd
    obtain ⟨a, ha, rfl⟩ := Option.map_eq_some_iff.mp hd
    have hlt := (List.getElem?_eq_some_iff.mp ha).1
    refine hg a (List.mem_of_getElem? ha) _ ⟨?_, ?_⟩
    · rw [e, List.length_map, List.length_take]; omega
    · rw [e, List.take_add_one, ha, List.map_append]; rfl
/-- [.. for .. in ..] over told items -/
theorem wp_mapF {P : List D → Prop} (f : α → D) (hl : l.length ≤ 100000) (hg : ∀ a ∈ l, ∀ Q : Option D → Prop, Q (some (f a)) → (G (d a)).wp Q E) (h : P (l.map f)) : (lcM G (l.map d) []).wp P E := by
  refine wp_lcM (fun i out => out = (l.take i).map f) rfl (fun out e => ?_) (fun i x out hd e => ?_)
  · rw [e, List.length_map, List.take_length]
    exact h
  · rw [List.getElem?_map] at hd
    obtain ⟨a, ha, rfl⟩ := Option.map_eq_some_iff.mp hd
    have hlt := (List.getElem?_eq_some_iff.mp ha).1
    refine hg a (List.mem_of_getElem? ha) _ ⟨?_, ?_⟩
    · rw [e, List.length_map, List.length_take]; omega
    · rw [e, List.take_add_one, ha, List.map_append]; rfl
theorem wp_fmF {P : List D → Prop} (f : α → Option D) (hl : l.length ≤ 100000) (hg : ∀ a ∈ l, ∀ Q : Option D → Prop, Q (f a) → (G (d a)).wp Q E) (h : P (l.filterMap f)) : (lcM G (l.map d) []).wp P E := by
  refine wp_lcM (fun i out => out = (l.take i).filterMap f) rfl (fun out e => ?_) (fun i x out hd e => ?_)
  · rw [e, List.length_map, List.take_length]
    exact h
  · rw [List.getElem?_map] at hd
    obtain ⟨a, ha, rfl⟩ := Option.map_eq_some_iff.mp hd
    have hlt := (List.getElem?_eq_some_iff.mp ha).1
    refine hg a (List.mem_of_getElem? ha) _ ?_
    have h1 : (l.take (i + 1)).filterMap f = (l.take i).filterMap f ++ (match f a with | some y => [y] | none => []) := by
      rw [List.take_add_one, ha, List.filterMap_append]
      congr 1
      show [a].filterMap f = _
      rw [List.filterMap_cons]
      cases f a <;> rfl
    cases q : f a with
    | none => rw [q] at h1; rw [e, h1, List.append_nil]
    | some y =>
      rw [q] at h1
      refine ⟨?_, by rw [e, h1]⟩
      rw [e]
      have := List.length_filterMap_le f (l.take i)
      rw [List.length_take] at this
      omega
/-- a loop over told items -/
theorem wp_forF {f : D → Sm} {P : Fl → Prop} {ρ : List LV} (I : Nat → List LV → Prop) (h0 : I 0 ρ) (he : ∀ ρ, I l.length ρ → P (.next ρ))
    (hs : ∀ i a ρ, l[i]? = some a → I i ρ → (f (d a) ρ).wp (fun fl => match fl with
      | .next ρ' => I (i + 1) ρ'
      | .cont ρ' => I (i + 1) ρ'
      | .brk ρ' => P (.next ρ')
      | .ret l => P (.ret l)
      | .exn ρ' c d => P (.exn ρ' c d)) E) : (forM f (l.map d) ρ).wp P E := by
  refine wp_forM I h0 (fun ρ h => he ρ (by rw [List.length_map] at h; exact h)) (fun i x ρ hx h => ?_)
  rw [List.getElem?_map] at hx
  obtain ⟨a, ha, rfl⟩ := Option.map_eq_some_iff.mp hx
  exact hs i a ρ ha h
end
end Dn
end

section
set_option Elab.async false
set_option linter.all false
set_option maxRecDepth 100000
set_option maxHeartbeats 1000000
namespace Dn
open PySem PySem.Spec PyProof.Rows L2 Evl GrO
/-! ## groups, growths -/
def LETL : List Nat := ("abcdefghijklmnopqrstuvwxyz" : Str).cps.toList
def lowB (z : Str) : Bool := z.cps.toList.all fun c => decide (c ∈ LETL)
def groupB (z : Str) : Bool := decide (z ≠ "") && lowB z
def Sgn (z : Str) : Prop := ∀ c ∈ z.cps.toList, c < 1114112
theorem Sgn.sh {z : Str} (h : Sgn z) : ∀ c ∈ z.cps.toList, c < 16 ^ 8 := fun c hc => Nat.lt_trans (h c hc) (by decide)
def fs_is_letters : Fs := fun ds => match ds with
  | [.str s] => .need (s.length ≤ 100000) (.ret (.fz (.bl (lowB s))))
  | _ => .bad
def fs_is_group : Fs := fun ds => match ds with
  | [.str s] => .need (s.length ≤ 100000) (.ret (.fz (.bl (groupB s))))
  | _ => .bad
def fs_check_group : Fs := fun ds => match ds with
  | [.str s] => .need (s.length ≤ 100000 ∧ Sgn s) (if groupB s = true then .ret (.fz (.str s)) else .exc 103 (.str s))
  | _ => .bad
theorem check_group_wp {s : Str} {P : LV → Prop} {E : Nat → D → Prop} (h : s.length ≤ 100000) (hs : Sgn s) (h1 : groupB s = true → P (.fz (.str s))) (h2 : groupB s = false → E 103 (.str s)) : (fs_check_group [.str s]).wp P E := by
  refine ⟨⟨h, hs⟩, ?_⟩
  by_cases q : groupB s = true
  · rw [if_pos q]; exact h1 q
  · rw [if_neg q]; exact h2 (by simpa using q)
def jD (j : Int × Str) : D := .tup [.int j.1, .str j.2]
def insS (row : Str) (g : Int) (z : Str) : Str := cutS row none (some g) ++ z ++ cutS row (some g) none
inductive Fate | row (z : Str) | gap (g : Int) | grp (z : Str)
def play : Str → List (Int × Str) → Fate
  | row, [] => .row row
  | row, (g, z) :: r => if 0 ≤ g ∧ g ≤ (row.length : Int) then (if groupB z = true then play (insS row g z) r else .grp z) else .gap g
theorem play_cons {row z : Str} {g : Int} {r : List (Int × Str)} : play row ((g, z) :: r) = if 0 ≤ g ∧ g ≤ (row.length : Int) then (if groupB z = true then play (insS row g z) r else .grp z) else .gap g := rfl
/-- joins as data -/
def joinsD : List D → Option (List (Int × Str))
  | [] => some []
  | .tup [.int g, .str z] :: r => (joinsD r).map ((g, z) :: ·)
  | _ => none
theorem joinsD_map : ∀ {js : List (Int × Str)}, joinsD (js.map jD) = some js
  | [] => rfl
  | j :: r => by
    show (joinsD (r.map jD)).map ((j.1, j.2) :: ·) = _
    rw [joinsD_map]
    rfl
theorem joinsD_of : ∀ {ds : List D} {js : List (Int × Str)}, joinsD ds = some js → ds = js.map jD
  | [], js, h => by cases h; rfl
  | d :: r, js, h => by
    unfold joinsD at h
    split at h
    · rename_i heq; cases heq
    · rename_i g z r' heq
      cases heq
      obtain ⟨js', h1, rfl⟩ := Option.map_eq_some_iff.mp h
      rw [joinsD_of h1]
      rfl
    · cases h
def JBnd (s : Str) (js : List (Int × Str)) : Prop := s.length + (js.map fun j => j.2.length).sum ≤ 100000 ∧ js.length ≤ 100000 ∧ ∀ j ∈ js, Sgn j.2 ∧ j.1.natAbs < 2 ^ 1900
def initM (s : Str) (ds : List D) : M (List D) := M.opt (joinsD ds) fun js => .need (JBnd s js) (match play s js with
  | .row z => .ret [.str s, .tup ds, .str z]
  | .gap g => .exc 107 (.int g)
  | .grp z => .exc 103 (.str z))
def fs_Growth_init : Fi := fun ds => match ds with
  | [.str s, .lst ds] => initM s ds
  | [.str s, .tup ds] => initM s ds
  | _ => .bad
theorem ins_len {row z : Str} {g : Int} (h0 : 0 ≤ g) (h1 : g ≤ (row.length : Int)) : (insS row g z).length = row.length + z.length := by
  obtain ⟨G, rfl⟩ := Int.eq_ofNat_of_zero_le h0
  obtain ⟨l, rfl⟩ := tx_ex row
  obtain ⟨m, rfl⟩ := tx_ex z
  unfold insS
  rw [cut_to, cut_from, tx_app, tx_app, tx_len, tx_len, tx_len, List.length_append, List.length_append, List.length_take, List.length_drop]
  rw [tx_len] at h1
  omega
theorem play_row {row z w : Str} {g : Int} {r : List (Int × Str)} (h : play row ((g, z) :: r) = .row w) : 0 ≤ g ∧ g ≤ (row.length : Int) ∧ groupB z = true ∧ play (insS row g z) r = .row w := by
  rw [play_cons] at h
  split at h
  · rename_i h1
    split at h
    · rename_i h2
      exact ⟨h1.1, h1.2, h2, h⟩
    · cases h
  · cases h
def fs_Growth_row : Fs := fun ds => match ds with
  | [.obj c [_, _, d]] => .need (c = 0) (.ret (.fz d))
  | _ => .bad
def fs_Growth_len : Fs := fun ds => match ds with
  | [.obj c [_, .tup js, _]] => .need (c = 0) (.ret (.fz (.int (js.length : Int))))
  | _ => .bad
def fs_Growth_getitem : Fs := fun ds => match ds with
  | [.obj c [_, .tup js, _], .int i] => .need (c = 0) (M.opt (atI js i) fun d => .ret (.fz d))
  | _ => .bad
def sizesL (js : List (Int × Str)) : List Int := js.map fun j => (j.2.length : Int)
def fs_Growth_abs : Fs := fun ds => match ds with
  | [.obj c [_, .tup ds, _]] => .need (c = 0) (M.opt (joinsD ds) fun js => .need (js.length ≤ 100000 ∧ ∀ j ∈ js, j.2.length ≤ 100000) (.ret (.fz (.int (sizesL js).sum))))
  | _ => .bad
def rowsOf : Str → List (Int × Str) → List Str
  | s, [] => [s]
  | s, (g, z) :: r => s :: rowsOf (insS s g z) r
theorem rowsOf_hd (s : Str) (js : List (Int × Str)) : rowsOf s js = s :: (rowsOf s js).tail := by
  cases js with
  | nil => rfl
  | cons j r => rfl
def Plays (s : Str) (js : List (Int × Str)) : Prop := JBnd s js ∧ ∃ z, play s js = .row z
def fs_Growth_stages : Fg := fun ds => match ds with
  | [.obj c [.str s, .tup ds, _]] => .need (c = 0) (M.opt (joinsD ds) fun js => .need (Plays s js ∧ js.length < 99999) (.ret ((rowsOf s js).map .str)))
  | _ => .bad
def spanL (k n : Nat) : List (Nat × Nat) := (List.range n).map fun i => (k, i + 1)
def ownF : Nat → List (Nat × Nat) → List (Int × Str) → List (Nat × Nat)
  | _, l, [] => l
  | k, l, (g, z) :: r => ownF (k + 1) (l.take g.toNat ++ spanL (k + 1) z.length ++ l.drop g.toNat) r
def ownL (s : Str) (js : List (Int × Str)) : List (Nat × Nat) := ownF 0 (spanL 0 s.length) js
def prD (p : Nat × Nat) : D := .tup [.int p.1, .int p.2]
def fs_Growth_owners : Fs := fun ds => match ds with
  | [.obj c [.str s, .tup ds, _]] => .need (c = 0) (M.opt (joinsD ds) fun js => .need (Plays s js ∧ s.length + (js.map fun j => j.2.length).sum ≤ 90000) (.ret (.os ((ownL s js).map prD))))
  | _ => .bad
end Dn
end

section
set_option Elab.async false
set_option linter.all false
set_option maxRecDepth 100000
set_option maxHeartbeats 1000000
namespace Dn
open PySem PySem.Spec PyProof.Rows L2 Evl GrO
local macro_rules | `(tactic| walk_at "wps") => `(tactic| simp only [wp_ret, wp_need, wp_pick, wp_exc, wp_bad, wp_bindE, wp_trE, wp_noexE, opt_some, opt_none, toDs_nil, toDs_cons, toD_fz, toD_os, toD_ol, toD_ok, sSet, sIf, sRet, sRetV, sRetN, sExpr, sBrk, sCont, sFrz, sNil, setS, sUnp, sFldM, sRaise, sApp, sExt, sItem, popM, sPop, sPopTo, sSlice, sAug, mC, mVar, m2, m1, tVal, tTru, tAndM, tOrM, tNotM, mAnd, mOr, mNot, mIf, maNil, maCons, frz, mTup, mLst, mLstN, mSl, oNone, oSome, mRevL, mRevS, mCB, mCall, mCallB, mMeth, mFld, mProp, mMake, mChain, mLc, tYesM, lcF, gN, gAll, gT, iSeq, iRange1, iRange2, iEnumLM, iEnumTM, iZipLM, iterD, listF, wipeL, truth, flatR, unb, brw, owns, fI2, fSub, fNeg, fAdd, fMul, fEq_i, fEq_s, fEq_b, fCmp, fIsN, Dn.isNon, fIx, fSl, fLen, fList, fTuple, fInt, fStr, fAbs, fMax2, fMin2, isiD, mIsi, mFmt, mJs, mM1, mM0, fSplit, fPart, fFind, fStarts, eqK, peek, listD, seqD, nestD, mLenO, mAbsO, mIxO, iOwn, sTryAs, setX, endX, mXv, mIsX, gNilM, gLift, gYield, gFrom, mListG0, mListG, List.map_cons, List.map_nil, List.length_cons, List.length_nil, List.replicate, List.cons_append, List.nil_append, List.append_nil, List.getElem?_cons_zero, List.getElem?_cons_succ, List.getElem?_nil, List.set_cons_zero, List.set_cons_succ, List.set_nil, Nat.reduceAdd, Nat.reduceSub, Nat.add_zero, Nat.zero_add, Nat.sub_self, Nat.sub_zero, Bool.not_true, Bool.not_false, if_true, if_false, decide_true, decide_false, Bool.true_and, Bool.and_true, Bool.false_and, Bool.and_false, Bool.or_true, Bool.true_or, Bool.false_or, Bool.or_false, String.reduceBEq, reduceIte, Bool.false_eq_true, true_and, and_true, Option.map_some, Option.map_none, Option.bind_some, Option.bind_none])
def m_is_letters : Sm := (sRet (mCB fAll (maCons (mLc (iSeq (mVar 0)) (gN 1) tYesM (m2 (fIn false) (mVar 1) (mC (D.str (Str.ofString "abcdefghijklmnopqrstuvwxyz")))) [1]) maNil)))
def m_is_group : Sm := (sRet (mAnd (m2 (fEq true) (mVar 0) (mC (D.str (Str.ofString "")))) (mCall 1 fs_is_letters (maCons (mVar 0) maNil))))
def m_check_group : Sm := (sSeq (sIf (tNotM (tVal (mCall 1 fs_is_group (maCons (mVar 0) maNil)))) (sRaise 103 (mVar 0)) sNil) (sRetV 0))
def m_Growth_init : Sm := (sSeq (sSet 3 (mVar 1)) (sSeq (sFor (iSeq (mVar 2)) (gT 2 [gN 4, gN 5]) (sSeq (sIf (tNotM (tVal (mChain fLe fLe (mC (D.int 0)) (mVar 4) (mCB fLen (maCons (mVar 3) maNil))))) (sRaise 107 (mVar 4)) sNil) (sSet 3 (m2 fAdd (m2 fAdd (mSl fSl (mVar 3) oNone (oSome (mVar 4))) (mCall 1 fs_check_group (maCons (mVar 5) maNil))) (mSl fSl (mVar 3) (oSome (mVar 4)) oNone))))) (sSeq (sFldM 0 0 0 (mVar 1)) (sSeq (sFldM 0 0 1 (mCB fTuple (maCons (mLc (iSeq (mVar 2)) (gT 2 [gN 4, gN 5]) tYesM (mTup (maCons (mVar 4) (maCons (mVar 5) maNil))) [4, 5]) maNil))) (sFldM 0 0 2 (mVar 3))))))
def m_Growth_row : Sm := (sRet (mFld 0 2 (mVar 0)))
def m_Growth_stages : Gm := (gSeq (gLift (sSet 1 (mFld 0 0 (mVar 0)))) (gSeq (gYield (mVar 1)) (gSeq (gFor (iSeq (mFld 0 1 (mVar 0))) (gT 2 [gN 2, gN 3]) (gSeq (gLift (sSet 1 (m2 fAdd (m2 fAdd (mSl fSl (mVar 1) oNone (oSome (mVar 2))) (mVar 3)) (mSl fSl (mVar 1) (oSome (mVar 2)) oNone)))) (gSeq (gYield (mVar 1)) gNilM))) gNilM)))
def m_Growth_owners : Sm := (sSeq (sSet 1 (mLc (iRange2 (mC (D.int 1)) (m2 fAdd (mCB fLen (maCons (mFld 0 0 (mVar 0)) maNil)) (mC (D.int 1)))) (gN 5) tYesM (mTup (maCons (mC (D.int 0)) (maCons (mVar 5) maNil))) [5])) (sSeq (sFor (iEnumTM (mFld 0 1 (mVar 0))) (gT 2 [gN 2, gT 2 [gN 3, gN 4]]) (sSlice 1 (oSome (mVar 3)) (oSome (mVar 3)) (mLc (iRange2 (mC (D.int 1)) (m2 fAdd (mCB fLen (maCons (mVar 4) maNil)) (mC (D.int 1)))) (gN 5) tYesM (mTup (maCons (m2 fAdd (mVar 2) (mC (D.int 1))) (maCons (mVar 5) maNil))) [5]))) (sRetV 1)))
def m_Growth_len : Sm := (sRet (mCB fLen (maCons (mFld 0 1 (mVar 0)) maNil)))
def m_Growth_getitem : Sm := (sRet (m2 fIx (mFld 0 1 (mVar 0)) (mVar 1)))
def m_Growth_abs : Sm := (sRet (mCB fSum (maCons (mLc (iSeq (mFld 0 1 (mVar 0))) (gT 2 [gN 1, gN 2]) tYesM (mCB fLen (maCons (mVar 2) maNil)) [1, 2]) maNil)))
theorem ref_is_letters {ds : List D} (hl : ds.length = 1) : Ref (runB m_is_letters 2 ds) (fs_is_letters ds) := by
  intro P E h
  unfold fs_is_letters at h
  split at h
  · obtain ⟨hn, h⟩ := h
    refine wp_run fun R hR => ?_
    unfold m_is_letters
    walk_at "wps"
    obtain ⟨l, rfl⟩ := tx_ex ‹Str›
    rw [charsD_tx]
    refine wp_allF (fun c => decide (c ∈ LETL)) (by rw [tx_len] at hn; exact hn) (fun c hc Q q => ?_) ?_
    · walk_at "wps"
      simp only [fIn]
      walk_at "wps"
      rw [← tx_one, inStr_one]
      exact q
    · exact hR.rt _ rfl h
  · exact h.elim
theorem ref_is_group {ds : List D} (hl : ds.length = 1) : Ref (runB m_is_group 1 ds) (fs_is_group ds) := by
  intro P E h
  unfold fs_is_group at h
  split at h
  · obtain ⟨hn, h⟩ := h
    refine wp_run fun R hR => ?_
    unfold m_is_group
    walk_at "wps"
    rw [wp_ret] at h
    unfold groupB at h
    rename_i s
    by_cases q : s = ("" : Str)
    · simp only [q, decide_true, Bool.not_true, Bool.false_eq_true, if_false]
      exact hR.rt _ rfl (by simpa [q] using h)
    · simp only [q, decide_false, Bool.not_false, if_true]
      refine ⟨rfl, hn, ?_⟩
      exact hR.rt _ rfl (by simpa [q] using h)
  · exact h.elim
theorem ref_check_group {ds : List D} (hl : ds.length = 1) : Ref (runB m_check_group 1 ds) (fs_check_group ds) := by
  intro P E h
  unfold fs_check_group at h
  split at h
  · obtain ⟨⟨hn, hs⟩, h⟩ := h
    refine wp_run fun R hR => ?_
    unfold m_check_group
    refine wp_sq fun N hN => ?_
    walk_at "wps"
    refine ⟨hn, ?_⟩
    rename_i s
    cases q : groupB s with
    | true =>
      rw [q] at h
      refine hN.nx _ ?_
      walk_at "wps"
      exact hR.rt _ rfl h
    | false =>
      rw [q] at h
      walk_at "wps"
      exact ⟨⟨hs.sh, by omega⟩, hN.ex _ _ _ (hR.ex _ _ _ h)⟩
  · exact h.elim
theorem play_drop {start row : Str} {js : List (Int × Str)} {i : Nat} {a : Int × Str} (h : play start js = play row (js.drop i)) (hj : js[i]? = some a) : play start js = play row (a :: js.drop (i + 1)) := by
  have hl := (List.getElem?_eq_some_iff.mp hj).1
  rw [h, List.drop_eq_getElem_cons hl, (List.getElem?_eq_some_iff.mp hj).2]
theorem sum_take {α : Type} {l : List α} {f : α → Nat} {i : Nat} {a : α} (h : l[i]? = some a) : ((l.take (i + 1)).map f).sum = ((l.take i).map f).sum + f a := by
  rw [List.take_add_one, h, List.map_append, List.sum_append]
  simp
theorem sum_le {α : Type} {l : List α} {f : α → Nat} (i : Nat) : ((l.take i).map f).sum ≤ (l.map f).sum := by
  conv => rhs; rw [← List.take_append_drop i l, List.map_append, List.sum_append]
  omega
theorem ref_Growth_init {p : Addr} {ds : List D} (hl : ds.length = 2) : Ref (runI p 0 3 m_Growth_init 6 ds) (fs_Growth_init ds) := by
  intro P E h
  have main : ∀ (s : Str) (es : List D) (d : D), d = .lst es ∨ d = .tup es → (initM s es).wp P E → (runI p 0 3 m_Growth_init 6 [.str s, d]).wp P E := by
    clear h hl
    intro s es d hd h
    obtain ⟨js, hj, ⟨hb1, hb2, hb3⟩, h⟩ := M.wp_opt.mp h
    have e := joinsD_of hj
    subst e
    have itm : ∀ {ρ : List LV} {i : Nat} {Q : List D → Prop} {E : Nat → D → Prop}, ρ[i]? = some (.fz d) → Q (js.map jD) → (iSeq (mVar i) ρ).wp Q E := fun {ρ i Q E} hi q => by
      unfold iSeq mVar
      rw [hi]
      rcases hd with rfl | rfl <;> exact q
    refine wp_runI fun R hR => ?_
    unfold m_Growth_init
    refine wp_sq fun N0 hN0 => ?_
    walk_at "wps"
    refine hN0.nx _ ?_
    refine wp_sq fun N hN => ?_
    refine wp_for (l := js) (d := jD) (fun i ρ => ∃ row x4 x5, ρ = [.sf 0 p [], .fz (.str s), .fz d, .fz (.str row), x4, x5] ∧ play s js = play row (js.drop i) ∧ row.length = s.length + ((js.take i).map fun j => j.2.length).sum) (fun Q q => itm rfl q) ⟨s, _, _, rfl, rfl, by simp⟩ ?_ ?_
    · rintro i ⟨g, z⟩ ρ hj ⟨row, x4, x5, rfl, hp, hlen⟩ F hF
      have hp := play_drop hp hj
      have hsum := sum_take (f := fun j : Int × Str => j.2.length) hj
      have hle := sum_le (l := js) (f := fun j : Int × Str => j.2.length) (i + 1)
      have hz := hb3 _ (List.mem_of_getElem? hj)
      have hrow : row.length ≤ 100000 := by omega
      unfold jD
      walk_at "wps"
      refine wp_sq fun N2 hN2 => ?_
      walk_at "wps"
      by_cases h0 : 0 ≤ g
      · simp only [h0, wp_ret, wp_need, wp_pick, wp_exc, wp_bad, wp_bindE, wp_trE, wp_noexE, opt_some, opt_none, toDs_nil, toDs_cons, toD_fz, toD_os, toD_ol, toD_ok, sSet, sIf, sRet, sRetV, sRetN, sExpr, sBrk, sCont, sFrz, sNil, setS, sUnp, sFldM, sRaise, sApp, sExt, sItem, popM, sPop, sPopTo, sSlice, sAug, mC, mVar, m2, m1, tVal, tTru, tAndM, tOrM, tNotM, mAnd, mOr, mNot, mIf, maNil, maCons, frz, mTup, mLst, mLstN, mSl, oNone, oSome, mRevL, mRevS, mCB, mCall, mCallB, mMeth, mFld, mProp, mMake, mChain, mLc, tYesM, lcF, gN, gAll, gT, iSeq, iRange1, iRange2, iEnumLM, iEnumTM, iZipLM, iterD, listF, wipeL, truth, flatR, unb, brw, owns, fI2, fSub, fNeg, fAdd, fMul, fEq_i, fEq_s, fEq_b, fCmp, fIsN, Dn.isNon, fIx, fSl, fLen, fList, fTuple, fInt, fStr, fAbs, fMax2, fMin2, isiD, mIsi, mFmt, mJs, mM1, mM0, fSplit, fPart, fFind, fStarts, eqK, peek, listD, seqD, nestD, mLenO, mAbsO, mIxO, iOwn, sTryAs, setX, endX, mXv, mIsX, gNilM, gLift, gYield, gFrom, mListG0, mListG, List.map_cons, List.map_nil, List.length_cons, List.length_nil, List.replicate, List.cons_append, List.nil_append, List.append_nil, List.getElem?_cons_zero, List.getElem?_cons_succ, List.getElem?_nil, List.set_cons_zero, List.set_cons_succ, List.set_nil, Nat.reduceAdd, Nat.reduceSub, Nat.add_zero, Nat.zero_add, Nat.sub_self, Nat.sub_zero, Bool.not_true, Bool.not_false, if_true, if_false, decide_true, decide_false, Bool.true_and, Bool.and_true, Bool.false_and, Bool.and_false, Bool.or_true, Bool.true_or, Bool.false_or, Bool.or_false, String.reduceBEq, reduceIte, Bool.false_eq_true, true_and, and_true, Option.map_some, Option.map_none, Option.bind_some, Option.bind_none]
        refine ⟨hrow, ?_⟩
        by_cases h1 : g ≤ (row.length : Int)
        · simp only [h1, wp_ret, wp_need, wp_pick, wp_exc, wp_bad, wp_bindE, wp_trE, wp_noexE, opt_some, opt_none, toDs_nil, toDs_cons, toD_fz, toD_os, toD_ol, toD_ok, sSet, sIf, sRet, sRetV, sRetN, sExpr, sBrk, sCont, sFrz, sNil, setS, sUnp, sFldM, sRaise, sApp, sExt, sItem, popM, sPop, sPopTo, sSlice, sAug, mC, mVar, m2, m1, tVal, tTru, tAndM, tOrM, tNotM, mAnd, mOr, mNot, mIf, maNil, maCons, frz, mTup, mLst, mLstN, mSl, oNone, oSome, mRevL, mRevS, mCB, mCall, mCallB, mMeth, mFld, mProp, mMake, mChain, mLc, tYesM, lcF, gN, gAll, gT, iSeq, iRange1, iRange2, iEnumLM, iEnumTM, iZipLM, iterD, listF, wipeL, truth, flatR, unb, brw, owns, fI2, fSub, fNeg, fAdd, fMul, fEq_i, fEq_s, fEq_b, fCmp, fIsN, Dn.isNon, fIx, fSl, fLen, fList, fTuple, fInt, fStr, fAbs, fMax2, fMin2, isiD, mIsi, mFmt, mJs, mM1, mM0, fSplit, fPart, fFind, fStarts, eqK, peek, listD, seqD, nestD, mLenO, mAbsO, mIxO, iOwn, sTryAs, setX, endX, mXv, mIsX, gNilM, gLift, gYield, gFrom, mListG0, mListG, List.map_cons, List.map_nil, List.length_cons, List.length_nil, List.replicate, List.cons_append, List.nil_append, List.append_nil, List.getElem?_cons_zero, List.getElem?_cons_succ, List.getElem?_nil, List.set_cons_zero, List.set_cons_succ, List.set_nil, Nat.reduceAdd, Nat.reduceSub, Nat.add_zero, Nat.zero_add, Nat.sub_self, Nat.sub_zero, Bool.not_true, Bool.not_false, if_true, if_false, decide_true, decide_false, Bool.true_and, Bool.and_true, Bool.false_and, Bool.and_false, Bool.or_true, Bool.true_or, Bool.false_or, Bool.or_false, String.reduceBEq, reduceIte, Bool.false_eq_true, true_and, and_true, Option.map_some, Option.map_none, Option.bind_some, Option.bind_none]
          refine hN2.nx _ ?_
          walk_at "wps"
          have hz1 : z.length ≤ 100000 := by
            have : (g, z).2.length = z.length := rfl
            omega
          have hcut := ins_len (z := z) h0 h1
          refine ⟨hrow, check_group_wp hz1 hz.1 (fun hg => ?_) (fun hg => ?_)⟩
          · have hl1 := cutS_length row none (some g)
            have e1 : (cutS row none (some g) ++ z).length + (cutS row (some g) none).length = (insS row g z).length := by
              unfold insS
              simp only [Str.length_append]
            have e2 : (cutS row none (some g) ++ z).length = (cutS row none (some g)).length + z.length := Str.length_append _ _
            have e3 : (g, z).2.length = z.length := rfl
            walk_at "wps"
            refine ⟨by omega, hrow, by omega, ?_⟩
            refine hF.nx _ ⟨insS row g z, _, _, rfl, ?_, by omega⟩
            rw [hp, play_cons]
            rw [if_pos ⟨h0, h1⟩, if_pos hg]
          · refine hF.ex _ _ _ (hN.ex _ _ _ (hR.ex _ _ _ ?_))
            rw [hp, play_cons] at h
            rw [if_pos ⟨h0, h1⟩, if_neg (by rw [hg]; decide)] at h
            exact h
        · simp only [h1, wp_ret, wp_need, wp_pick, wp_exc, wp_bad, wp_bindE, wp_trE, wp_noexE, opt_some, opt_none, toDs_nil, toDs_cons, toD_fz, toD_os, toD_ol, toD_ok, sSet, sIf, sRet, sRetV, sRetN, sExpr, sBrk, sCont, sFrz, sNil, setS, sUnp, sFldM, sRaise, sApp, sExt, sItem, popM, sPop, sPopTo, sSlice, sAug, mC, mVar, m2, m1, tVal, tTru, tAndM, tOrM, tNotM, mAnd, mOr, mNot, mIf, maNil, maCons, frz, mTup, mLst, mLstN, mSl, oNone, oSome, mRevL, mRevS, mCB, mCall, mCallB, mMeth, mFld, mProp, mMake, mChain, mLc, tYesM, lcF, gN, gAll, gT, iSeq, iRange1, iRange2, iEnumLM, iEnumTM, iZipLM, iterD, listF, wipeL, truth, flatR, unb, brw, owns, fI2, fSub, fNeg, fAdd, fMul, fEq_i, fEq_s, fEq_b, fCmp, fIsN, Dn.isNon, fIx, fSl, fLen, fList, fTuple, fInt, fStr, fAbs, fMax2, fMin2, isiD, mIsi, mFmt, mJs, mM1, mM0, fSplit, fPart, fFind, fStarts, eqK, peek, listD, seqD, nestD, mLenO, mAbsO, mIxO, iOwn, sTryAs, setX, endX, mXv, mIsX, gNilM, gLift, gYield, gFrom, mListG0, mListG, List.map_cons, List.map_nil, List.length_cons, List.length_nil, List.replicate, List.cons_append, List.nil_append, List.append_nil, List.getElem?_cons_zero, List.getElem?_cons_succ, List.getElem?_nil, List.set_cons_zero, List.set_cons_succ, List.set_nil, Nat.reduceAdd, Nat.reduceSub, Nat.add_zero, Nat.zero_add, Nat.sub_self, Nat.sub_zero, Bool.not_true, Bool.not_false, if_true, if_false, decide_true, decide_false, Bool.true_and, Bool.and_true, Bool.false_and, Bool.and_false, Bool.or_true, Bool.true_or, Bool.false_or, Bool.or_false, String.reduceBEq, reduceIte, Bool.false_eq_true, true_and, and_true, Option.map_some, Option.map_none, Option.bind_some, Option.bind_none]
          refine ⟨hz.2, hN2.ex _ _ _ (hF.ex _ _ _ (hN.ex _ _ _ (hR.ex _ _ _ ?_)))⟩
          rw [hp, play_cons] at h
          rw [if_neg (fun z => h1 z.2)] at h
          exact h
      · simp only [h0, wp_ret, wp_need, wp_pick, wp_exc, wp_bad, wp_bindE, wp_trE, wp_noexE, opt_some, opt_none, toDs_nil, toDs_cons, toD_fz, toD_os, toD_ol, toD_ok, sSet, sIf, sRet, sRetV, sRetN, sExpr, sBrk, sCont, sFrz, sNil, setS, sUnp, sFldM, sRaise, sApp, sExt, sItem, popM, sPop, sPopTo, sSlice, sAug, mC, mVar, m2, m1, tVal, tTru, tAndM, tOrM, tNotM, mAnd, mOr, mNot, mIf, maNil, maCons, frz, mTup, mLst, mLstN, mSl, oNone, oSome, mRevL, mRevS, mCB, mCall, mCallB, mMeth, mFld, mProp, mMake, mChain, mLc, tYesM, lcF, gN, gAll, gT, iSeq, iRange1, iRange2, iEnumLM, iEnumTM, iZipLM, iterD, listF, wipeL, truth, flatR, unb, brw, owns, fI2, fSub, fNeg, fAdd, fMul, fEq_i, fEq_s, fEq_b, fCmp, fIsN, Dn.isNon, fIx, fSl, fLen, fList, fTuple, fInt, fStr, fAbs, fMax2, fMin2, isiD, mIsi, mFmt, mJs, mM1, mM0, fSplit, fPart, fFind, fStarts, eqK, peek, listD, seqD, nestD, mLenO, mAbsO, mIxO, iOwn, sTryAs, setX, endX, mXv, mIsX, gNilM, gLift, gYield, gFrom, mListG0, mListG, List.map_cons, List.map_nil, List.length_cons, List.length_nil, List.replicate, List.cons_append, List.nil_append, List.append_nil, List.getElem?_cons_zero, List.getElem?_cons_succ, List.getElem?_nil, List.set_cons_zero, List.set_cons_succ, List.set_nil, Nat.reduceAdd, Nat.reduceSub, Nat.add_zero, Nat.zero_add, Nat.sub_self, Nat.sub_zero, Bool.not_true, Bool.not_false, if_true, if_false, decide_true, decide_false, Bool.true_and, Bool.and_true, Bool.false_and, Bool.and_false, Bool.or_true, Bool.true_or, Bool.false_or, Bool.or_false, String.reduceBEq, reduceIte, Bool.false_eq_true, true_and, and_true, Option.map_some, Option.map_none, Option.bind_some, Option.bind_none]
        refine ⟨hz.2, hN2.ex _ _ _ (hF.ex _ _ _ (hN.ex _ _ _ (hR.ex _ _ _ ?_)))⟩
        rw [hp, play_cons] at h
        rw [if_neg (fun z => h0 z.1)] at h
        exact h
    · rintro ρ ⟨row, x4, x5, rfl, hp, hlen⟩
      rw [List.drop_length] at hp
      rw [hp] at h
      refine hN.nx _ ?_
      refine wp_sq fun N3 hN3 => ?_
      walk_at "wps"
      refine hN3.nx _ ?_
      refine wp_sq fun N4 hN4 => ?_
      unfold sFldM mCB maCons mLc
      simp only [wp_trE, wp_bindE]
      refine itm rfl ?_
      refine wp_mapF (fun j => jD j) hb2 (fun a _ Q q => ?_) ?_
      · unfold jD
        walk_at "wps"
        exact ⟨by decide, q⟩
      · walk_at "wps"
        refine hN4.nx _ ?_
        walk_at "wps"
        exact hR.nx _ _ rfl h
  unfold fs_Growth_init at h
  split at h
  · exact main _ _ _ (.inl rfl) h
  · exact main _ _ _ (.inr rfl) h
  · exact h.elim
theorem ref_Growth_row {ds : List D} (hl : ds.length = 1) : Ref (runB m_Growth_row 1 ds) (fs_Growth_row ds) := by
  intro P E h
  unfold fs_Growth_row at h
  split at h
  · obtain ⟨rfl, h⟩ := h
    refine wp_run fun R hR => ?_
    unfold m_Growth_row
    walk_at "wps"
    exact hR.rt _ rfl h
  · exact h.elim
theorem ref_Growth_len {ds : List D} (hl : ds.length = 1) : Ref (runB m_Growth_len 1 ds) (fs_Growth_len ds) := by
  intro P E h
  unfold fs_Growth_len at h
  split at h
  · obtain ⟨rfl, h⟩ := h
    refine wp_run fun R hR => ?_
    unfold m_Growth_len
    walk_at "wps"
    exact hR.rt _ rfl h
  · exact h.elim
theorem ref_Growth_getitem {ds : List D} (hl : ds.length = 2) : Ref (runB m_Growth_getitem 2 ds) (fs_Growth_getitem ds) := by
  intro P E h
  unfold fs_Growth_getitem at h
  split at h
  · obtain ⟨rfl, h⟩ := h
    obtain ⟨d, hd, h⟩ := M.wp_opt.mp h
    refine wp_run fun R hR => ?_
    unfold m_Growth_getitem
    walk_at "wps"
    simp only [hd, wp_ret, wp_need, wp_pick, wp_exc, wp_bad, wp_bindE, wp_trE, wp_noexE, opt_some, opt_none, toDs_nil, toDs_cons, toD_fz, toD_os, toD_ol, toD_ok, sSet, sIf, sRet, sRetV, sRetN, sExpr, sBrk, sCont, sFrz, sNil, setS, sUnp, sFldM, sRaise, sApp, sExt, sItem, popM, sPop, sPopTo, sSlice, sAug, mC, mVar, m2, m1, tVal, tTru, tAndM, tOrM, tNotM, mAnd, mOr, mNot, mIf, maNil, maCons, frz, mTup, mLst, mLstN, mSl, oNone, oSome, mRevL, mRevS, mCB, mCall, mCallB, mMeth, mFld, mProp, mMake, mChain, mLc, tYesM, lcF, gN, gAll, gT, iSeq, iRange1, iRange2, iEnumLM, iEnumTM, iZipLM, iterD, listF, wipeL, truth, flatR, unb, brw, owns, fI2, fSub, fNeg, fAdd, fMul, fEq_i, fEq_s, fEq_b, fCmp, fIsN, Dn.isNon, fIx, fSl, fLen, fList, fTuple, fInt, fStr, fAbs, fMax2, fMin2, isiD, mIsi, mFmt, mJs, mM1, mM0, fSplit, fPart, fFind, fStarts, eqK, peek, listD, seqD, nestD, mLenO, mAbsO, mIxO, iOwn, sTryAs, setX, endX, mXv, mIsX, gNilM, gLift, gYield, gFrom, mListG0, mListG, List.map_cons, List.map_nil, List.length_cons, List.length_nil, List.replicate, List.cons_append, List.nil_append, List.append_nil, List.getElem?_cons_zero, List.getElem?_cons_succ, List.getElem?_nil, List.set_cons_zero, List.set_cons_succ, List.set_nil, Nat.reduceAdd, Nat.reduceSub, Nat.add_zero, Nat.zero_add, Nat.sub_self, Nat.sub_zero, Bool.not_true, Bool.not_false, if_true, if_false, decide_true, decide_false, Bool.true_and, Bool.and_true, Bool.false_and, Bool.and_false, Bool.or_true, Bool.true_or, Bool.false_or, Bool.or_false, String.reduceBEq, reduceIte, Bool.false_eq_true, true_and, and_true, Option.map_some, Option.map_none, Option.bind_some, Option.bind_none]
    exact hR.rt _ rfl h
  · exact h.elim
theorem ref_Growth_abs {ds : List D} (hl : ds.length = 1) : Ref (runB m_Growth_abs 3 ds) (fs_Growth_abs ds) := by
  intro P E h
  unfold fs_Growth_abs at h
  split at h
  · obtain ⟨rfl, h⟩ := h
    obtain ⟨js, hj, ⟨h1, h2⟩, k⟩ := M.wp_opt.mp h
    clear h
    obtain rfl := joinsD_of hj
    refine wp_run fun R hR => ?_
    unfold m_Growth_abs
    walk_at "wps"
    refine wp_sumF (fun j : Int × Str => (j.2.length : Int)) h1 (fun j hj Q q => ?_) ?_
    · unfold jD
      walk_at "wps"
      exact ⟨h2 j hj, q⟩
    · walk_at "wps"
      exact hR.rt _ rfl k
  · exact h.elim
theorem ref_Growth_stages {ds : List D} (hl : ds.length = 1) : Ref (runG m_Growth_stages 4 ds) (fs_Growth_stages ds) := by
  intro P E h
  unfold fs_Growth_stages at h
  split at h
  · rename_i s _ _
    obtain ⟨rfl, h⟩ := h
    obtain ⟨js, hj, ⟨⟨⟨hb1, hb2, hb3⟩, w, hw⟩, hn⟩, k⟩ := M.wp_opt.mp h
    clear h
    obtain rfl := joinsD_of hj
    refine wp_runG fun R hR => ?_
    unfold m_Growth_stages
    refine wp_gq fun N hN => ?_
    walk_at "wps"
    refine hN.nx _ _ ?_
    refine wp_gq fun N hN => ?_
    walk_at "wps"
    refine ⟨by decide, hN.nx _ _ ?_⟩
    refine wp_gq fun N hN => ?_
    refine wp_gfor (l := js) (d := jD) (fun i out ρ => ∃ row x2 x3 x4 outs, ρ = [x4, .fz (.str row), x2, x3] ∧ play row (js.drop i) = .row w ∧ row.length = s.length + ((js.take i).map fun j => j.2.length).sum ∧ out = outs.map .str ∧ outs.length = i + 1 ∧ rowsOf s js = outs ++ (rowsOf row (js.drop i)).tail)
      (fun Q q => by walk_at "wps"; exact q) ⟨s, _, _, _, [s], rfl, hw, by simp, rfl, rfl, rowsOf_hd _ _⟩ ?_ ?_
    · rintro i ⟨g, z⟩ out ρ hj ⟨row, x2, x3, x4, outs, rfl, hp, hlen, rfl, ho, hr⟩ F hF
      have hil := (List.getElem?_eq_some_iff.mp hj).1
      rw [List.drop_eq_getElem_cons hil, (List.getElem?_eq_some_iff.mp hj).2] at hp hr
      obtain ⟨h0, h1, hg, hp⟩ := play_row hp
      have hsum := sum_take (f := fun j : Int × Str => j.2.length) hj
      have hle := sum_le (l := js) (f := fun j : Int × Str => j.2.length) (i + 1)
      have hins := ins_len (z := z) h0 h1
      have e3 : (g, z).2.length = z.length := rfl
      have e1 : (cutS row none (some g)).length + z.length + (cutS row (some g) none).length = (insS row g z).length := by
        unfold insS
        simp only [Str.length_append]
      unfold jD
      walk_at "wps"
      refine wp_gq fun N2 hN2 => ?_
      walk_at "wps"
      refine ⟨by omega, by omega, by omega, by rw [Str.length_append]; omega, hN2.nx _ _ ?_⟩
      refine wp_gq fun N3 hN3 => ?_
      walk_at "wps"
      refine ⟨by rw [List.length_map]; omega, hN3.nx _ _ ?_⟩
      walk_at "wps"
      refine hF _ _ ⟨insS row g z, _, _, _, outs ++ [insS row g z], rfl, hp, by omega, by rw [List.map_append]; rfl, by rw [List.length_append, ho]; rfl, ?_⟩
      rw [hr]
      show outs ++ rowsOf (insS row g z) (js.drop (i + 1)) = _
      rw [rowsOf_hd, List.append_assoc]
      rfl
    · rintro out ρ ⟨row, x2, x3, x4, outs, rfl, hp, hlen, rfl, ho, hr⟩
      rw [List.drop_length] at hr
      refine hN.nx _ _ ?_
      walk_at "wps"
      refine hR.nx _ _ ?_
      rw [show (rowsOf row []).tail = [] from rfl, List.append_nil] at hr
      rw [← hr]
      exact k
  · exact h.elim
theorem spanL_len {k n : Nat} : (spanL k n).length = n := by unfold spanL; rw [List.length_map, List.length_range]
theorem spanL_range {k n : Nat} : (rangeD 1 n).map (fun d => D.tup [.int k, d]) = (spanL k n).map prD := by
  unfold rangeD spanL
  rw [List.map_map, List.map_map]
  apply List.map_congr_left
  intro i _
  show D.tup [.int k, .int (1 + (i : Int))] = D.tup [.int (k : Int), .int (((i + 1 : Nat)) : Int)]
  congr 4
  omega
theorem ref_Growth_owners {ds : List D} (hl : ds.length = 1) : Ref (runB m_Growth_owners 6 ds) (fs_Growth_owners ds) := by
  intro P E h
  unfold fs_Growth_owners at h
  split at h
  · rename_i s _ _
    obtain ⟨rfl, h⟩ := h
    obtain ⟨js, hj, ⟨⟨⟨hb1, hb2, hb3⟩, w, hw⟩, hn⟩, k⟩ := M.wp_opt.mp h
    clear h
    obtain rfl := joinsD_of hj
    refine wp_run fun R hR => ?_
    unfold m_Growth_owners
    refine wp_sq fun N hN => ?_
    have span : ∀ {G : D → M (Option D)} {k n : Nat} {P : List D → Prop} {E : Nat → D → Prop}, n ≤ 100000 → (∀ i < n, ∀ Q : Option D → Prop, Q (some (.tup [.int k, .int (1 + (i : Int))])) → (G (.int (1 + (i : Int)))).wp Q E) → P ((spanL k n).map prD) → (lcM G (rangeD 1 n) []).wp P E := by
      intro G k n P E hn hg q
      unfold rangeD
      refine wp_mapF (fun i : Nat => D.tup [.int k, .int (1 + (i : Int))]) (by rw [List.length_range]; exact hn) (fun i hi Q q => hg i (List.mem_range.mp hi) Q q) ?_
      have := spanL_range (k := k) (n := n)
      unfold rangeD at this
      rw [List.map_map] at this
      rw [← this] at q
      exact q
    walk_at "wps"
    have e1 : ((s.length : Int) + 1 - 1).toNat = s.length := by omega
    refine ⟨by omega, ⟨⟨by decide, by decide⟩, by omega, by omega⟩, ?_⟩
    rw [e1]
    refine span (k := 0) (by omega) (fun i hi Q q => ?_) ?_
    · walk_at "wps"
      exact ⟨by decide, q⟩
    · refine hN.nx _ ?_
      refine wp_sq fun N hN => ?_
      refine wp_for (l := js.zipIdx) (d := fun p => .tup [.int (p.2 : Int), jD p.1]) (fun i ρ => ∃ row l x2 x3 x4 x5 x6, ρ = [x6, .os (l.map prD), x2, x3, x4, x5] ∧ x6 = .fz (.obj 0 [.str s, .tup (js.map jD), ‹D›]) ∧ play row (js.drop i) = .row w ∧ row.length = s.length + ((js.take i).map fun j => j.2.length).sum ∧ l.length = row.length ∧ ownL s js = ownF i l (js.drop i))
        (fun Q q => ?_) ⟨s, spanL 0 s.length, _, _, _, _, _, rfl, rfl, hw, by simp, spanL_len, rfl⟩ ?_ ?_
      · walk_at "wps"
        unfold enumD
        rw [List.zipIdx_map, List.map_map]
        exact q
      · rintro i ⟨⟨g, z⟩, i'⟩ ρ hj' ⟨row, l, x2, x3, x4, x5, x6, rfl, rfl, hp, hlen, hll, ho⟩ F hF
        have hj : js[i]? = some (g, z) ∧ i' = i := by
          rw [List.getElem?_zipIdx] at hj'
          cases q : js[i]? with
          | none => rw [q] at hj'; cases hj'
          | some a =>
            rw [q] at hj'
            simp only [Option.map_some, Option.some.injEq, Prod.mk.injEq] at hj'
            exact ⟨by rw [hj'.1], by omega⟩
        obtain ⟨hj, rfl⟩ := hj
        have hil := (List.getElem?_eq_some_iff.mp hj).1
        rw [List.drop_eq_getElem_cons hil, (List.getElem?_eq_some_iff.mp hj).2] at hp ho
        obtain ⟨h0, h1, hg, hp⟩ := play_row hp
        have hsum := sum_take (f := fun j : Int × Str => j.2.length) hj
        have hle := sum_le (l := js) (f := fun j : Int × Str => j.2.length) (i' + 1)
        have hins := ins_len (z := z) h0 h1
        have e3 : (g, z).2.length = z.length := rfl
        unfold jD
        walk_at "wps"
        have e2 : ((z.length : Int) + 1 - 1).toNat = z.length := by omega
        refine ⟨by omega, ⟨⟨by decide, by decide⟩, by omega, by omega⟩, ?_⟩
        rw [e2]
        refine span (k := i' + 1) (by omega) (fun i hi Q q => ?_) ?_
        · walk_at "wps"
          exact ⟨by decide, q⟩
        · refine ⟨⟨⟨h0, by omega, by rw [List.length_map]; omega⟩, by rw [List.length_map, List.length_map, spanL_len]; omega⟩, hF.nx _ ⟨insS row g z, l.take g.toNat ++ spanL (i' + 1) z.length ++ l.drop g.toNat, .fz (.int i'), .fz (.int g), .fz (.str z), x5, _, ?_, rfl, hp, by omega, ?_, ho⟩⟩
          · rw [List.map_append, List.map_append, List.map_take, List.map_drop]
            rfl
          · rw [List.length_append, List.length_append, List.length_take, List.length_drop, spanL_len]
            omega
      · rintro ρ ⟨row, l, x2, x3, x4, x5, x6, rfl, rfl, hp, hlen, hll, ho⟩
        rw [List.length_zipIdx, List.drop_length] at ho
        refine hN.nx _ ?_
        walk_at "wps"
        refine hR.rt _ rfl ?_
        rw [ho] at k
        exact k
  · exact h.elim
end Dn
end

section
set_option Elab.async false
set_option linter.all false
set_option maxRecDepth 100000
set_option maxHeartbeats 1000000
namespace Dn
open PySem PySem.Spec PyProof.Rows L2 Evl GrO
/-! ## equality of plain data -/
noncomputable instance : DecidableEq D := fun a b => Classical.propDecidable _
/-- data without bools, n deep -/
def Pl : Nat → D → Prop
  | _, .non => True
  | _, .int _ => True
  | _, .str s => PyData.strOk s = true
  | n + 1, .tup ds => ∀ d ∈ ds, Pl n d
  | n + 1, .lst ds => ∀ d ∈ ds, Pl n d
  | _, _ => False
theorem Pl.int {n : Nat} {i : Int} : Pl n (.int i) := by cases n <;> exact trivial
theorem Pl.str {n : Nat} {i : Str} (h : PyData.strOk i = true) : Pl n (.str i) := by cases n <;> exact h
theorem strOk_of {s : Str} (h : ∀ c ∈ s.cps.toList, c < 1114112) : PyData.strOk s = true := by
  unfold PyData.strOk
  rw [Array.all_eq_true_iff_forall_mem]
  intro c hc
  exact decide_eq_true (h c (Array.mem_toList_iff.mpr hc))
theorem Pl.non {n : Nat} : Pl n .non := by cases n <;> exact trivial
theorem toPs_all : ∀ {ds : List D} (f : D → PyData), (∀ d ∈ ds, toP d = some (f d)) → toP.toPs ds = some (ds.map f)
  | [], _, _ => rfl
  | d :: r, f, h => by
    unfold toP.toPs
    rw [h d List.mem_cons_self, toPs_all f (fun x hx => h x (List.mem_cons_of_mem _ hx))]
    rfl
/-- plain data as such -/
def pyD : D → PyData
  | .int i => .int i
  | .str s => .str s
  | .bl b => .bool b
  | .tup ds => .tuple (pyDs ds)
  | .lst ds => .list (pyDs ds)
  | _ => .none
where
  pyDs : List D → List PyData
  | [] => []
  | d :: r => pyD d :: pyDs r
theorem pyDs_map : ∀ ds : List D, pyD.pyDs ds = ds.map pyD
  | [] => rfl
  | d :: r => by unfold pyD.pyDs; rw [pyDs_map r]; rfl
theorem layAll : ∀ {l : List PyData}, (∀ p ∈ l, p.canLay0 = true) → PyData.canLayAll0 l = true
  | [], _ => by simp [PyData.canLayAll0]
  | p :: r, h => by
    simp only [PyData.canLayAll0, h p List.mem_cons_self, layAll (fun q hq => h q (List.mem_cons_of_mem _ hq)), Bool.and_self]
theorem depAll {n : Nat} : ∀ {l : List PyData}, (∀ p ∈ l, p.depth ≤ n) → PyData.depthAll l ≤ n
  | [], _ => by simp [PyData.depthAll]
  | p :: r, h => by
    simp only [PyData.depthAll]
    exact Nat.max_le.mpr ⟨h p List.mem_cons_self, depAll (fun q hq => h q (List.mem_cons_of_mem _ hq))⟩
theorem Pl.py : ∀ {n : Nat} {d : D}, Pl n d → toP d = some (pyD d) ∧ (pyD d).canLay0 = true ∧ (pyD d).depth ≤ n := by
  intro n
  induction n with
  | zero =>
    intro d h
    cases d with
    | str s => exact ⟨rfl, by simp only [pyD, PyData.canLay0]; exact h, by simp [pyD, PyData.depth]⟩
    | _ => first | exact h.elim | (refine ⟨rfl, ?_, ?_⟩ <;> simp [pyD, PyData.canLay0, PyData.depth])
  | succ n ih =>
    intro d h
    cases d with
    | tup ds =>
      have h : ∀ d ∈ ds, Pl n d := h
      refine ⟨?_, ?_, ?_⟩
      · show (toP.toPs ds).map PyData.tuple = _
        rw [toPs_all pyD (fun d hd => (ih (h d hd)).1), ← pyDs_map]
        rfl
      · simp only [pyD, PyData.canLay0]
        exact layAll fun p hp => by
          rw [pyDs_map] at hp
          obtain ⟨d, hd, rfl⟩ := List.mem_map.mp hp
          exact (ih (h d hd)).2.1
      · simp only [pyD, PyData.depth]
        exact Nat.add_le_add_right (depAll fun p hp => by
          rw [pyDs_map] at hp
          obtain ⟨d, hd, rfl⟩ := List.mem_map.mp hp
          exact (ih (h d hd)).2.2) 1
    | lst ds =>
      have h : ∀ d ∈ ds, Pl n d := h
      refine ⟨?_, ?_, ?_⟩
      · show (toP.toPs ds).map PyData.list = _
        rw [toPs_all pyD (fun d hd => (ih (h d hd)).1), ← pyDs_map]
        rfl
      · simp only [pyD, PyData.canLay0]
        exact layAll fun p hp => by
          rw [pyDs_map] at hp
          obtain ⟨d, hd, rfl⟩ := List.mem_map.mp hp
          exact (ih (h d hd)).2.1
      · simp only [pyD, PyData.depth]
        exact Nat.add_le_add_right (depAll fun p hp => by
          rw [pyDs_map] at hp
          obtain ⟨d, hd, rfl⟩ := List.mem_map.mp hp
          exact (ih (h d hd)).2.2) 1
    | non => refine ⟨rfl, ?_, ?_⟩ <;> simp [pyD, PyData.canLay0, PyData.depth]
    | int i => refine ⟨rfl, ?_, ?_⟩ <;> simp [pyD, PyData.canLay0, PyData.depth]
    | str i => exact ⟨rfl, by simp only [pyD, PyData.canLay0]; exact h, by simp [pyD, PyData.depth]⟩
    | bl b => exact h.elim
    | obj c fs => exact h.elim
    | dK kvs => exact h.elim
    | st => exact h.elim
theorem eqvAll_dec {f : D → PyData} : ∀ {xs ys : List D}, (∀ x ∈ xs, ∀ y ∈ ys, PyData.eqv (f x) (f y) = decide (x = y)) → PyData.eqvAll (xs.map f) (ys.map f) = decide (xs = ys)
  | [], [], _ => by simp [PyData.eqvAll]
  | [], y :: ys, _ => by simp [PyData.eqvAll]
  | x :: xs, [], _ => by simp [PyData.eqvAll]
  | x :: xs, y :: ys, h => by
    rw [List.map_cons, List.map_cons, PyData.eqvAll, h x List.mem_cons_self y List.mem_cons_self, eqvAll_dec (fun a ha b hb => h a (List.mem_cons_of_mem _ ha) b (List.mem_cons_of_mem _ hb))]
    simp only [List.cons.injEq, Bool.decide_and]
theorem Pl.eqv : ∀ {n m : Nat} {d d' : D}, Pl n d → Pl m d' → PyData.eqv (pyD d) (pyD d') = decide (d = d') := by
  intro n
  induction n with
  | zero =>
    intro m d d' h h'
    cases d <;> first | exact h.elim | skip
    all_goals cases d' <;> first | (cases m <;> exact h'.elim) | simp [pyD, PyData.eqv, Bool.beq_eq_decide_eq]
  | succ n ih =>
    intro m d d' h h'
    cases d with
    | tup ds =>
      have h : ∀ d ∈ ds, Pl n d := h
      cases d' with
      | tup es =>
        cases m with
        | zero => exact h'.elim
        | succ m =>
          have h' : ∀ d ∈ es, Pl m d := h'
          simp only [pyD, PyData.eqv, pyDs_map, D.tup.injEq]
          exact eqvAll_dec fun x hx y hy => ih (h x hx) (h' y hy)
      | bl b => cases m <;> exact h'.elim
      | obj c fs => cases m <;> exact h'.elim
      | dK kvs => cases m <;> exact h'.elim
      | st => cases m <;> exact h'.elim
      | _ => simp [pyD, PyData.eqv, Bool.beq_eq_decide_eq]
    | lst ds =>
      have h : ∀ d ∈ ds, Pl n d := h
      cases d' with
      | lst es =>
        cases m with
        | zero => exact h'.elim
        | succ m =>
          have h' : ∀ d ∈ es, Pl m d := h'
          simp only [pyD, PyData.eqv, pyDs_map, D.lst.injEq]
          exact eqvAll_dec fun x hx y hy => ih (h x hx) (h' y hy)
      | bl b => cases m <;> exact h'.elim
      | obj c fs => cases m <;> exact h'.elim
      | dK kvs => cases m <;> exact h'.elim
      | st => cases m <;> exact h'.elim
      | _ => simp [pyD, PyData.eqv, Bool.beq_eq_decide_eq]
    | bl b => exact h.elim
    | obj c fs => exact h.elim
    | dK kvs => exact h.elim
    | st => exact h.elim
    | _ => cases d' <;> first | (cases m <;> exact h'.elim) | simp [pyD, PyData.eqv, Bool.beq_eq_decide_eq]
theorem fEq_wp {neg : Bool} {x y : LV} {d d' : D} {n m : Nat} {P : LV → Prop} {E : Nat → D → Prop} (hx : peek x = some d) (hy : peek y = some d') (h : Pl n d) (h' : Pl m d') (hn : n ≤ 64) (hm : m ≤ 64) (q : P (.fz (.bl (eqK neg (decide (d = d')))))) : (fEq neg x y).wp P E := by
  have e := Pl.eqv h h'
  obtain ⟨a1, a2, a3⟩ := h.py
  obtain ⟨b1, b2, b3⟩ := h'.py
  have sh : ∀ {p : PyData}, p.canLay0 = true → p.depth ≤ 64 → SeqAt.shaped p = true := fun {p} h1 h2 => by
    unfold SeqAt.shaped
    rw [h1, decide_eq_true h2]
    rfl
  unfold fEq
  split
  · cases hx
    cases hy
    simp only [D.int.injEq] at q
    exact q
  · cases hx
    cases hy
    simp only [D.str.injEq] at q
    exact q
  · cases hx
    cases n <;> exact h.elim
  · rw [hx, hy, Option.bind_some, Option.bind_some, a1, b1, opt_some, opt_some]
    refine ⟨⟨sh a2 (Nat.le_trans a3 hn), sh b2 (Nat.le_trans b3 hm)⟩, ?_⟩
    rw [e]
    exact q
end Dn
end

section
set_option Elab.async false
set_option linter.all false
set_option maxRecDepth 100000
set_option maxHeartbeats 1000000
namespace Dn
open PySem PySem.Spec PyProof.Rows L2 Evl GrO
local macro_rules | `(tactic| walk_at "wps") => `(tactic| simp only [wp_ret, wp_need, wp_pick, wp_exc, wp_bad, wp_bindE, wp_trE, wp_noexE, opt_some, opt_none, toDs_nil, toDs_cons, toD_fz, toD_os, toD_ol, toD_ok, sSet, sIf, sRet, sRetV, sRetN, sExpr, sBrk, sCont, sFrz, sNil, setS, sUnp, sFldM, sRaise, sApp, sExt, sItem, popM, sPop, sPopTo, sSlice, sAug, mC, mVar, m2, m1, tVal, tTru, tAndM, tOrM, tNotM, mAnd, mOr, mNot, mIf, maNil, maCons, frz, mTup, mLst, mLstN, mSl, oNone, oSome, mRevL, mRevS, mCB, mCall, mCallB, mMeth, mFld, mProp, mMake, mChain, mLc, tYesM, lcF, gN, gAll, gT, iSeq, iRange1, iRange2, iEnumLM, iEnumTM, iZipLM, iterD, listF, wipeL, truth, flatR, unb, brw, owns, fI2, fSub, fNeg, fAdd, fMul, fEq_i, fEq_s, fEq_b, fCmp, fIsN, Dn.isNon, fIx, fSl, fLen, fList, fTuple, fInt, fStr, fAbs, fMax2, fMin2, isiD, mIsi, mFmt, mJs, mM1, mM0, fSplit, fPart, fFind, fStarts, eqK, peek, listD, seqD, nestD, mLenO, mAbsO, mIxO, iOwn, sTryAs, setX, endX, mXv, mIsX, gNilM, gLift, gYield, gFrom, mListG0, mListG, List.map_cons, List.map_nil, List.length_cons, List.length_nil, List.replicate, List.cons_append, List.nil_append, List.append_nil, List.getElem?_cons_zero, List.getElem?_cons_succ, List.getElem?_nil, List.set_cons_zero, List.set_cons_succ, List.set_nil, Nat.reduceAdd, Nat.reduceSub, Nat.add_zero, Nat.zero_add, Nat.sub_self, Nat.sub_zero, Bool.not_true, Bool.not_false, if_true, if_false, decide_true, decide_false, Bool.true_and, Bool.and_true, Bool.false_and, Bool.and_false, Bool.or_true, Bool.true_or, Bool.false_or, Bool.or_false, String.reduceBEq, reduceIte, Bool.false_eq_true, true_and, and_true, Option.map_some, Option.map_none, Option.bind_some, Option.bind_none])
/-! ## sameness -/
/-- plain data, bools too, n deep -/
def Dat : Nat → D → Prop
  | _, .non => True
  | _, .bl _ => True
  | _, .int _ => True
  | _, .str _ => True
  | n + 1, .tup ds => ds.length ≤ 100000 ∧ ∀ d ∈ ds, Dat n d
  | n + 1, .lst ds => ds.length ≤ 100000 ∧ ∀ d ∈ ds, Dat n d
  | _, _ => False
theorem Dat.int {n : Nat} {i : Int} : Dat n (.int i) := by cases n <;> exact trivial
theorem Dat.str {n : Nat} {i : Str} : Dat n (.str i) := by cases n <;> exact trivial
theorem Dat.bl {n : Nat} {i : Bool} : Dat n (.bl i) := by cases n <;> exact trivial
theorem Dat.non {n : Nat} : Dat n .non := by cases n <;> exact trivial
theorem Dat.up : ∀ {n : Nat} {d : D}, Dat n d → Dat (n + 1) d
  | 0, d, h => by cases d <;> first | exact trivial | exact h.elim
  | n + 1, d, h => by
    cases d with
    | tup ds => exact ⟨h.1, fun x hx => Dat.up (h.2 x hx)⟩
    | lst ds => exact ⟨h.1, fun x hx => Dat.up (h.2 x hx)⟩
    | _ => first | exact trivial | exact h.elim
theorem Dat.le {n m : Nat} {d : D} (h : Dat n d) (l : n ≤ m) : Dat m d := by
  obtain ⟨k, rfl⟩ := Nat.exists_eq_add_of_le l
  induction k with
  | zero => exact h
  | succ k ih => exact (ih (by omega)).up
noncomputable def fs_same : Nat → Fs
  | 0, _ => .bad
  | n + 1, [a, b] => .need (Dat n a ∧ Dat n b) (.ret (.fz (.bl (decide (a = b)))))
  | _, _ => .bad
noncomputable abbrev fs_l_same : Fs := fs_same 8
def m_l_same (g : Fs) : Sm := (sSeq (sIf (tVal (m2 (fIsN false) (mVar 1) (mC D.non))) (sRet (m2 (fIsN false) (mVar 0) (mC D.non))) sNil) (sSeq (sIf (tVal (mIsi "bool" (mVar 1))) (sRet (mAnd (mIsi "bool" (mVar 0)) (m2 (fEq false) (mVar 0) (mVar 1)))) sNil) (sSeq (sIf (tVal (mIsi "int" (mVar 1))) (sRet (mAnd (mIsi "int" (mVar 0)) (mAnd (mNot (mIsi "bool" (mVar 0))) (m2 (fEq false) (mVar 0) (mVar 1))))) sNil) (sSeq (sIf (tVal (mIsi "str" (mVar 1))) (sRet (mAnd (mIsi "str" (mVar 0)) (m2 (fEq false) (mVar 0) (mVar 1)))) sNil) (sSeq (sIf (tAndM (tVal (mIsi "tuple" (mVar 1))) (tNotM (tVal (mIsi "tuple" (mVar 0))))) (sRet (mC (D.bl false))) sNil) (sSeq (sIf (tAndM (tVal (mIsi "list" (mVar 1))) (tNotM (tVal (mIsi "list" (mVar 0))))) (sRet (mC (D.bl false))) sNil) (sSeq (sIf (tVal (m2 (fEq true) (mCB fLen (maCons (mVar 0) maNil)) (mCB fLen (maCons (mVar 1) maNil)))) (sRet (mC (D.bl false))) sNil) (sSeq (sFor (iRange1 (mCB fLen (maCons (mVar 1) maNil))) (gN 2) (sIf (tNotM (tVal (mCallB 2 g (maCons (m2 fIx (mVar 0) (mVar 2)) (maCons (m2 fIx (mVar 1) (mVar 2)) maNil))))) (sRet (mC (D.bl false))) sNil)) (sRet (mC (D.bl true)))))))))))
theorem ref_same_nil {ds : List D} (h : ds.length = 2) : ∃ a b, ds = [a, b] := by
  match ds, h with
  | [a, b], _ => exact ⟨a, b, rfl⟩
/-- the items compared -/
theorem same_loop {n : Nat} {as bs : List D} {x y x2 : LV} {P : Fl → Prop} {E : Nat → D → Prop} (hx : x = .fz (.tup as) ∨ x = .fz (.lst as)) (hy : y = .fz (.tup bs) ∨ y = .fz (.lst bs)) (ha : ∀ d ∈ as, Dat n d) (hb : ∀ d ∈ bs, Dat n d) (hl : as.length = bs.length) (hs : bs.length ≤ 100000)
    (hg : ∀ a b, Dat n a → Dat n b → ∀ (P : LV → Prop) (E : Nat → D → Prop), P (.fz (.bl (decide (a = b)))) → (fs_same (n + 1) [a, b]).wp P E) (q : P (.ret (.fz (.bl (decide (as = bs)))))) :
    (sSeq (sFor (iRange1 (mCB fLen (maCons (mVar 1) maNil))) (gN 2) (sIf (tNotM (tVal (mCallB 2 (fs_same (n + 1)) (maCons (m2 fIx (mVar 0) (mVar 2)) (maCons (m2 fIx (mVar 1) (mVar 2)) maNil))))) (sRet (mC (D.bl false))) sNil)) (sRet (mC (D.bl true))) [x, y, x2]).wp P E := by
  refine wp_sq fun N hN => ?_
  have ix : ∀ {z : LV} {ds : List D} {i : Nat} {d : D}, z = .fz (.tup ds) ∨ z = .fz (.lst ds) → ds[i]? = some d → ∀ (P : LV → Prop) (E : Nat → D → Prop), P (.fz d) → (fIx z (.fz (.int (i : Int)))).wp P E := by
    rintro z ds i d (rfl | rfl) hd P E q
    · simp only [fIx, seqD]
      rw [opt_some, atI_get hd]
      exact q
    · simp only [fIx, seqD, listD]
      rw [opt_some, atI_get hd]
      exact q
  have var : ∀ {z : LV} {ds : List D}, z = .fz (.tup ds) ∨ z = .fz (.lst ds) → ∃ d, z = .fz d := by
    rintro z ds (rfl | rfl)
    · exact ⟨_, rfl⟩
    · exact ⟨_, rfl⟩
  obtain ⟨dx, ex⟩ := var hx
  obtain ⟨dy, ey⟩ := var hy
  refine wp_for (l := List.range bs.length) (d := fun i : Nat => .int (0 + (i : Int))) (fun i ρ => (∃ x2, ρ = [x, y, x2]) ∧ as.take i = bs.take i) (fun Q q => ?_) ⟨⟨_, rfl⟩, rfl⟩ ?_ ?_
  · rcases hy with rfl | rfl
    · walk_at "wps"
      exact ⟨⟨by omega, by omega⟩, q⟩
    · walk_at "wps"
      exact ⟨⟨by omega, by omega⟩, q⟩
  · rintro i k ρ hk ⟨⟨x2, rfl⟩, ht⟩ F hF
    obtain ⟨hlt, rfl⟩ : i < bs.length ∧ k = i := by
      have h1 := (List.getElem?_eq_some_iff.mp hk).1
      rw [List.length_range] at h1
      rw [List.getElem?_range h1] at hk
      cases hk
      exact ⟨h1, rfl⟩
    have h1 : as[k]? = some as[k] := List.getElem?_eq_getElem (by omega)
    have h2 : bs[k]? = some bs[k] := List.getElem?_eq_getElem hlt
    rw [Int.zero_add]
    simp only [gN, List.getElem?_cons_zero, List.getElem?_cons_succ, wp_ret, List.set_cons_succ, List.set_cons_zero]
    simp only [sIf, tNotM, tVal, mCallB, maCons, maNil, m2, wp_trE, wp_bindE, mVar, List.getElem?_cons_zero, List.getElem?_cons_succ, ex, ey, wp_ret]
    rw [← ex, ← ey]
    refine ix hx h1 _ _ ?_
    refine ix hy h2 _ _ ?_
    walk_at "wps"
    refine hg _ _ (ha _ (List.getElem_mem _)) (hb _ (List.getElem_mem _)) _ _ ?_
    walk_at "wps"
    by_cases he : as[k] = bs[k]
    · simp only [he, wp_ret, wp_need, wp_pick, wp_exc, wp_bad, wp_bindE, wp_trE, wp_noexE, opt_some, opt_none, toDs_nil, toDs_cons, toD_fz, toD_os, toD_ol, toD_ok, sSet, sIf, sRet, sRetV, sRetN, sExpr, sBrk, sCont, sFrz, sNil, setS, sUnp, sFldM, sRaise, sApp, sExt, sItem, popM, sPop, sPopTo, sSlice, sAug, mC, mVar, m2, m1, tVal, tTru, tAndM, tOrM, tNotM, mAnd, mOr, mNot, mIf, maNil, maCons, frz, mTup, mLst, mLstN, mSl, oNone, oSome, mRevL, mRevS, mCB, mCall, mCallB, mMeth, mFld, mProp, mMake, mChain, mLc, tYesM, lcF, gN, gAll, gT, iSeq, iRange1, iRange2, iEnumLM, iEnumTM, iZipLM, iterD, listF, wipeL, truth, flatR, unb, brw, owns, fI2, fSub, fNeg, fAdd, fMul, fEq_i, fEq_s, fEq_b, fCmp, fIsN, Dn.isNon, fIx, fSl, fLen, fList, fTuple, fInt, fStr, fAbs, fMax2, fMin2, isiD, mIsi, mFmt, mJs, mM1, mM0, fSplit, fPart, fFind, fStarts, eqK, peek, listD, seqD, nestD, mLenO, mAbsO, mIxO, iOwn, sTryAs, setX, endX, mXv, mIsX, gNilM, gLift, gYield, gFrom, mListG0, mListG, List.map_cons, List.map_nil, List.length_cons, List.length_nil, List.replicate, List.cons_append, List.nil_append, List.append_nil, List.getElem?_cons_zero, List.getElem?_cons_succ, List.getElem?_nil, List.set_cons_zero, List.set_cons_succ, List.set_nil, Nat.reduceAdd, Nat.reduceSub, Nat.add_zero, Nat.zero_add, Nat.sub_self, Nat.sub_zero, Bool.not_true, Bool.not_false, if_true, if_false, decide_true, decide_false, Bool.true_and, Bool.and_true, Bool.false_and, Bool.and_false, Bool.or_true, Bool.true_or, Bool.false_or, Bool.or_false, String.reduceBEq, reduceIte, Bool.false_eq_true, true_and, and_true, Option.map_some, Option.map_none, Option.bind_some, Option.bind_none]
      refine hF.nx _ ⟨⟨_, rfl⟩, ?_⟩
      rw [List.take_add_one, List.take_add_one, ht, h1, h2, he]
    · simp only [he, wp_ret, wp_need, wp_pick, wp_exc, wp_bad, wp_bindE, wp_trE, wp_noexE, opt_some, opt_none, toDs_nil, toDs_cons, toD_fz, toD_os, toD_ol, toD_ok, sSet, sIf, sRet, sRetV, sRetN, sExpr, sBrk, sCont, sFrz, sNil, setS, sUnp, sFldM, sRaise, sApp, sExt, sItem, popM, sPop, sPopTo, sSlice, sAug, mC, mVar, m2, m1, tVal, tTru, tAndM, tOrM, tNotM, mAnd, mOr, mNot, mIf, maNil, maCons, frz, mTup, mLst, mLstN, mSl, oNone, oSome, mRevL, mRevS, mCB, mCall, mCallB, mMeth, mFld, mProp, mMake, mChain, mLc, tYesM, lcF, gN, gAll, gT, iSeq, iRange1, iRange2, iEnumLM, iEnumTM, iZipLM, iterD, listF, wipeL, truth, flatR, unb, brw, owns, fI2, fSub, fNeg, fAdd, fMul, fEq_i, fEq_s, fEq_b, fCmp, fIsN, Dn.isNon, fIx, fSl, fLen, fList, fTuple, fInt, fStr, fAbs, fMax2, fMin2, isiD, mIsi, mFmt, mJs, mM1, mM0, fSplit, fPart, fFind, fStarts, eqK, peek, listD, seqD, nestD, mLenO, mAbsO, mIxO, iOwn, sTryAs, setX, endX, mXv, mIsX, gNilM, gLift, gYield, gFrom, mListG0, mListG, List.map_cons, List.map_nil, List.length_cons, List.length_nil, List.replicate, List.cons_append, List.nil_append, List.append_nil, List.getElem?_cons_zero, List.getElem?_cons_succ, List.getElem?_nil, List.set_cons_zero, List.set_cons_succ, List.set_nil, Nat.reduceAdd, Nat.reduceSub, Nat.add_zero, Nat.zero_add, Nat.sub_self, Nat.sub_zero, Bool.not_true, Bool.not_false, if_true, if_false, decide_true, decide_false, Bool.true_and, Bool.and_true, Bool.false_and, Bool.and_false, Bool.or_true, Bool.true_or, Bool.false_or, Bool.or_false, String.reduceBEq, reduceIte, Bool.false_eq_true, true_and, and_true, Option.map_some, Option.map_none, Option.bind_some, Option.bind_none]
      refine hF.rt _ (hN.rt _ ?_)
      have : decide (as = bs) = false := decide_eq_false fun z => he (by subst z; rfl)
      rw [this] at q
      exact q
  · rintro ρ ⟨⟨x2, rfl⟩, ht⟩
    refine hN.nx _ ?_
    walk_at "wps"
    rw [List.length_range, List.take_length, ← hl, List.take_length] at ht
    rw [decide_eq_true ht] at q
    exact q
theorem ref_l_same {n : Nat} {ds : List D} (hl : ds.length = 2) : Ref (runB (m_l_same (fs_same n)) 3 ds) (fs_same (n + 1) ds) := by
  intro P E h
  obtain ⟨a, b, rfl⟩ := ref_same_nil hl
  obtain ⟨⟨ha, hb⟩, h⟩ := h
  refine wp_run fun R hR => ?_
  unfold m_l_same
  have fin : ∀ {k : Bool}, decide (a = b) = k → R (.ret (.fz (.bl k))) := fun {k} e => hR.rt _ rfl (by rw [← e]; exact h)
  have hg : ∀ {m : Nat} (a b : D), Dat m a → Dat m b → ∀ (P : LV → Prop) (E : Nat → D → Prop), P (.fz (.bl (decide (a = b)))) → (fs_same (m + 1) [a, b]).wp P E := fun a b ha hb P E q => ⟨⟨ha, hb⟩, q⟩
  cases b with
  | obj c fs => cases n <;> exact hb.elim
  | dK kvs => cases n <;> exact hb.elim
  | st => cases n <;> exact hb.elim
  | non =>
    cases a with
    | obj c fs => cases n <;> exact ha.elim
    | dK kvs => cases n <;> exact ha.elim
    | st => cases n <;> exact ha.elim
    | _ =>
      refine wp_sq fun N hN => ?_
      walk_at "wps"
      exact hN.rt _ (fin (by simp))
  | bl k =>
    refine wp_sq fun N hN => ?_
    walk_at "wps"
    refine hN.nx _ ?_
    refine wp_sq fun N hN => ?_
    cases a with
    | obj c fs => cases n <;> exact ha.elim
    | dK kvs => cases n <;> exact ha.elim
    | st => cases n <;> exact ha.elim
    | _ =>
      walk_at "wps"
      exact hN.rt _ (fin (by simp))
  | int k =>
    refine wp_sq fun N hN => ?_
    walk_at "wps"
    refine hN.nx _ ?_
    refine wp_sq fun N hN => ?_
    walk_at "wps"
    refine hN.nx _ ?_
    refine wp_sq fun N hN => ?_
    cases a with
    | obj c fs => cases n <;> exact ha.elim
    | dK kvs => cases n <;> exact ha.elim
    | st => cases n <;> exact ha.elim
    | _ =>
      walk_at "wps"
      exact hN.rt _ (fin (by simp))
  | str k =>
    refine wp_sq fun N hN => ?_
    walk_at "wps"
    refine hN.nx _ ?_
    refine wp_sq fun N hN => ?_
    walk_at "wps"
    refine hN.nx _ ?_
    refine wp_sq fun N hN => ?_
    walk_at "wps"
    refine hN.nx _ ?_
    refine wp_sq fun N hN => ?_
    cases a with
    | obj c fs => cases n <;> exact ha.elim
    | dK kvs => cases n <;> exact ha.elim
    | st => cases n <;> exact ha.elim
    | _ =>
      walk_at "wps"
      exact hN.rt _ (fin (by simp))
  | tup bs =>
    cases n with
    | zero => exact hb.elim
    | succ m =>
    iterate 4
      refine wp_sq fun N hN => ?_
      walk_at "wps"
      refine hN.nx _ ?_
      clear hN N
    refine wp_sq fun N hN => ?_
    cases a with
    | obj c fs => exact ha.elim
    | dK kvs => exact ha.elim
    | st => exact ha.elim
    | tup as =>
      walk_at "wps"
      refine hN.nx _ ?_
      clear hN N
      refine wp_sq fun N hN => ?_
      walk_at "wps"
      refine hN.nx _ ?_
      clear hN N
      refine wp_sq fun N hN => ?_
      walk_at "wps"
      by_cases hl : as.length = bs.length
      · have hl2 : ((as.length : Int) = (bs.length : Int)) = True := by simp [hl]
        simp only [hl2, wp_ret, wp_need, wp_pick, wp_exc, wp_bad, wp_bindE, wp_trE, wp_noexE, opt_some, opt_none, toDs_nil, toDs_cons, toD_fz, toD_os, toD_ol, toD_ok, sSet, sIf, sRet, sRetV, sRetN, sExpr, sBrk, sCont, sFrz, sNil, setS, sUnp, sFldM, sRaise, sApp, sExt, sItem, popM, sPop, sPopTo, sSlice, sAug, mC, mVar, m2, m1, tVal, tTru, tAndM, tOrM, tNotM, mAnd, mOr, mNot, mIf, maNil, maCons, frz, mTup, mLst, mLstN, mSl, oNone, oSome, mRevL, mRevS, mCB, mCall, mCallB, mMeth, mFld, mProp, mMake, mChain, mLc, tYesM, lcF, gN, gAll, gT, iSeq, iRange1, iRange2, iEnumLM, iEnumTM, iZipLM, iterD, listF, wipeL, truth, flatR, unb, brw, owns, fI2, fSub, fNeg, fAdd, fMul, fEq_i, fEq_s, fEq_b, fCmp, fIsN, Dn.isNon, fIx, fSl, fLen, fList, fTuple, fInt, fStr, fAbs, fMax2, fMin2, isiD, mIsi, mFmt, mJs, mM1, mM0, fSplit, fPart, fFind, fStarts, eqK, peek, listD, seqD, nestD, mLenO, mAbsO, mIxO, iOwn, sTryAs, setX, endX, mXv, mIsX, gNilM, gLift, gYield, gFrom, mListG0, mListG, List.map_cons, List.map_nil, List.length_cons, List.length_nil, List.replicate, List.cons_append, List.nil_append, List.append_nil, List.getElem?_cons_zero, List.getElem?_cons_succ, List.getElem?_nil, List.set_cons_zero, List.set_cons_succ, List.set_nil, Nat.reduceAdd, Nat.reduceSub, Nat.add_zero, Nat.zero_add, Nat.sub_self, Nat.sub_zero, Bool.not_true, Bool.not_false, if_true, if_false, decide_true, decide_false, Bool.true_and, Bool.and_true, Bool.false_and, Bool.and_false, Bool.or_true, Bool.true_or, Bool.false_or, Bool.or_false, String.reduceBEq, reduceIte, Bool.false_eq_true, true_and, and_true, Option.map_some, Option.map_none, Option.bind_some, Option.bind_none]
        refine hN.nx _ ?_
        exact same_loop (.inl rfl) (.inl rfl) ha.2 hb.2 hl hb.1 hg (fin (by simp))
      · have hl2 : ((as.length : Int) = (bs.length : Int)) = False := by simp; omega
        simp only [hl2, wp_ret, wp_need, wp_pick, wp_exc, wp_bad, wp_bindE, wp_trE, wp_noexE, opt_some, opt_none, toDs_nil, toDs_cons, toD_fz, toD_os, toD_ol, toD_ok, sSet, sIf, sRet, sRetV, sRetN, sExpr, sBrk, sCont, sFrz, sNil, setS, sUnp, sFldM, sRaise, sApp, sExt, sItem, popM, sPop, sPopTo, sSlice, sAug, mC, mVar, m2, m1, tVal, tTru, tAndM, tOrM, tNotM, mAnd, mOr, mNot, mIf, maNil, maCons, frz, mTup, mLst, mLstN, mSl, oNone, oSome, mRevL, mRevS, mCB, mCall, mCallB, mMeth, mFld, mProp, mMake, mChain, mLc, tYesM, lcF, gN, gAll, gT, iSeq, iRange1, iRange2, iEnumLM, iEnumTM, iZipLM, iterD, listF, wipeL, truth, flatR, unb, brw, owns, fI2, fSub, fNeg, fAdd, fMul, fEq_i, fEq_s, fEq_b, fCmp, fIsN, Dn.isNon, fIx, fSl, fLen, fList, fTuple, fInt, fStr, fAbs, fMax2, fMin2, isiD, mIsi, mFmt, mJs, mM1, mM0, fSplit, fPart, fFind, fStarts, eqK, peek, listD, seqD, nestD, mLenO, mAbsO, mIxO, iOwn, sTryAs, setX, endX, mXv, mIsX, gNilM, gLift, gYield, gFrom, mListG0, mListG, List.map_cons, List.map_nil, List.length_cons, List.length_nil, List.replicate, List.cons_append, List.nil_append, List.append_nil, List.getElem?_cons_zero, List.getElem?_cons_succ, List.getElem?_nil, List.set_cons_zero, List.set_cons_succ, List.set_nil, Nat.reduceAdd, Nat.reduceSub, Nat.add_zero, Nat.zero_add, Nat.sub_self, Nat.sub_zero, Bool.not_true, Bool.not_false, if_true, if_false, decide_true, decide_false, Bool.true_and, Bool.and_true, Bool.false_and, Bool.and_false, Bool.or_true, Bool.true_or, Bool.false_or, Bool.or_false, String.reduceBEq, reduceIte, Bool.false_eq_true, true_and, and_true, Option.map_some, Option.map_none, Option.bind_some, Option.bind_none]
        exact hN.rt _ (fin (decide_eq_false fun z => hl (by cases z; rfl)))
    | _ =>
      walk_at "wps"
      exact hN.rt _ (fin (by simp))
  | lst bs =>
    cases n with
    | zero => exact hb.elim
    | succ m =>
    iterate 5
      refine wp_sq fun N hN => ?_
      walk_at "wps"
      refine hN.nx _ ?_
      clear hN N
    refine wp_sq fun N hN => ?_
    cases a with
    | obj c fs => exact ha.elim
    | dK kvs => exact ha.elim
    | st => exact ha.elim
    | lst as =>
      walk_at "wps"
      refine hN.nx _ ?_
      clear hN N
      refine wp_sq fun N hN => ?_
      walk_at "wps"
      by_cases hl : as.length = bs.length
      · have hl2 : ((as.length : Int) = (bs.length : Int)) = True := by simp [hl]
        simp only [hl2, wp_ret, wp_need, wp_pick, wp_exc, wp_bad, wp_bindE, wp_trE, wp_noexE, opt_some, opt_none, toDs_nil, toDs_cons, toD_fz, toD_os, toD_ol, toD_ok, sSet, sIf, sRet, sRetV, sRetN, sExpr, sBrk, sCont, sFrz, sNil, setS, sUnp, sFldM, sRaise, sApp, sExt, sItem, popM, sPop, sPopTo, sSlice, sAug, mC, mVar, m2, m1, tVal, tTru, tAndM, tOrM, tNotM, mAnd, mOr, mNot, mIf, maNil, maCons, frz, mTup, mLst, mLstN, mSl, oNone, oSome, mRevL, mRevS, mCB, mCall, mCallB, mMeth, mFld, mProp, mMake, mChain, mLc, tYesM, lcF, gN, gAll, gT, iSeq, iRange1, iRange2, iEnumLM, iEnumTM, iZipLM, iterD, listF, wipeL, truth, flatR, unb, brw, owns, fI2, fSub, fNeg, fAdd, fMul, fEq_i, fEq_s, fEq_b, fCmp, fIsN, Dn.isNon, fIx, fSl, fLen, fList, fTuple, fInt, fStr, fAbs, fMax2, fMin2, isiD, mIsi, mFmt, mJs, mM1, mM0, fSplit, fPart, fFind, fStarts, eqK, peek, listD, seqD, nestD, mLenO, mAbsO, mIxO, iOwn, sTryAs, setX, endX, mXv, mIsX, gNilM, gLift, gYield, gFrom, mListG0, mListG, List.map_cons, List.map_nil, List.length_cons, List.length_nil, List.replicate, List.cons_append, List.nil_append, List.append_nil, List.getElem?_cons_zero, List.getElem?_cons_succ, List.getElem?_nil, List.set_cons_zero, List.set_cons_succ, List.set_nil, Nat.reduceAdd, Nat.reduceSub, Nat.add_zero, Nat.zero_add, Nat.sub_self, Nat.sub_zero, Bool.not_true, Bool.not_false, if_true, if_false, decide_true, decide_false, Bool.true_and, Bool.and_true, Bool.false_and, Bool.and_false, Bool.or_true, Bool.true_or, Bool.false_or, Bool.or_false, String.reduceBEq, reduceIte, Bool.false_eq_true, true_and, and_true, Option.map_some, Option.map_none, Option.bind_some, Option.bind_none]
        refine hN.nx _ ?_
        exact same_loop (.inr rfl) (.inr rfl) ha.2 hb.2 hl hb.1 hg (fin (by simp))
      · have hl2 : ((as.length : Int) = (bs.length : Int)) = False := by simp; omega
        simp only [hl2, wp_ret, wp_need, wp_pick, wp_exc, wp_bad, wp_bindE, wp_trE, wp_noexE, opt_some, opt_none, toDs_nil, toDs_cons, toD_fz, toD_os, toD_ol, toD_ok, sSet, sIf, sRet, sRetV, sRetN, sExpr, sBrk, sCont, sFrz, sNil, setS, sUnp, sFldM, sRaise, sApp, sExt, sItem, popM, sPop, sPopTo, sSlice, sAug, mC, mVar, m2, m1, tVal, tTru, tAndM, tOrM, tNotM, mAnd, mOr, mNot, mIf, maNil, maCons, frz, mTup, mLst, mLstN, mSl, oNone, oSome, mRevL, mRevS, mCB, mCall, mCallB, mMeth, mFld, mProp, mMake, mChain, mLc, tYesM, lcF, gN, gAll, gT, iSeq, iRange1, iRange2, iEnumLM, iEnumTM, iZipLM, iterD, listF, wipeL, truth, flatR, unb, brw, owns, fI2, fSub, fNeg, fAdd, fMul, fEq_i, fEq_s, fEq_b, fCmp, fIsN, Dn.isNon, fIx, fSl, fLen, fList, fTuple, fInt, fStr, fAbs, fMax2, fMin2, isiD, mIsi, mFmt, mJs, mM1, mM0, fSplit, fPart, fFind, fStarts, eqK, peek, listD, seqD, nestD, mLenO, mAbsO, mIxO, iOwn, sTryAs, setX, endX, mXv, mIsX, gNilM, gLift, gYield, gFrom, mListG0, mListG, List.map_cons, List.map_nil, List.length_cons, List.length_nil, List.replicate, List.cons_append, List.nil_append, List.append_nil, List.getElem?_cons_zero, List.getElem?_cons_succ, List.getElem?_nil, List.set_cons_zero, List.set_cons_succ, List.set_nil, Nat.reduceAdd, Nat.reduceSub, Nat.add_zero, Nat.zero_add, Nat.sub_self, Nat.sub_zero, Bool.not_true, Bool.not_false, if_true, if_false, decide_true, decide_false, Bool.true_and, Bool.and_true, Bool.false_and, Bool.and_false, Bool.or_true, Bool.true_or, Bool.false_or, Bool.or_false, String.reduceBEq, reduceIte, Bool.false_eq_true, true_and, and_true, Option.map_some, Option.map_none, Option.bind_some, Option.bind_none]
        exact hN.rt _ (fin (decide_eq_false fun z => hl (by cases z; rfl)))
    | _ =>
      walk_at "wps"
      exact hN.rt _ (fin (by simp))
end Dn
end

section
set_option Elab.async false
set_option linter.all false
set_option maxRecDepth 100000
set_option maxHeartbeats 1000000
namespace Dn
open PySem PySem.Spec PyProof.Rows L2 Evl GrO
local macro_rules | `(tactic| walk_at "wps") => `(tactic| simp only [wp_ret, wp_need, wp_pick, wp_exc, wp_bad, wp_bindE, wp_trE, wp_noexE, opt_some, opt_none, toDs_nil, toDs_cons, toD_fz, toD_os, toD_ol, toD_ok, sSet, sIf, sRet, sRetV, sRetN, sExpr, sBrk, sCont, sFrz, sNil, setS, sUnp, sFldM, sRaise, sApp, sExt, sItem, popM, sPop, sPopTo, sSlice, sAug, mC, mVar, m2, m1, tVal, tTru, tAndM, tOrM, tNotM, mAnd, mOr, mNot, mIf, maNil, maCons, frz, mTup, mLst, mLstN, mSl, oNone, oSome, mRevL, mRevS, mCB, mCall, mCallB, mMeth, mFld, mProp, mMake, mChain, mLc, tYesM, lcF, gN, gAll, gT, iSeq, iRange1, iRange2, iEnumLM, iEnumTM, iZipLM, iterD, listF, wipeL, truth, flatR, unb, brw, owns, fI2, fSub, fNeg, fAdd, fMul, fEq_i, fEq_s, fEq_b, fCmp, fIsN, Dn.isNon, fIx, fSl, fLen, fList, fTuple, fInt, fStr, fAbs, fMax2, fMin2, isiD, mIsi, mFmt, mJs, mM1, mM0, fSplit, fPart, fFind, fStarts, eqK, peek, listD, seqD, nestD, mLenO, mAbsO, mIxO, iOwn, sTryAs, setX, endX, mXv, mIsX, gNilM, gLift, gYield, gFrom, mListG0, mListG, List.map_cons, List.map_nil, List.length_cons, List.length_nil, List.replicate, List.cons_append, List.nil_append, List.append_nil, List.getElem?_cons_zero, List.getElem?_cons_succ, List.getElem?_nil, List.set_cons_zero, List.set_cons_succ, List.set_nil, Nat.reduceAdd, Nat.reduceSub, Nat.add_zero, Nat.zero_add, Nat.sub_self, Nat.sub_zero, Bool.not_true, Bool.not_false, if_true, if_false, decide_true, decide_false, Bool.true_and, Bool.and_true, Bool.false_and, Bool.and_false, Bool.or_true, Bool.true_or, Bool.false_or, Bool.or_false, String.reduceBEq, reduceIte, Bool.false_eq_true, true_and, and_true, Option.map_some, Option.map_none, Option.bind_some, Option.bind_none])
/-! ## what laws draw -/
/-- something out of a told set -/
def M.pickF {ι β : Type} (S : ι → Prop) (f : ι → D) (k : D → M β) : M β := .pick (fun d => ∃ i, S i ∧ d = f i) k
theorem wp_pickF {ι β : Type} {S : ι → Prop} {f : ι → D} {k : D → M β} {P : β → Prop} {E : Nat → D → Prop} : (M.pickF S f k).wp P E ↔ ∀ i, S i → (k (f i)).wp P E :=
  ⟨fun h i hi => h _ ⟨i, hi, rfl⟩, fun h d ⟨i, hi, e⟩ => by rw [e]; exact h i hi⟩
abbrev fs_l_draw : Fs := fs_draw
theorem draw_wp {m : Int} {P : LV → Prop} {E : Nat → D → Prop} (h1 : 1 ≤ m) (h2 : m < 1073741824) (h : ∀ r : Nat, (r : Int) < m → P (.fz (.int r))) : (fs_draw [.st, .int m]).wp P E :=
  ⟨⟨h1, .inl h2⟩, fun d ⟨r, e, hr⟩ => by rw [e]; exact h r hr⟩
theorem draw_far {P : LV → Prop} {E : Nat → D → Prop} (h : ∀ r : Nat, (r : Int) < 10 ^ 30 → P (.fz (.int r))) : (fs_draw [.st, .int (10 ^ 30)]).wp P E :=
  ⟨⟨by decide, .inr rfl⟩, fun d ⟨r, e, hr⟩ => by rw [e]; exact h r hr⟩
/-- a word of signs of g, a to b long -/
structure Word (g : Str) (a b : Int) (z : Str) : Prop where
  lo : a ≤ (z.length : Int)
  hi : (z.length : Int) ≤ b
  of : ∀ c ∈ z.cps.toList, c ∈ g.cps.toList
def WordOk (g : Str) (a b : Int) : Prop := 1 ≤ g.length ∧ g.length ≤ 1000 ∧ 0 ≤ a ∧ a ≤ b ∧ b ≤ 1000
def fs_l_word : Fs := fun ds => match ds with
  | [.st, .str g, .int a, .int b] => .need (WordOk g a b) (M.pickF (Word g a b) .str fun d => .ret (.fz d))
  | _ => .bad
theorem word_wp {g : Str} {a b : Int} {P : LV → Prop} {E : Nat → D → Prop} (h : WordOk g a b) (q : ∀ z, Word g a b z → P (.fz (.str z))) : (fs_l_word [.st, .str g, .int a, .int b]).wp P E := needI h (wp_pickF.mpr fun z hz => by rw [wp_ret]; exact q z hz)
def m_l_word : Sm := (sSeq (sSet 4 (mC (D.str (Str.ofString "")))) (sSeq (sFor (iRange1 (m2 fAdd (mVar 2) (mCall 2 fs_l_draw (maCons (mVar 0) (maCons (m2 fAdd (m2 fSub (mVar 3) (mVar 2)) (mC (D.int 1))) maNil))))) (gN 5) (sSet 4 (m2 fAdd (mVar 4) (m2 fIx (mVar 1) (mCall 2 fs_l_draw (maCons (mVar 0) (maCons (mCB fLen (maCons (mVar 1) maNil)) maNil))))))) (sRetV 4)))
theorem one_len {c : Nat} : (⟨#[c]⟩ : Str).length = 1 := rfl
theorem mem_app {a b : Str} {c : Nat} : c ∈ (a ++ b).cps.toList ↔ c ∈ a.cps.toList ∨ c ∈ b.cps.toList := by
  show c ∈ (a.cps ++ b.cps).toList ↔ _
  rw [Array.toList_append, List.mem_append]
theorem mem_one {c d : Nat} : c ∈ (⟨#[d]⟩ : Str).cps.toList ↔ c = d := by
  show c ∈ [d] ↔ _
  rw [List.mem_singleton]
theorem ref_l_word {ds : List D} (hl : ds.length = 4) : Ref (runB m_l_word 6 ds) (fs_l_word ds) := by
  intro P E h
  unfold fs_l_word at h
  split at h
  · rename_i g a b
    rw [wp_need] at h
    obtain ⟨⟨h1, h2, h3, h4, h5⟩, h⟩ := h
    rw [wp_pickF] at h
    with_reducible refine wp_run fun R hR => ?_
    unfold m_l_word
    with_reducible refine wp_sq fun N hN => ?_
    walk_at "wps"
    refine hN.nx _ ?_
    clear hN N
    with_reducible refine wp_sq fun N hN => ?_
    refine wp_forA ?_
    walk_at "wps"
    refine draw_wp (by omega) (by omega) fun r hr => ?_
    walk_at "wps"
    refine ⟨⟨by omega, by omega⟩, ?_⟩
    refine wp_loopN (fun i ρ => ∃ z x5, ρ = [.fz .st, .fz (.str g), .fz (.int a), .fz (.int b), .fz (.str z), x5] ∧ z.length = i ∧ ∀ c ∈ z.cps.toList, c ∈ g.cps.toList) ⟨("" : Str), _, rfl, rfl, fun c hc => absurd hc List.not_mem_nil⟩ ?_ ?_
    · rintro i ρ hi ⟨z, x5, rfl, hz, hm⟩ F hF
      walk_at "wps"
      refine ⟨by omega, draw_wp (by omega) (by omega) fun k hk => ?_⟩
      have hk2 : k < g.cps.toList.length := by
        have : g.cps.toList.length = g.length := rfl
        omega
      simp only [atI_pos hk2, wp_ret, wp_need, wp_pick, wp_exc, wp_bad, wp_bindE, wp_trE, wp_noexE, opt_some, opt_none, toDs_nil, toDs_cons, toD_fz, toD_os, toD_ol, toD_ok, sSet, sIf, sRet, sRetV, sRetN, sExpr, sBrk, sCont, sFrz, sNil, setS, sUnp, sFldM, sRaise, sApp, sExt, sItem, popM, sPop, sPopTo, sSlice, sAug, mC, mVar, m2, m1, tVal, tTru, tAndM, tOrM, tNotM, mAnd, mOr, mNot, mIf, maNil, maCons, frz, mTup, mLst, mLstN, mSl, oNone, oSome, mRevL, mRevS, mCB, mCall, mCallB, mMeth, mFld, mProp, mMake, mChain, mLc, tYesM, lcF, gN, gAll, gT, iSeq, iRange1, iRange2, iEnumLM, iEnumTM, iZipLM, iterD, listF, wipeL, truth, flatR, unb, brw, owns, fI2, fSub, fNeg, fAdd, fMul, fEq_i, fEq_s, fEq_b, fCmp, fIsN, Dn.isNon, fIx, fSl, fLen, fList, fTuple, fInt, fStr, fAbs, fMax2, fMin2, isiD, mIsi, mFmt, mJs, mM1, mM0, fSplit, fPart, fFind, fStarts, eqK, peek, listD, seqD, nestD, mLenO, mAbsO, mIxO, iOwn, sTryAs, setX, endX, mXv, mIsX, gNilM, gLift, gYield, gFrom, mListG0, mListG, List.map_cons, List.map_nil, List.length_cons, List.length_nil, List.replicate, List.cons_append, List.nil_append, List.append_nil, List.getElem?_cons_zero, List.getElem?_cons_succ, List.getElem?_nil, List.set_cons_zero, List.set_cons_succ, List.set_nil, Nat.reduceAdd, Nat.reduceSub, Nat.add_zero, Nat.zero_add, Nat.sub_self, Nat.sub_zero, Bool.not_true, Bool.not_false, if_true, if_false, decide_true, decide_false, Bool.true_and, Bool.and_true, Bool.false_and, Bool.and_false, Bool.or_true, Bool.true_or, Bool.false_or, Bool.or_false, String.reduceBEq, reduceIte, Bool.false_eq_true, true_and, and_true, Option.map_some, Option.map_none, Option.bind_some, Option.bind_none]
      refine ⟨by omega, by rw [hz, one_len]; omega, hF.nx _ ⟨_, _, rfl, ?_, ?_⟩⟩
      · rw [Str.length_append, hz, one_len]
      · intro c hc
        rcases mem_app.mp hc with hc | hc
        · exact hm c hc
        · rw [mem_one.mp hc]
          exact List.getElem_mem _
    · rintro ρ ⟨z, x5, rfl, hz, hm⟩
      refine hN.nx _ ?_
      walk_at "wps"
      exact hR.rt _ rfl (retE (h z ⟨by omega, by omega, hm⟩))
  · exact badE h
end Dn
end

section
set_option Elab.async false
set_option linter.all false
set_option maxRecDepth 100000
set_option maxHeartbeats 1000000
namespace Dn
open PySem PySem.Spec PyProof.Rows L2 Evl GrO
local macro_rules | `(tactic| walk_at "wps") => `(tactic| simp only [wp_ret, wp_need, wp_pick, wp_exc, wp_bad, wp_bindE, wp_trE, wp_noexE, opt_some, opt_none, toDs_nil, toDs_cons, toD_fz, toD_os, toD_ol, toD_ok, sSet, sIf, sRet, sRetV, sRetN, sExpr, sBrk, sCont, sFrz, sNil, setS, sUnp, sFldM, sRaise, sApp, sExt, sItem, popM, sPop, sPopTo, sSlice, sAug, mC, mVar, m2, m1, tVal, tTru, tAndM, tOrM, tNotM, mAnd, mOr, mNot, mIf, maNil, maCons, frz, mTup, mLst, mLstN, mSl, oNone, oSome, mRevL, mRevS, mCB, mCall, mCallB, mMeth, mFld, mProp, mMake, mChain, mLc, tYesM, lcF, gN, gAll, gT, iSeq, iRange1, iRange2, iEnumLM, iEnumTM, iZipLM, iterD, listF, wipeL, truth, flatR, unb, brw, owns, fI2, fSub, fNeg, fAdd, fMul, fEq_i, fEq_s, fEq_b, fCmp, fIsN, Dn.isNon, fIx, fSl, fLen, fList, fTuple, fInt, fStr, fAbs, fMax2, fMin2, isiD, mIsi, mFmt, mJs, mM1, mM0, fSplit, fPart, fFind, fStarts, eqK, peek, listD, seqD, nestD, mLenO, mAbsO, mIxO, iOwn, sTryAs, setX, endX, mXv, mIsX, gNilM, gLift, gYield, gFrom, mListG0, mListG, List.map_cons, List.map_nil, List.length_cons, List.length_nil, List.replicate, List.cons_append, List.nil_append, List.append_nil, List.getElem?_cons_zero, List.getElem?_cons_succ, List.getElem?_nil, List.set_cons_zero, List.set_cons_succ, List.set_nil, Nat.reduceAdd, Nat.reduceSub, Nat.add_zero, Nat.zero_add, Nat.sub_self, Nat.sub_zero, Bool.not_true, Bool.not_false, if_true, if_false, decide_true, decide_false, Bool.true_and, Bool.and_true, Bool.false_and, Bool.and_false, Bool.or_true, Bool.true_or, Bool.false_or, Bool.or_false, String.reduceBEq, reduceIte, Bool.false_eq_true, true_and, and_true, Option.map_some, Option.map_none, Option.bind_some, Option.bind_none])
/-! ## groups, joins, lines -/
def osD : D → M LV
  | .lst ds => .ret (.os ds)
  | _ => .bad
def GrpsOk (g : Str) (top size : Int) : Prop := 1 ≤ g.length ∧ g.length ≤ 1000 ∧ 0 ≤ top ∧ top ≤ 1000 ∧ 1 ≤ size ∧ size ≤ 1000
structure Grps (g : Str) (top size : Int) (zs : List Str) : Prop where
  hi : (zs.length : Int) ≤ top
  of : ∀ z ∈ zs, Word g 1 size z
def fs_l_groups : Fs := fun ds => match ds with
  | [.st, .str g, .int top, .int size] => .need (GrpsOk g top size) (M.pickF (Grps g top size) (fun zs => .lst (zs.map .str)) osD)
  | _ => .bad
theorem groups_wp {g : Str} {top size : Int} {P : LV → Prop} {E : Nat → D → Prop} (h : GrpsOk g top size) (q : ∀ zs, Grps g top size zs → P (.os (zs.map .str))) : (fs_l_groups [.st, .str g, .int top, .int size]).wp P E := needI h (wp_pickF.mpr fun z hz => by
  unfold osD
  rw [wp_ret]
  exact q z hz)
def m_l_groups : Sm := (sSeq (sSet 4 (m2 fMod (m2 fAdd (mCall 2 fs_l_draw (maCons (mVar 0) (maCons (m2 fAdd (mVar 2) (mC (D.int 1))) maNil))) (mC (D.int 1))) (m2 fAdd (mVar 2) (mC (D.int 1))))) (sRet (mLc (iRange1 (mVar 4)) (gN 5) tYesM (mCall 4 fs_l_word (maCons (mVar 0) (maCons (mVar 1) (maCons (mC (D.int 1)) (maCons (mVar 3) maNil))))) [5])))
def m_l_joins : Sm := (sSeq (sSet 4 (mLst maNil)) (sSeq (sSet 5 (mVar 1)) (sSeq (sIf (tVal (m2 (fEq false) (mVar 2) (mLst maNil))) (sFrz 4 (sRet (mLst (maCons (mVar 4) (maCons (mVar 5) maNil))))) sNil) (sSeq (sFor (iRange1 (mCall 2 fs_l_draw (maCons (mVar 0) (maCons (m2 fAdd (mVar 3) (mC (D.int 1))) maNil)))) (gN 6) (sSeq (sSet 7 (m2 fIx (mVar 2) (mCall 2 fs_l_draw (maCons (mVar 0) (maCons (mCB fLen (maCons (mVar 2) maNil)) maNil))))) (sSeq (sSet 8 (mCall 2 fs_l_draw (maCons (mVar 0) (maCons (mC (D.int 8)) maNil)))) (sSeq (sSet 9 (mCall 2 fs_l_draw (maCons (mVar 0) (maCons (m2 fAdd (mCB fLen (maCons (mVar 5) maNil)) (mC (D.int 1))) maNil)))) (sSeq (sIf (tAndM (tVal (m2 fGt (mVar 6) (mC (D.int 0)))) (tVal (m2 fGt (mVar 8) (mC (D.int 3))))) (sSeq (sUnp (gT 2 [gN 10, gN 11]) (m2 fIx (mVar 4) (m2 fSub (mVar 6) (mC (D.int 1))))) (sIf (tVal (m2 (fEq false) (mVar 8) (mC (D.int 4)))) (sSet 9 (mVar 10)) (sIf (tVal (m2 (fEq false) (mVar 8) (mC (D.int 5)))) (sSet 9 (m2 fAdd (mVar 10) (mCB fLen (maCons (mVar 11) maNil)))) (sIf (tVal (m2 fGt (mCB fLen (maCons (mVar 11) maNil)) (mC (D.int 1)))) (sSet 9 (m2 fAdd (m2 fAdd (mVar 10) (mC (D.int 1))) (m2 fMod (mVar 9) (m2 fSub (mCB fLen (maCons (mVar 11) maNil)) (mC (D.int 1)))))) sNil)))) sNil) (sSeq (sApp 4 (mTup (maCons (mVar 9) (maCons (mVar 7) maNil)))) (sSet 5 (m2 fAdd (m2 fAdd (mSl fSl (mVar 5) oNone (oSome (mVar 9))) (mVar 7)) (mSl fSl (mVar 5) (oSome (mVar 9)) oNone))))))))) (sFrz 4 (sRet (mLst (maCons (mVar 4) (maCons (mVar 5) maNil)))))))))
def m_l_line : Sm := (sSeq (sSet 3 (mLc (iRange1 (mCB fLen (maCons (mVar 0) maNil))) (gN 2) tYesM (mLst (maCons (mC (D.int 0)) (maCons (m2 fAdd (mVar 2) (mC (D.int 1))) (maCons (m2 fIx (mVar 0) (mVar 2)) maNil)))) [2])) (sSeq (sFor (iRange1 (mCB fLen (maCons (mVar 1) maNil))) (gN 2) (sSeq (sUnp (gT 2 [gN 4, gN 5]) (m2 fIx (mVar 1) (mVar 2))) (sSet 3 (m2 fAdd (m2 fAdd (mSl fSl (mVar 3) oNone (oSome (mVar 4))) (mLc (iRange1 (mCB fLen (maCons (mVar 5) maNil))) (gN 6) tYesM (mLst (maCons (m2 fAdd (mVar 2) (mC (D.int 1))) (maCons (m2 fAdd (mVar 6) (mC (D.int 1))) (maCons (m2 fIx (mVar 5) (mVar 6)) maNil)))) [6])) (mSl fSl (mVar 3) (oSome (mVar 4)) oNone))))) (sRetV 3)))
theorem ref_l_groups {ds : List D} (hl : ds.length = 4) : Ref (runB m_l_groups 6 ds) (fs_l_groups ds) := by
  intro P E h
  unfold fs_l_groups at h
  split at h
  · rename_i g top size
    rw [wp_need] at h
    obtain ⟨⟨h1, h2, h3, h4, h5, h6⟩, h⟩ := h
    rw [wp_pickF] at h
    refine wp_run fun R hR => ?_
    unfold m_l_groups
    refine wp_sq fun N hN => ?_
    walk_at "wps"
    refine draw_wp (by omega) (by omega) fun r hr => ?_
    walk_at "wps"
    refine ⟨by omega, hN.nx _ ?_⟩
    clear hN N
    walk_at "wps"
    have hm1 : 0 ≤ ((r : Int) + 1) % (top + 1) := Int.emod_nonneg _ (by omega)
    have hm2 : ((r : Int) + 1) % (top + 1) < top + 1 := Int.emod_lt_of_pos _ (by omega)
    refine ⟨⟨by omega, by omega⟩, ?_⟩
    refine wp_lcM (fun i out => ∃ zs : List Str, out = zs.map .str ∧ zs.length = i ∧ ∀ z ∈ zs, Word g 1 size z) ⟨[], rfl, rfl, fun z hz => absurd hz List.not_mem_nil⟩ ?_ ?_
    · rintro out ⟨zs, rfl, hz, hw⟩
      refine hR.rt _ rfl (retE (h zs ⟨?_, hw⟩))
      unfold rangeD at hz
      rw [List.length_map, List.length_range] at hz
      omega
    · rintro i d out hd ⟨zs, rfl, hz, hw⟩
      walk_at "wps"
      refine word_wp ⟨h1, h2, by omega, by omega, by omega⟩ fun z hz2 => ?_
      walk_at "wps"
      have hi := (List.getElem?_eq_some_iff.mp hd).1
      unfold rangeD at hi
      rw [List.length_map, List.length_range] at hi
      refine ⟨by rw [List.length_map]; omega, zs ++ [z], by rw [List.map_append]; rfl, by rw [List.length_append, hz]; rfl, fun x hx => ?_⟩
      rcases List.mem_append.mp hx with hx | hx
      · exact hw x hx
      · rw [List.mem_singleton.mp hx]
        exact hz2
  · exact badE h
theorem play_snoc {row cur z : Str} {js : List (Int × Str)} {g : Int} : play row js = .row cur → 0 ≤ g → g ≤ (cur.length : Int) → groupB z = true → play row (js ++ [(g, z)]) = .row (insS cur g z) := by
  induction js generalizing row with
  | nil =>
    intro h h0 h1 hg
    have e : row = cur := Fate.row.inj h
    subst e
    show play row [(g, z)] = _
    rw [play_cons, if_pos ⟨h0, h1⟩, if_pos hg]
    rfl
  | cons j r ih =>
    obtain ⟨a, b⟩ := j
    intro h h0 h1 hg
    obtain ⟨k0, k1, k2, k3⟩ := play_row h
    show play row ((a, b) :: (r ++ [(g, z)])) = _
    rw [play_cons, if_pos ⟨k0, k1⟩, if_pos k2]
    exact ih k3 h0 h1 hg
theorem play_len {row cur : Str} {js : List (Int × Str)} : play row js = .row cur → cur.length = row.length + (js.map fun j => j.2.length).sum := by
  induction js generalizing row with
  | nil =>
    intro h
    cases h
    simp
  | cons j r ih =>
    obtain ⟨a, b⟩ := j
    intro h
    obtain ⟨k0, k1, k2, k3⟩ := play_row h
    rw [ih k3, ins_len k0 k1, List.map_cons, List.sum_cons]
    show _ = row.length + (b.length + _)
    omega
theorem sum_bnd {α : Type} {f : α → Nat} {b : Nat} : ∀ {l : List α}, (∀ a ∈ l, f a ≤ b) → (l.map f).sum ≤ b * l.length
  | [], _ => by simp
  | a :: r, h => by
    have h1 := h a List.mem_cons_self
    have h2 := sum_bnd (l := r) (f := f) (b := b) (fun x hx => h x (List.mem_cons_of_mem _ hx))
    rw [List.map_cons, List.sum_cons, List.length_cons, Nat.mul_succ]
    omega
def JoinsOk (row : Str) (zs : List Str) (top : Int) : Prop := row.length ≤ 1000 ∧ 0 ≤ top ∧ top ≤ 100 ∧ zs.length ≤ 1000 ∧ ∀ z ∈ zs, groupB z = true ∧ z.length ≤ 100
structure Joins (row : Str) (zs : List Str) (top : Int) (p : List (Int × Str) × Str) : Prop where
  plays : play row p.1 = .row p.2
  hi : (p.1.length : Int) ≤ top
  of : ∀ j ∈ p.1, j.2 ∈ zs
def madeD (p : List (Int × Str) × Str) : D := .lst [.lst (p.1.map jD), .str p.2]
def fs_l_joins : Fs := fun ds => match ds with
  | [.st, .str row, .lst gs, .int top] => M.opt (strsD gs) fun zs => .need (JoinsOk row zs top) (M.pickF (Joins row zs top) madeD osD)
  | _ => .bad
theorem joins_wp {row : Str} {zs : List Str} {top : Int} {P : LV → Prop} {E : Nat → D → Prop} (h : JoinsOk row zs top) (q : ∀ js e, Joins row zs top (js, e) → P (.os [.lst (js.map jD), .str e])) : (fs_l_joins [.st, .str row, .lst (zs.map .str), .int top]).wp P E := by
  unfold fs_l_joins
  simp only
  rw [strsD_map, opt_some]
  exact needI h (wp_pickF.mpr fun p hp => by
    unfold osD madeD
    rw [wp_ret]
    exact q p.1 p.2 hp)
theorem strsD_of : ∀ {ds : List D} {zs : List Str}, strsD ds = some zs → ds = zs.map .str
  | [], zs, h => by cases h; rfl
  | d :: r, zs, h => by
    unfold strsD at h
    split at h
    · rename_i heq; cases heq
    · rename_i heq
      cases heq
      obtain ⟨z', h1, rfl⟩ := Option.map_eq_some_iff.mp h
      rw [strsD_of h1]
      rfl
    · cases h
theorem low_lt : ∀ c ∈ LETL, c < 128 := by decide +kernel
theorem group_sgn {z : Str} (h : groupB z = true) : (∀ c ∈ z.cps.toList, c < 128) ∧ z ≠ "" := by
  unfold groupB lowB at h
  rw [Bool.and_eq_true, decide_eq_true_iff, List.all_eq_true] at h
  exact ⟨fun c hc => low_lt c (of_decide_eq_true (h.2 c hc)), h.1⟩
theorem group_pos {z : Str} (h : groupB z = true) : 1 ≤ z.length := by
  have h1 := (group_sgn h).2
  obtain ⟨l, rfl⟩ := tx_ex z
  cases l with
  | nil => exact absurd rfl h1
  | cons a r => rw [tx_len, List.length_cons]; omega
theorem nil_test {zs : List Str} {P : LV → Prop} {E : Nat → D → Prop} (h : ∀ z ∈ zs, groupB z = true) (q : P (.fz (.bl (decide (zs = []))))) : (fEq false (.fz (.lst (zs.map .str))) (.os [])).wp P E := by
  refine fEq_wp (n := 1) (m := 1) rfl rfl (fun d hd => ?_) (fun d hd => absurd hd List.not_mem_nil) (by decide) (by decide) ?_
  · obtain ⟨z, hz, rfl⟩ := List.mem_map.mp hd
    exact Pl.str (strOk_of fun c hc => Nat.lt_trans ((group_sgn (h z hz)).1 c hc) (by decide))
  · have : decide (D.lst (zs.map .str) = D.lst []) = decide (zs = []) := by
      simp only [D.lst.injEq, List.map_eq_nil_iff]
    rw [this]
    exact q
theorem ref_l_joins {ds : List D} (hl : ds.length = 4) : Ref (runB m_l_joins 12 ds) (fs_l_joins ds) := by
  intro P E h
  unfold fs_l_joins at h
  split at h
  · rename_i row gs top
    obtain ⟨zs, hz, k⟩ := M.wp_opt.mp h
    clear h
    obtain rfl := strsD_of hz
    rw [wp_need] at k
    obtain ⟨⟨h1, h2, h3, h4, h5⟩, k⟩ := k
    rw [wp_pickF] at k
    have fin : ∀ {R : Fl → Prop}, Rn P E R → ∀ js e, Joins row zs top (js, e) → R (.ret (.os [.lst (js.map jD), .str e])) := fun {R} hR js e hj => hR.rt _ rfl (by
      have := k (js, e) hj
      unfold madeD osD at this
      exact retE this)
    refine wp_run fun R hR => ?_
    unfold m_l_joins
    refine wp_sq fun N hN => ?_
    walk_at "wps"
    refine ⟨by decide, hN.nx _ ?_⟩
    clear hN N
    refine wp_sq fun N hN => ?_
    walk_at "wps"
    refine hN.nx _ ?_
    clear hN N
    refine wp_sq fun N hN => ?_
    walk_at "wps"
    refine ⟨by decide, nil_test (fun z hz => (h5 z hz).1) ?_⟩
    by_cases hz0 : zs = []
    · simp only [hz0, wp_ret, wp_need, wp_pick, wp_exc, wp_bad, wp_bindE, wp_trE, wp_noexE, opt_some, opt_none, toDs_nil, toDs_cons, toD_fz, toD_os, toD_ol, toD_ok, sSet, sIf, sRet, sRetV, sRetN, sExpr, sBrk, sCont, sFrz, sNil, setS, sUnp, sFldM, sRaise, sApp, sExt, sItem, popM, sPop, sPopTo, sSlice, sAug, mC, mVar, m2, m1, tVal, tTru, tAndM, tOrM, tNotM, mAnd, mOr, mNot, mIf, maNil, maCons, frz, mTup, mLst, mLstN, mSl, oNone, oSome, mRevL, mRevS, mCB, mCall, mCallB, mMeth, mFld, mProp, mMake, mChain, mLc, tYesM, lcF, gN, gAll, gT, iSeq, iRange1, iRange2, iEnumLM, iEnumTM, iZipLM, iterD, listF, wipeL, truth, flatR, unb, brw, owns, fI2, fSub, fNeg, fAdd, fMul, fEq_i, fEq_s, fEq_b, fCmp, fIsN, Dn.isNon, fIx, fSl, fLen, fList, fTuple, fInt, fStr, fAbs, fMax2, fMin2, isiD, mIsi, mFmt, mJs, mM1, mM0, fSplit, fPart, fFind, fStarts, eqK, peek, listD, seqD, nestD, mLenO, mAbsO, mIxO, iOwn, sTryAs, setX, endX, mXv, mIsX, gNilM, gLift, gYield, gFrom, mListG0, mListG, List.map_cons, List.map_nil, List.length_cons, List.length_nil, List.replicate, List.cons_append, List.nil_append, List.append_nil, List.getElem?_cons_zero, List.getElem?_cons_succ, List.getElem?_nil, List.set_cons_zero, List.set_cons_succ, List.set_nil, Nat.reduceAdd, Nat.reduceSub, Nat.add_zero, Nat.zero_add, Nat.sub_self, Nat.sub_zero, Bool.not_true, Bool.not_false, if_true, if_false, decide_true, decide_false, Bool.true_and, Bool.and_true, Bool.false_and, Bool.and_false, Bool.or_true, Bool.true_or, Bool.false_or, Bool.or_false, String.reduceBEq, reduceIte, Bool.false_eq_true, true_and, and_true, Option.map_some, Option.map_none, Option.bind_some, Option.bind_none]
      exact ⟨by decide, hN.rt _ (fin hR [] row ⟨rfl, h2, fun j hj => absurd hj List.not_mem_nil⟩)⟩
    · simp only [hz0, wp_ret, wp_need, wp_pick, wp_exc, wp_bad, wp_bindE, wp_trE, wp_noexE, opt_some, opt_none, toDs_nil, toDs_cons, toD_fz, toD_os, toD_ol, toD_ok, sSet, sIf, sRet, sRetV, sRetN, sExpr, sBrk, sCont, sFrz, sNil, setS, sUnp, sFldM, sRaise, sApp, sExt, sItem, popM, sPop, sPopTo, sSlice, sAug, mC, mVar, m2, m1, tVal, tTru, tAndM, tOrM, tNotM, mAnd, mOr, mNot, mIf, maNil, maCons, frz, mTup, mLst, mLstN, mSl, oNone, oSome, mRevL, mRevS, mCB, mCall, mCallB, mMeth, mFld, mProp, mMake, mChain, mLc, tYesM, lcF, gN, gAll, gT, iSeq, iRange1, iRange2, iEnumLM, iEnumTM, iZipLM, iterD, listF, wipeL, truth, flatR, unb, brw, owns, fI2, fSub, fNeg, fAdd, fMul, fEq_i, fEq_s, fEq_b, fCmp, fIsN, Dn.isNon, fIx, fSl, fLen, fList, fTuple, fInt, fStr, fAbs, fMax2, fMin2, isiD, mIsi, mFmt, mJs, mM1, mM0, fSplit, fPart, fFind, fStarts, eqK, peek, listD, seqD, nestD, mLenO, mAbsO, mIxO, iOwn, sTryAs, setX, endX, mXv, mIsX, gNilM, gLift, gYield, gFrom, mListG0, mListG, List.map_cons, List.map_nil, List.length_cons, List.length_nil, List.replicate, List.cons_append, List.nil_append, List.append_nil, List.getElem?_cons_zero, List.getElem?_cons_succ, List.getElem?_nil, List.set_cons_zero, List.set_cons_succ, List.set_nil, Nat.reduceAdd, Nat.reduceSub, Nat.add_zero, Nat.zero_add, Nat.sub_self, Nat.sub_zero, Bool.not_true, Bool.not_false, if_true, if_false, decide_true, decide_false, Bool.true_and, Bool.and_true, Bool.false_and, Bool.and_false, Bool.or_true, Bool.true_or, Bool.false_or, Bool.or_false, String.reduceBEq, reduceIte, Bool.false_eq_true, true_and, and_true, Option.map_some, Option.map_none, Option.bind_some, Option.bind_none]
      refine hN.nx _ ?_
      clear hN N
      have hzl : 1 ≤ zs.length := by
        cases zs with
        | nil => exact absurd rfl hz0
        | cons a r => rw [List.length_cons]; omega
      refine wp_sq fun N hN => ?_
      refine wp_forA ?_
      walk_at "wps"
      refine draw_wp (by omega) (by omega) fun r hr => ?_
      walk_at "wps"
      refine ⟨⟨by omega, by omega⟩, ?_⟩
      refine wp_loopN (fun i ρ => ∃ js cur x6 x7 x8 x9 x10 x11, ρ = [.fz .st, .fz (.str row), .fz (.lst (zs.map .str)), .fz (.int top), .os (js.map jD), .fz (.str cur), x6, x7, x8, x9, x10, x11] ∧ play row js = .row cur ∧ js.length = i ∧ (∀ j ∈ js, j.2 ∈ zs) ∧ ∀ j, js[i - 1]? = some j → 0 ≤ j.1 ∧ j.1 + j.2.length ≤ (cur.length : Int))
        ⟨[], row, _, _, _, _, _, _, rfl, rfl, rfl, fun j hj => absurd hj List.not_mem_nil, fun j hj => by cases hj⟩ ?_ ?_
      · rintro i ρ hi ⟨js, cur, x6, x7, x8, x9, x10, x11, rfl, hp, hjl, hof, hlast⟩ F hF
        have hcl : cur.length ≤ 1000 + 100 * i := by
          have h7 := play_len hp
          have h8 := sum_bnd (l := js) (f := fun j => j.2.length) (b := 100) (fun j hj => (h5 _ (hof j hj)).2)
          rw [hjl] at h8
          omega
        walk_at "wps"
        refine wp_sq fun N2 hN2 => ?_
        walk_at "wps"
        refine draw_wp (by rw [List.length_map]; omega) (by rw [List.length_map]; omega) fun r2 hr2 => ?_
        rw [List.length_map] at hr2
        have hlt : r2 < zs.length := by omega
        simp only [atI_get (show (zs.map D.str)[r2]? = some (.str zs[r2]) by rw [List.getElem?_map, List.getElem?_eq_getElem hlt]; rfl), wp_ret, wp_need, wp_pick, wp_exc, wp_bad, wp_bindE, wp_trE, wp_noexE, opt_some, opt_none, toDs_nil, toDs_cons, toD_fz, toD_os, toD_ol, toD_ok, sSet, sIf, sRet, sRetV, sRetN, sExpr, sBrk, sCont, sFrz, sNil, setS, sUnp, sFldM, sRaise, sApp, sExt, sItem, popM, sPop, sPopTo, sSlice, sAug, mC, mVar, m2, m1, tVal, tTru, tAndM, tOrM, tNotM, mAnd, mOr, mNot, mIf, maNil, maCons, frz, mTup, mLst, mLstN, mSl, oNone, oSome, mRevL, mRevS, mCB, mCall, mCallB, mMeth, mFld, mProp, mMake, mChain, mLc, tYesM, lcF, gN, gAll, gT, iSeq, iRange1, iRange2, iEnumLM, iEnumTM, iZipLM, iterD, listF, wipeL, truth, flatR, unb, brw, owns, fI2, fSub, fNeg, fAdd, fMul, fEq_i, fEq_s, fEq_b, fCmp, fIsN, Dn.isNon, fIx, fSl, fLen, fList, fTuple, fInt, fStr, fAbs, fMax2, fMin2, isiD, mIsi, mFmt, mJs, mM1, mM0, fSplit, fPart, fFind, fStarts, eqK, peek, listD, seqD, nestD, mLenO, mAbsO, mIxO, iOwn, sTryAs, setX, endX, mXv, mIsX, gNilM, gLift, gYield, gFrom, mListG0, mListG, List.map_cons, List.map_nil, List.length_cons, List.length_nil, List.replicate, List.cons_append, List.nil_append, List.append_nil, List.getElem?_cons_zero, List.getElem?_cons_succ, List.getElem?_nil, List.set_cons_zero, List.set_cons_succ, List.set_nil, Nat.reduceAdd, Nat.reduceSub, Nat.add_zero, Nat.zero_add, Nat.sub_self, Nat.sub_zero, Bool.not_true, Bool.not_false, if_true, if_false, decide_true, decide_false, Bool.true_and, Bool.and_true, Bool.false_and, Bool.and_false, Bool.or_true, Bool.true_or, Bool.false_or, Bool.or_false, String.reduceBEq, reduceIte, Bool.false_eq_true, true_and, and_true, Option.map_some, Option.map_none, Option.bind_some, Option.bind_none]
        refine hN2.nx _ ?_
        clear hN2 N2
        have hz2 := h5 _ (List.getElem_mem hlt)
        have hzm : zs[r2] ∈ zs := List.getElem_mem hlt
        generalize zs[r2] = z at hz2 hzm
        refine wp_sq fun N2 hN2 => ?_
        walk_at "wps"
        refine draw_wp (by omega) (by omega) fun way hway => ?_
        walk_at "wps"
        refine hN2.nx _ ?_
        clear hN2 N2
        refine wp_sq fun N2 hN2 => ?_
        walk_at "wps"
        refine ⟨by omega, draw_wp (by omega) (by omega) fun gap hgap => ?_⟩
        walk_at "wps"
        refine hN2.nx _ ?_
        clear hN2 N2
        refine wp_sq fun N2 hN2 => ?_
        have tail : ∀ (g : Int) x10 x11, 0 ≤ g → g ≤ (cur.length : Int) → N2 (.next [.fz .st, .fz (.str row), .fz (.lst (zs.map .str)), .fz (.int top), .os (js.map jD), .fz (.str cur), .fz (.int (0 + (i : Int))), .fz (.str z), .fz (.int way), .fz (.int g), x10, x11]) := by
          intro g x10 x11 hg0 hg1
          refine hN2.nx _ ?_
          clear hN2 N2
          have hins := ins_len (z := z) hg0 hg1
          have e1 : (cutS cur none (some g)).length + z.length + (cutS cur (some g) none).length = (insS cur g z).length := by
            unfold insS
            simp only [Str.length_append]
          refine wp_sq fun N2 hN2 => ?_
          walk_at "wps"
          refine ⟨by decide, by rw [List.length_map]; omega, hN2.nx _ ?_⟩
          clear hN2 N2
          walk_at "wps"
          rw [show js.map jD ++ [D.tup [D.int g, D.str z]] = (js ++ [(g, z)]).map jD from by rw [List.map_append]; rfl]
          refine ⟨by omega, by omega, by omega, by rw [Str.length_append]; omega, hF.nx _ ⟨js ++ [(g, z)], insS cur g z, _, _, _, _, _, _, rfl, play_snoc hp hg0 hg1 hz2.1, ?_, ?_, ?_⟩⟩
          · rw [List.length_append, hjl]
            rfl
          · intro j hj
            rcases List.mem_append.mp hj with hj | hj
            · exact hof j hj
            · rw [List.mem_singleton.mp hj]
              exact hzm
          · intro j hj
            rw [Nat.add_sub_cancel, List.getElem?_append_right (by omega), hjl, Nat.sub_self] at hj
            cases hj
            exact ⟨hg0, by show g + (z.length : Int) ≤ _; omega⟩
        walk_at "wps"
        by_cases hk : (0 : Int) < 0 + (i : Int)
        · simp only [hk, wp_ret, wp_need, wp_pick, wp_exc, wp_bad, wp_bindE, wp_trE, wp_noexE, opt_some, opt_none, toDs_nil, toDs_cons, toD_fz, toD_os, toD_ol, toD_ok, sSet, sIf, sRet, sRetV, sRetN, sExpr, sBrk, sCont, sFrz, sNil, setS, sUnp, sFldM, sRaise, sApp, sExt, sItem, popM, sPop, sPopTo, sSlice, sAug, mC, mVar, m2, m1, tVal, tTru, tAndM, tOrM, tNotM, mAnd, mOr, mNot, mIf, maNil, maCons, frz, mTup, mLst, mLstN, mSl, oNone, oSome, mRevL, mRevS, mCB, mCall, mCallB, mMeth, mFld, mProp, mMake, mChain, mLc, tYesM, lcF, gN, gAll, gT, iSeq, iRange1, iRange2, iEnumLM, iEnumTM, iZipLM, iterD, listF, wipeL, truth, flatR, unb, brw, owns, fI2, fSub, fNeg, fAdd, fMul, fEq_i, fEq_s, fEq_b, fCmp, fIsN, Dn.isNon, fIx, fSl, fLen, fList, fTuple, fInt, fStr, fAbs, fMax2, fMin2, isiD, mIsi, mFmt, mJs, mM1, mM0, fSplit, fPart, fFind, fStarts, eqK, peek, listD, seqD, nestD, mLenO, mAbsO, mIxO, iOwn, sTryAs, setX, endX, mXv, mIsX, gNilM, gLift, gYield, gFrom, mListG0, mListG, List.map_cons, List.map_nil, List.length_cons, List.length_nil, List.replicate, List.cons_append, List.nil_append, List.append_nil, List.getElem?_cons_zero, List.getElem?_cons_succ, List.getElem?_nil, List.set_cons_zero, List.set_cons_succ, List.set_nil, Nat.reduceAdd, Nat.reduceSub, Nat.add_zero, Nat.zero_add, Nat.sub_self, Nat.sub_zero, Bool.not_true, Bool.not_false, if_true, if_false, decide_true, decide_false, Bool.true_and, Bool.and_true, Bool.false_and, Bool.and_false, Bool.or_true, Bool.true_or, Bool.false_or, Bool.or_false, String.reduceBEq, reduceIte, Bool.false_eq_true, true_and, and_true, Option.map_some, Option.map_none, Option.bind_some, Option.bind_none]
          by_cases hw : (3 : Int) < way
          · simp only [hw, wp_ret, wp_need, wp_pick, wp_exc, wp_bad, wp_bindE, wp_trE, wp_noexE, opt_some, opt_none, toDs_nil, toDs_cons, toD_fz, toD_os, toD_ol, toD_ok, sSet, sIf, sRet, sRetV, sRetN, sExpr, sBrk, sCont, sFrz, sNil, setS, sUnp, sFldM, sRaise, sApp, sExt, sItem, popM, sPop, sPopTo, sSlice, sAug, mC, mVar, m2, m1, tVal, tTru, tAndM, tOrM, tNotM, mAnd, mOr, mNot, mIf, maNil, maCons, frz, mTup, mLst, mLstN, mSl, oNone, oSome, mRevL, mRevS, mCB, mCall, mCallB, mMeth, mFld, mProp, mMake, mChain, mLc, tYesM, lcF, gN, gAll, gT, iSeq, iRange1, iRange2, iEnumLM, iEnumTM, iZipLM, iterD, listF, wipeL, truth, flatR, unb, brw, owns, fI2, fSub, fNeg, fAdd, fMul, fEq_i, fEq_s, fEq_b, fCmp, fIsN, Dn.isNon, fIx, fSl, fLen, fList, fTuple, fInt, fStr, fAbs, fMax2, fMin2, isiD, mIsi, mFmt, mJs, mM1, mM0, fSplit, fPart, fFind, fStarts, eqK, peek, listD, seqD, nestD, mLenO, mAbsO, mIxO, iOwn, sTryAs, setX, endX, mXv, mIsX, gNilM, gLift, gYield, gFrom, mListG0, mListG, List.map_cons, List.map_nil, List.length_cons, List.length_nil, List.replicate, List.cons_append, List.nil_append, List.append_nil, List.getElem?_cons_zero, List.getElem?_cons_succ, List.getElem?_nil, List.set_cons_zero, List.set_cons_succ, List.set_nil, Nat.reduceAdd, Nat.reduceSub, Nat.add_zero, Nat.zero_add, Nat.sub_self, Nat.sub_zero, Bool.not_true, Bool.not_false, if_true, if_false, decide_true, decide_false, Bool.true_and, Bool.and_true, Bool.false_and, Bool.and_false, Bool.or_true, Bool.true_or, Bool.false_or, Bool.or_false, String.reduceBEq, reduceIte, Bool.false_eq_true, true_and, and_true, Option.map_some, Option.map_none, Option.bind_some, Option.bind_none]
            refine wp_sq fun N3 hN3 => ?_
            have hi1 : i - 1 < js.length := by omega
            have e1 : (0 : Int) + (i : Int) + -1 = ((i - 1 : Nat) : Int) := by omega
            have e2 : (0 : Int) + (i : Int) - 1 = ((i - 1 : Nat) : Int) := by omega
            obtain ⟨l0, l1⟩ := hlast _ (List.getElem?_eq_getElem hi1)
            have hj1 : (js.map jD)[i - 1]? = some (.tup [.int js[i - 1].1, .str js[i - 1].2]) := by
              rw [List.getElem?_map, List.getElem?_eq_getElem hi1]
              rfl
            have hzz := h5 _ (hof _ (List.getElem_mem hi1))
            generalize js[i - 1].1 = lg at l0 l1 hj1
            generalize js[i - 1].2 = lz at l1 hj1 hzz
            simp only [e2, atI_get hj1, wp_ret, wp_need, wp_pick, wp_exc, wp_bad, wp_bindE, wp_trE, wp_noexE, opt_some, opt_none, toDs_nil, toDs_cons, toD_fz, toD_os, toD_ol, toD_ok, sSet, sIf, sRet, sRetV, sRetN, sExpr, sBrk, sCont, sFrz, sNil, setS, sUnp, sFldM, sRaise, sApp, sExt, sItem, popM, sPop, sPopTo, sSlice, sAug, mC, mVar, m2, m1, tVal, tTru, tAndM, tOrM, tNotM, mAnd, mOr, mNot, mIf, maNil, maCons, frz, mTup, mLst, mLstN, mSl, oNone, oSome, mRevL, mRevS, mCB, mCall, mCallB, mMeth, mFld, mProp, mMake, mChain, mLc, tYesM, lcF, gN, gAll, gT, iSeq, iRange1, iRange2, iEnumLM, iEnumTM, iZipLM, iterD, listF, wipeL, truth, flatR, unb, brw, owns, fI2, fSub, fNeg, fAdd, fMul, fEq_i, fEq_s, fEq_b, fCmp, fIsN, Dn.isNon, fIx, fSl, fLen, fList, fTuple, fInt, fStr, fAbs, fMax2, fMin2, isiD, mIsi, mFmt, mJs, mM1, mM0, fSplit, fPart, fFind, fStarts, eqK, peek, listD, seqD, nestD, mLenO, mAbsO, mIxO, iOwn, sTryAs, setX, endX, mXv, mIsX, gNilM, gLift, gYield, gFrom, mListG0, mListG, List.map_cons, List.map_nil, List.length_cons, List.length_nil, List.replicate, List.cons_append, List.nil_append, List.append_nil, List.getElem?_cons_zero, List.getElem?_cons_succ, List.getElem?_nil, List.set_cons_zero, List.set_cons_succ, List.set_nil, Nat.reduceAdd, Nat.reduceSub, Nat.add_zero, Nat.zero_add, Nat.sub_self, Nat.sub_zero, Bool.not_true, Bool.not_false, if_true, if_false, decide_true, decide_false, Bool.true_and, Bool.and_true, Bool.false_and, Bool.and_false, Bool.or_true, Bool.true_or, Bool.false_or, Bool.or_false, String.reduceBEq, reduceIte, Bool.false_eq_true, true_and, and_true, Option.map_some, Option.map_none, Option.bind_some, Option.bind_none]
            refine hN3.nx _ ?_
            walk_at "wps"
            by_cases h4w : (way : Int) = 4
            · simp only [h4w, wp_ret, wp_need, wp_pick, wp_exc, wp_bad, wp_bindE, wp_trE, wp_noexE, opt_some, opt_none, toDs_nil, toDs_cons, toD_fz, toD_os, toD_ol, toD_ok, sSet, sIf, sRet, sRetV, sRetN, sExpr, sBrk, sCont, sFrz, sNil, setS, sUnp, sFldM, sRaise, sApp, sExt, sItem, popM, sPop, sPopTo, sSlice, sAug, mC, mVar, m2, m1, tVal, tTru, tAndM, tOrM, tNotM, mAnd, mOr, mNot, mIf, maNil, maCons, frz, mTup, mLst, mLstN, mSl, oNone, oSome, mRevL, mRevS, mCB, mCall, mCallB, mMeth, mFld, mProp, mMake, mChain, mLc, tYesM, lcF, gN, gAll, gT, iSeq, iRange1, iRange2, iEnumLM, iEnumTM, iZipLM, iterD, listF, wipeL, truth, flatR, unb, brw, owns, fI2, fSub, fNeg, fAdd, fMul, fEq_i, fEq_s, fEq_b, fCmp, fIsN, Dn.isNon, fIx, fSl, fLen, fList, fTuple, fInt, fStr, fAbs, fMax2, fMin2, isiD, mIsi, mFmt, mJs, mM1, mM0, fSplit, fPart, fFind, fStarts, eqK, peek, listD, seqD, nestD, mLenO, mAbsO, mIxO, iOwn, sTryAs, setX, endX, mXv, mIsX, gNilM, gLift, gYield, gFrom, mListG0, mListG, List.map_cons, List.map_nil, List.length_cons, List.length_nil, List.replicate, List.cons_append, List.nil_append, List.append_nil, List.getElem?_cons_zero, List.getElem?_cons_succ, List.getElem?_nil, List.set_cons_zero, List.set_cons_succ, List.set_nil, Nat.reduceAdd, Nat.reduceSub, Nat.add_zero, Nat.zero_add, Nat.sub_self, Nat.sub_zero, Bool.not_true, Bool.not_false, if_true, if_false, decide_true, decide_false, Bool.true_and, Bool.and_true, Bool.false_and, Bool.and_false, Bool.or_true, Bool.true_or, Bool.false_or, Bool.or_false, String.reduceBEq, reduceIte, Bool.false_eq_true, true_and, and_true, Option.map_some, Option.map_none, Option.bind_some, Option.bind_none]
              rw [h4w] at tail
              exact tail _ _ _ l0 (by omega)
            · simp only [h4w, wp_ret, wp_need, wp_pick, wp_exc, wp_bad, wp_bindE, wp_trE, wp_noexE, opt_some, opt_none, toDs_nil, toDs_cons, toD_fz, toD_os, toD_ol, toD_ok, sSet, sIf, sRet, sRetV, sRetN, sExpr, sBrk, sCont, sFrz, sNil, setS, sUnp, sFldM, sRaise, sApp, sExt, sItem, popM, sPop, sPopTo, sSlice, sAug, mC, mVar, m2, m1, tVal, tTru, tAndM, tOrM, tNotM, mAnd, mOr, mNot, mIf, maNil, maCons, frz, mTup, mLst, mLstN, mSl, oNone, oSome, mRevL, mRevS, mCB, mCall, mCallB, mMeth, mFld, mProp, mMake, mChain, mLc, tYesM, lcF, gN, gAll, gT, iSeq, iRange1, iRange2, iEnumLM, iEnumTM, iZipLM, iterD, listF, wipeL, truth, flatR, unb, brw, owns, fI2, fSub, fNeg, fAdd, fMul, fEq_i, fEq_s, fEq_b, fCmp, fIsN, Dn.isNon, fIx, fSl, fLen, fList, fTuple, fInt, fStr, fAbs, fMax2, fMin2, isiD, mIsi, mFmt, mJs, mM1, mM0, fSplit, fPart, fFind, fStarts, eqK, peek, listD, seqD, nestD, mLenO, mAbsO, mIxO, iOwn, sTryAs, setX, endX, mXv, mIsX, gNilM, gLift, gYield, gFrom, mListG0, mListG, List.map_cons, List.map_nil, List.length_cons, List.length_nil, List.replicate, List.cons_append, List.nil_append, List.append_nil, List.getElem?_cons_zero, List.getElem?_cons_succ, List.getElem?_nil, List.set_cons_zero, List.set_cons_succ, List.set_nil, Nat.reduceAdd, Nat.reduceSub, Nat.add_zero, Nat.zero_add, Nat.sub_self, Nat.sub_zero, Bool.not_true, Bool.not_false, if_true, if_false, decide_true, decide_false, Bool.true_and, Bool.and_true, Bool.false_and, Bool.and_false, Bool.or_true, Bool.true_or, Bool.false_or, Bool.or_false, String.reduceBEq, reduceIte, Bool.false_eq_true, true_and, and_true, Option.map_some, Option.map_none, Option.bind_some, Option.bind_none]
              by_cases h5w : (way : Int) = 5
              · simp only [h5w, wp_ret, wp_need, wp_pick, wp_exc, wp_bad, wp_bindE, wp_trE, wp_noexE, opt_some, opt_none, toDs_nil, toDs_cons, toD_fz, toD_os, toD_ol, toD_ok, sSet, sIf, sRet, sRetV, sRetN, sExpr, sBrk, sCont, sFrz, sNil, setS, sUnp, sFldM, sRaise, sApp, sExt, sItem, popM, sPop, sPopTo, sSlice, sAug, mC, mVar, m2, m1, tVal, tTru, tAndM, tOrM, tNotM, mAnd, mOr, mNot, mIf, maNil, maCons, frz, mTup, mLst, mLstN, mSl, oNone, oSome, mRevL, mRevS, mCB, mCall, mCallB, mMeth, mFld, mProp, mMake, mChain, mLc, tYesM, lcF, gN, gAll, gT, iSeq, iRange1, iRange2, iEnumLM, iEnumTM, iZipLM, iterD, listF, wipeL, truth, flatR, unb, brw, owns, fI2, fSub, fNeg, fAdd, fMul, fEq_i, fEq_s, fEq_b, fCmp, fIsN, Dn.isNon, fIx, fSl, fLen, fList, fTuple, fInt, fStr, fAbs, fMax2, fMin2, isiD, mIsi, mFmt, mJs, mM1, mM0, fSplit, fPart, fFind, fStarts, eqK, peek, listD, seqD, nestD, mLenO, mAbsO, mIxO, iOwn, sTryAs, setX, endX, mXv, mIsX, gNilM, gLift, gYield, gFrom, mListG0, mListG, List.map_cons, List.map_nil, List.length_cons, List.length_nil, List.replicate, List.cons_append, List.nil_append, List.append_nil, List.getElem?_cons_zero, List.getElem?_cons_succ, List.getElem?_nil, List.set_cons_zero, List.set_cons_succ, List.set_nil, Nat.reduceAdd, Nat.reduceSub, Nat.add_zero, Nat.zero_add, Nat.sub_self, Nat.sub_zero, Bool.not_true, Bool.not_false, if_true, if_false, decide_true, decide_false, Bool.true_and, Bool.and_true, Bool.false_and, Bool.and_false, Bool.or_true, Bool.true_or, Bool.false_or, Bool.or_false, String.reduceBEq, reduceIte, Bool.false_eq_true, true_and, and_true, Option.map_some, Option.map_none, Option.bind_some, Option.bind_none]
                rw [h5w] at tail
                exact ⟨by omega, tail _ _ _ (by omega) (by omega)⟩
              · simp only [h5w, wp_ret, wp_need, wp_pick, wp_exc, wp_bad, wp_bindE, wp_trE, wp_noexE, opt_some, opt_none, toDs_nil, toDs_cons, toD_fz, toD_os, toD_ol, toD_ok, sSet, sIf, sRet, sRetV, sRetN, sExpr, sBrk, sCont, sFrz, sNil, setS, sUnp, sFldM, sRaise, sApp, sExt, sItem, popM, sPop, sPopTo, sSlice, sAug, mC, mVar, m2, m1, tVal, tTru, tAndM, tOrM, tNotM, mAnd, mOr, mNot, mIf, maNil, maCons, frz, mTup, mLst, mLstN, mSl, oNone, oSome, mRevL, mRevS, mCB, mCall, mCallB, mMeth, mFld, mProp, mMake, mChain, mLc, tYesM, lcF, gN, gAll, gT, iSeq, iRange1, iRange2, iEnumLM, iEnumTM, iZipLM, iterD, listF, wipeL, truth, flatR, unb, brw, owns, fI2, fSub, fNeg, fAdd, fMul, fEq_i, fEq_s, fEq_b, fCmp, fIsN, Dn.isNon, fIx, fSl, fLen, fList, fTuple, fInt, fStr, fAbs, fMax2, fMin2, isiD, mIsi, mFmt, mJs, mM1, mM0, fSplit, fPart, fFind, fStarts, eqK, peek, listD, seqD, nestD, mLenO, mAbsO, mIxO, iOwn, sTryAs, setX, endX, mXv, mIsX, gNilM, gLift, gYield, gFrom, mListG0, mListG, List.map_cons, List.map_nil, List.length_cons, List.length_nil, List.replicate, List.cons_append, List.nil_append, List.append_nil, List.getElem?_cons_zero, List.getElem?_cons_succ, List.getElem?_nil, List.set_cons_zero, List.set_cons_succ, List.set_nil, Nat.reduceAdd, Nat.reduceSub, Nat.add_zero, Nat.zero_add, Nat.sub_self, Nat.sub_zero, Bool.not_true, Bool.not_false, if_true, if_false, decide_true, decide_false, Bool.true_and, Bool.and_true, Bool.false_and, Bool.and_false, Bool.or_true, Bool.true_or, Bool.false_or, Bool.or_false, String.reduceBEq, reduceIte, Bool.false_eq_true, true_and, and_true, Option.map_some, Option.map_none, Option.bind_some, Option.bind_none]
                refine ⟨by omega, ?_⟩
                by_cases h6 : (1 : Int) < (lz.length : Int)
                · simp only [h6, wp_ret, wp_need, wp_pick, wp_exc, wp_bad, wp_bindE, wp_trE, wp_noexE, opt_some, opt_none, toDs_nil, toDs_cons, toD_fz, toD_os, toD_ol, toD_ok, sSet, sIf, sRet, sRetV, sRetN, sExpr, sBrk, sCont, sFrz, sNil, setS, sUnp, sFldM, sRaise, sApp, sExt, sItem, popM, sPop, sPopTo, sSlice, sAug, mC, mVar, m2, m1, tVal, tTru, tAndM, tOrM, tNotM, mAnd, mOr, mNot, mIf, maNil, maCons, frz, mTup, mLst, mLstN, mSl, oNone, oSome, mRevL, mRevS, mCB, mCall, mCallB, mMeth, mFld, mProp, mMake, mChain, mLc, tYesM, lcF, gN, gAll, gT, iSeq, iRange1, iRange2, iEnumLM, iEnumTM, iZipLM, iterD, listF, wipeL, truth, flatR, unb, brw, owns, fI2, fSub, fNeg, fAdd, fMul, fEq_i, fEq_s, fEq_b, fCmp, fIsN, Dn.isNon, fIx, fSl, fLen, fList, fTuple, fInt, fStr, fAbs, fMax2, fMin2, isiD, mIsi, mFmt, mJs, mM1, mM0, fSplit, fPart, fFind, fStarts, eqK, peek, listD, seqD, nestD, mLenO, mAbsO, mIxO, iOwn, sTryAs, setX, endX, mXv, mIsX, gNilM, gLift, gYield, gFrom, mListG0, mListG, List.map_cons, List.map_nil, List.length_cons, List.length_nil, List.replicate, List.cons_append, List.nil_append, List.append_nil, List.getElem?_cons_zero, List.getElem?_cons_succ, List.getElem?_nil, List.set_cons_zero, List.set_cons_succ, List.set_nil, Nat.reduceAdd, Nat.reduceSub, Nat.add_zero, Nat.zero_add, Nat.sub_self, Nat.sub_zero, Bool.not_true, Bool.not_false, if_true, if_false, decide_true, decide_false, Bool.true_and, Bool.and_true, Bool.false_and, Bool.and_false, Bool.or_true, Bool.true_or, Bool.false_or, Bool.or_false, String.reduceBEq, reduceIte, Bool.false_eq_true, true_and, and_true, Option.map_some, Option.map_none, Option.bind_some, Option.bind_none]
                  have m1 := Int.emod_nonneg (gap : Int) (show (lz.length : Int) - 1 ≠ 0 by omega)
                  have m2 := Int.emod_lt_of_pos (gap : Int) (show 0 < (lz.length : Int) - 1 by omega)
                  exact ⟨by omega, by omega, tail _ _ _ (by omega) (by omega)⟩
                · simp only [h6, wp_ret, wp_need, wp_pick, wp_exc, wp_bad, wp_bindE, wp_trE, wp_noexE, opt_some, opt_none, toDs_nil, toDs_cons, toD_fz, toD_os, toD_ol, toD_ok, sSet, sIf, sRet, sRetV, sRetN, sExpr, sBrk, sCont, sFrz, sNil, setS, sUnp, sFldM, sRaise, sApp, sExt, sItem, popM, sPop, sPopTo, sSlice, sAug, mC, mVar, m2, m1, tVal, tTru, tAndM, tOrM, tNotM, mAnd, mOr, mNot, mIf, maNil, maCons, frz, mTup, mLst, mLstN, mSl, oNone, oSome, mRevL, mRevS, mCB, mCall, mCallB, mMeth, mFld, mProp, mMake, mChain, mLc, tYesM, lcF, gN, gAll, gT, iSeq, iRange1, iRange2, iEnumLM, iEnumTM, iZipLM, iterD, listF, wipeL, truth, flatR, unb, brw, owns, fI2, fSub, fNeg, fAdd, fMul, fEq_i, fEq_s, fEq_b, fCmp, fIsN, Dn.isNon, fIx, fSl, fLen, fList, fTuple, fInt, fStr, fAbs, fMax2, fMin2, isiD, mIsi, mFmt, mJs, mM1, mM0, fSplit, fPart, fFind, fStarts, eqK, peek, listD, seqD, nestD, mLenO, mAbsO, mIxO, iOwn, sTryAs, setX, endX, mXv, mIsX, gNilM, gLift, gYield, gFrom, mListG0, mListG, List.map_cons, List.map_nil, List.length_cons, List.length_nil, List.replicate, List.cons_append, List.nil_append, List.append_nil, List.getElem?_cons_zero, List.getElem?_cons_succ, List.getElem?_nil, List.set_cons_zero, List.set_cons_succ, List.set_nil, Nat.reduceAdd, Nat.reduceSub, Nat.add_zero, Nat.zero_add, Nat.sub_self, Nat.sub_zero, Bool.not_true, Bool.not_false, if_true, if_false, decide_true, decide_false, Bool.true_and, Bool.and_true, Bool.false_and, Bool.and_false, Bool.or_true, Bool.true_or, Bool.false_or, Bool.or_false, String.reduceBEq, reduceIte, Bool.false_eq_true, true_and, and_true, Option.map_some, Option.map_none, Option.bind_some, Option.bind_none]
                  exact tail _ _ _ (by omega) (by omega)
          · simp only [hw, wp_ret, wp_need, wp_pick, wp_exc, wp_bad, wp_bindE, wp_trE, wp_noexE, opt_some, opt_none, toDs_nil, toDs_cons, toD_fz, toD_os, toD_ol, toD_ok, sSet, sIf, sRet, sRetV, sRetN, sExpr, sBrk, sCont, sFrz, sNil, setS, sUnp, sFldM, sRaise, sApp, sExt, sItem, popM, sPop, sPopTo, sSlice, sAug, mC, mVar, m2, m1, tVal, tTru, tAndM, tOrM, tNotM, mAnd, mOr, mNot, mIf, maNil, maCons, frz, mTup, mLst, mLstN, mSl, oNone, oSome, mRevL, mRevS, mCB, mCall, mCallB, mMeth, mFld, mProp, mMake, mChain, mLc, tYesM, lcF, gN, gAll, gT, iSeq, iRange1, iRange2, iEnumLM, iEnumTM, iZipLM, iterD, listF, wipeL, truth, flatR, unb, brw, owns, fI2, fSub, fNeg, fAdd, fMul, fEq_i, fEq_s, fEq_b, fCmp, fIsN, Dn.isNon, fIx, fSl, fLen, fList, fTuple, fInt, fStr, fAbs, fMax2, fMin2, isiD, mIsi, mFmt, mJs, mM1, mM0, fSplit, fPart, fFind, fStarts, eqK, peek, listD, seqD, nestD, mLenO, mAbsO, mIxO, iOwn, sTryAs, setX, endX, mXv, mIsX, gNilM, gLift, gYield, gFrom, mListG0, mListG, List.map_cons, List.map_nil, List.length_cons, List.length_nil, List.replicate, List.cons_append, List.nil_append, List.append_nil, List.getElem?_cons_zero, List.getElem?_cons_succ, List.getElem?_nil, List.set_cons_zero, List.set_cons_succ, List.set_nil, Nat.reduceAdd, Nat.reduceSub, Nat.add_zero, Nat.zero_add, Nat.sub_self, Nat.sub_zero, Bool.not_true, Bool.not_false, if_true, if_false, decide_true, decide_false, Bool.true_and, Bool.and_true, Bool.false_and, Bool.and_false, Bool.or_true, Bool.true_or, Bool.false_or, Bool.or_false, String.reduceBEq, reduceIte, Bool.false_eq_true, true_and, and_true, Option.map_some, Option.map_none, Option.bind_some, Option.bind_none]
            exact tail _ _ _ (by omega) (by omega)
        · simp only [hk, wp_ret, wp_need, wp_pick, wp_exc, wp_bad, wp_bindE, wp_trE, wp_noexE, opt_some, opt_none, toDs_nil, toDs_cons, toD_fz, toD_os, toD_ol, toD_ok, sSet, sIf, sRet, sRetV, sRetN, sExpr, sBrk, sCont, sFrz, sNil, setS, sUnp, sFldM, sRaise, sApp, sExt, sItem, popM, sPop, sPopTo, sSlice, sAug, mC, mVar, m2, m1, tVal, tTru, tAndM, tOrM, tNotM, mAnd, mOr, mNot, mIf, maNil, maCons, frz, mTup, mLst, mLstN, mSl, oNone, oSome, mRevL, mRevS, mCB, mCall, mCallB, mMeth, mFld, mProp, mMake, mChain, mLc, tYesM, lcF, gN, gAll, gT, iSeq, iRange1, iRange2, iEnumLM, iEnumTM, iZipLM, iterD, listF, wipeL, truth, flatR, unb, brw, owns, fI2, fSub, fNeg, fAdd, fMul, fEq_i, fEq_s, fEq_b, fCmp, fIsN, Dn.isNon, fIx, fSl, fLen, fList, fTuple, fInt, fStr, fAbs, fMax2, fMin2, isiD, mIsi, mFmt, mJs, mM1, mM0, fSplit, fPart, fFind, fStarts, eqK, peek, listD, seqD, nestD, mLenO, mAbsO, mIxO, iOwn, sTryAs, setX, endX, mXv, mIsX, gNilM, gLift, gYield, gFrom, mListG0, mListG, List.map_cons, List.map_nil, List.length_cons, List.length_nil, List.replicate, List.cons_append, List.nil_append, List.append_nil, List.getElem?_cons_zero, List.getElem?_cons_succ, List.getElem?_nil, List.set_cons_zero, List.set_cons_succ, List.set_nil, Nat.reduceAdd, Nat.reduceSub, Nat.add_zero, Nat.zero_add, Nat.sub_self, Nat.sub_zero, Bool.not_true, Bool.not_false, if_true, if_false, decide_true, decide_false, Bool.true_and, Bool.and_true, Bool.false_and, Bool.and_false, Bool.or_true, Bool.true_or, Bool.false_or, Bool.or_false, String.reduceBEq, reduceIte, Bool.false_eq_true, true_and, and_true, Option.map_some, Option.map_none, Option.bind_some, Option.bind_none]
          exact tail _ _ _ (by omega) (by omega)
      · rintro ρ ⟨js, cur, x6, x7, x8, x9, x10, x11, rfl, hp, hjl, hof, _⟩
        refine hN.nx _ ?_
        walk_at "wps"
        exact ⟨by decide, fin hR js cur ⟨hp, by rw [hjl]; omega, hof⟩⟩
  · exact badE h
end Dn
end

section
set_option Elab.async false
set_option linter.all false
set_option maxRecDepth 100000
set_option maxHeartbeats 1000000
namespace Dn
open PySem PySem.Spec PyProof.Rows L2 Evl GrO
local macro_rules | `(tactic| walk_at "wps") => `(tactic| simp only [wp_ret, wp_need, wp_pick, wp_exc, wp_bad, wp_bindE, wp_trE, wp_noexE, opt_some, opt_none, toDs_nil, toDs_cons, toD_fz, toD_os, toD_ol, toD_ok, sSet, sIf, sRet, sRetV, sRetN, sExpr, sBrk, sCont, sFrz, sNil, setS, sUnp, sFldM, sRaise, sApp, sExt, sItem, popM, sPop, sPopTo, sSlice, sAug, mC, mVar, m2, m1, tVal, tTru, tAndM, tOrM, tNotM, mAnd, mOr, mNot, mIf, maNil, maCons, frz, mTup, mLst, mLstN, mSl, oNone, oSome, mRevL, mRevS, mCB, mCall, mCallB, mMeth, mFld, mProp, mMake, mChain, mLc, tYesM, lcF, gN, gAll, gT, iSeq, iRange1, iRange2, iEnumLM, iEnumTM, iZipLM, iterD, listF, wipeL, truth, flatR, unb, brw, owns, fI2, fSub, fNeg, fAdd, fMul, fEq_i, fEq_s, fEq_b, fCmp, fIsN, Dn.isNon, fIx, fSl, fLen, fList, fTuple, fInt, fStr, fAbs, fMax2, fMin2, isiD, mIsi, mFmt, mJs, mM1, mM0, fSplit, fPart, fFind, fStarts, eqK, peek, listD, seqD, nestD, mLenO, mAbsO, mIxO, iOwn, sTryAs, setX, endX, mXv, mIsX, gNilM, gLift, gYield, gFrom, mListG0, mListG, List.map_cons, List.map_nil, List.length_cons, List.length_nil, List.replicate, List.cons_append, List.nil_append, List.append_nil, List.getElem?_cons_zero, List.getElem?_cons_succ, List.getElem?_nil, List.set_cons_zero, List.set_cons_succ, List.set_nil, Nat.reduceAdd, Nat.reduceSub, Nat.add_zero, Nat.zero_add, Nat.sub_self, Nat.sub_zero, Bool.not_true, Bool.not_false, if_true, if_false, decide_true, decide_false, Bool.true_and, Bool.and_true, Bool.false_and, Bool.and_false, Bool.or_true, Bool.true_or, Bool.false_or, Bool.or_false, String.reduceBEq, reduceIte, Bool.false_eq_true, true_and, and_true, Option.map_some, Option.map_none, Option.bind_some, Option.bind_none])
/-! ## a row's line: who owns each sign -/
def lnD (p : Nat × Nat × Nat) : D := .lst [.int p.1, .int p.2.1, .str ⟨#[p.2.2]⟩]
def spanZ (k : Nat) (z : Str) : List (Nat × Nat × Nat) := z.cps.toList.zipIdx.map fun p => (k, p.2 + 1, p.1)
def lineF : Nat → List (Nat × Nat × Nat) → List (Int × Str) → List (Nat × Nat × Nat)
  | _, l, [] => l
  | k, l, (g, z) :: r => lineF (k + 1) (l.take g.toNat ++ spanZ (k + 1) z ++ l.drop g.toNat) r
def lineL (s : Str) (js : List (Int × Str)) : List (Nat × Nat × Nat) := lineF 0 (spanZ 0 s) js
def prOf (p : Nat × Nat × Nat) : Nat × Nat := (p.1, p.2.1)
theorem spanZ_len {k : Nat} {z : Str} : (spanZ k z).length = z.length := by
  unfold spanZ
  rw [List.length_map, List.length_zipIdx]
  rfl
theorem spanZ_pr {k : Nat} {z : Str} : (spanZ k z).map prOf = spanL k z.length := by
  refine List.ext_getElem (by rw [List.length_map, spanZ_len, spanL_len]) (fun i h1 h2 => ?_)
  simp [spanZ, spanL, prOf]
theorem lineF_pr : ∀ {js : List (Int × Str)} {k : Nat} {l : List (Nat × Nat × Nat)}, (lineF k l js).map prOf = ownF k (l.map prOf) js
  | [], _, _ => rfl
  | (g, z) :: r, k, l => by
    show (lineF (k + 1) _ r).map prOf = ownF (k + 1) _ r
    rw [lineF_pr, List.map_append, List.map_append, List.map_take, List.map_drop, spanZ_pr]
theorem lineL_pr {s : Str} {js : List (Int × Str)} : (lineL s js).map prOf = ownL s js := by
  unfold lineL ownL
  rw [lineF_pr, spanZ_pr]
def fs_l_line : Fs := fun ds => match ds with
  | [.str s, .lst ds] => M.opt (joinsD ds) fun js => .need (Plays s js ∧ s.length + (js.map fun j => j.2.length).sum ≤ 90000) (.ret (.os ((lineL s js).map lnD)))
  | _ => .bad
theorem line_wp {s : Str} {js : List (Int × Str)} {P : LV → Prop} {E : Nat → D → Prop} (h : Plays s js) (h2 : s.length + (js.map fun j => j.2.length).sum ≤ 90000) (q : P (.os ((lineL s js).map lnD))) : (fs_l_line [.str s, .lst (js.map jD)]).wp P E := by
  unfold fs_l_line
  simp only
  rw [joinsD_map, opt_some]
  exact needI ⟨h, h2⟩ (by rw [wp_ret]; exact q)
/-- [[k, j + 1, z[j]] for j in range(len(z))] -/
theorem lc_span {G : D → M (Option D)} {k : Nat} {z : Str} {P : List D → Prop} {E : Nat → D → Prop} (hn : z.length ≤ 100000) (hg : ∀ i c, z.cps.toList[i]? = some c → ∀ Q : Option D → Prop, Q (some (lnD (k, i + 1, c))) → (G (.int (0 + (i : Int)))).wp Q E) (q : P ((spanZ k z).map lnD)) : (lcM G (rangeD 0 z.length) []).wp P E := by
  unfold rangeD
  have e : (spanZ k z).map lnD = (List.range z.length).map fun i => lnD (k, i + 1, z.cps.toList.getD i 0) := by
    refine List.ext_getElem (by rw [List.length_map, spanZ_len, List.length_map, List.length_range]) (fun i h1 h2 => ?_)
    have h3 : i < z.cps.size := by
      rw [List.length_map, List.length_range] at h2
      exact h2
    simp [spanZ, h3]
  rw [e] at q
  refine wp_mapF (fun i : Nat => lnD (k, i + 1, z.cps.toList.getD i 0)) (by rw [List.length_range]; exact hn) (fun i hi Q q => ?_) q
  have h2 : i < z.cps.toList.length := List.mem_range.mp hi
  refine hg i _ (List.getElem?_eq_getElem h2) Q ?_
  rw [List.getD_eq_getElem?_getD, List.getElem?_eq_getElem h2] at q
  exact q
theorem ref_l_line {ds : List D} (hl : ds.length = 2) : Ref (runB m_l_line 7 ds) (fs_l_line ds) := by
  intro P E h
  unfold fs_l_line at h
  split at h
  · rename_i s ds
    obtain ⟨js, hj, k⟩ := M.wp_opt.mp h
    clear h
    obtain rfl := joinsD_of hj
    rw [wp_need] at k
    obtain ⟨⟨⟨⟨hb1, hb2, hb3⟩, w, hw⟩, hn⟩, k⟩ := k
    refine wp_run fun R hR => ?_
    unfold m_l_line
    refine wp_sq fun N hN => ?_
    walk_at "wps"
    have e1 : ((s.length : Int) - 0).toNat = s.length := by omega
    refine ⟨by omega, ⟨by omega, by omega⟩, ?_⟩
    rw [Int.toNat_natCast]
    refine lc_span (k := 0) (by omega) (fun i c hc Q q => ?_) ?_
    · walk_at "wps"
      simp only [show (0 : Int) + (i : Int) = (i : Int) by omega, atI_get hc, wp_ret, wp_need, wp_pick, wp_exc, wp_bad, wp_bindE, wp_trE, wp_noexE, opt_some, opt_none, toDs_nil, toDs_cons, toD_fz, toD_os, toD_ol, toD_ok, sSet, sIf, sRet, sRetV, sRetN, sExpr, sBrk, sCont, sFrz, sNil, setS, sUnp, sFldM, sRaise, sApp, sExt, sItem, popM, sPop, sPopTo, sSlice, sAug, mC, mVar, m2, m1, tVal, tTru, tAndM, tOrM, tNotM, mAnd, mOr, mNot, mIf, maNil, maCons, frz, mTup, mLst, mLstN, mSl, oNone, oSome, mRevL, mRevS, mCB, mCall, mCallB, mMeth, mFld, mProp, mMake, mChain, mLc, tYesM, lcF, gN, gAll, gT, iSeq, iRange1, iRange2, iEnumLM, iEnumTM, iZipLM, iterD, listF, wipeL, truth, flatR, unb, brw, owns, fI2, fSub, fNeg, fAdd, fMul, fEq_i, fEq_s, fEq_b, fCmp, fIsN, Dn.isNon, fIx, fSl, fLen, fList, fTuple, fInt, fStr, fAbs, fMax2, fMin2, isiD, mIsi, mFmt, mJs, mM1, mM0, fSplit, fPart, fFind, fStarts, eqK, peek, listD, seqD, nestD, mLenO, mAbsO, mIxO, iOwn, sTryAs, setX, endX, mXv, mIsX, gNilM, gLift, gYield, gFrom, mListG0, mListG, List.map_cons, List.map_nil, List.length_cons, List.length_nil, List.replicate, List.cons_append, List.nil_append, List.append_nil, List.getElem?_cons_zero, List.getElem?_cons_succ, List.getElem?_nil, List.set_cons_zero, List.set_cons_succ, List.set_nil, Nat.reduceAdd, Nat.reduceSub, Nat.add_zero, Nat.zero_add, Nat.sub_self, Nat.sub_zero, Bool.not_true, Bool.not_false, if_true, if_false, decide_true, decide_false, Bool.true_and, Bool.and_true, Bool.false_and, Bool.and_false, Bool.or_true, Bool.true_or, Bool.false_or, Bool.or_false, String.reduceBEq, reduceIte, Bool.false_eq_true, true_and, and_true, Option.map_some, Option.map_none, Option.bind_some, Option.bind_none]
      refine ⟨by omega, by decide, ?_⟩
      exact q
    · refine hN.nx _ ?_
      clear hN N
      refine wp_sq fun N hN => ?_
      refine wp_forA ?_
      walk_at "wps"
      rw [List.length_map, Int.toNat_natCast]
      refine ⟨⟨by omega, by omega⟩, ?_⟩
      refine wp_loopN (fun i ρ => ∃ row l x2 x4 x5 x6, ρ = [.fz (.str s), .fz (.lst (js.map jD)), x2, .os (l.map lnD), x4, x5, x6] ∧ play row (js.drop i) = .row w ∧ row.length = s.length + ((js.take i).map fun j => j.2.length).sum ∧ l.length = row.length ∧ lineL s js = lineF i l (js.drop i))
        ⟨s, spanZ 0 s, _, _, _, _, rfl, hw, by simp, spanZ_len, rfl⟩ ?_ ?_
      · rintro i ρ hi ⟨row, l, x2, x4, x5, x6, rfl, hp, hlen, hll, ho⟩ F hF
        have hj : js[i]? = some (js[i].1, js[i].2) := List.getElem?_eq_getElem hi
        generalize js[i].1 = g at hj
        generalize js[i].2 = z at hj
        rw [List.drop_eq_getElem_cons hi, (List.getElem?_eq_some_iff.mp hj).2] at hp ho
        obtain ⟨h0, h1, hg, hp⟩ := play_row hp
        have hsum := sum_take (f := fun j : Int × Str => j.2.length) hj
        have hle := sum_le (l := js) (f := fun j : Int × Str => j.2.length) (i + 1)
        have hins := ins_len (z := z) h0 h1
        have e3 : (g, z).2.length = z.length := rfl
        obtain ⟨gn, rfl⟩ := Int.eq_ofNat_of_zero_le h0
        have hj1 : (js.map jD)[i]? = some (.tup [.int gn, .str z]) := by
          rw [List.getElem?_map, hj]
          rfl
        walk_at "wps"
        refine wp_sq fun N2 hN2 => ?_
        simp only [show (0 : Int) + (i : Int) = (i : Int) by omega, atI_get hj1, wp_ret, wp_need, wp_pick, wp_exc, wp_bad, wp_bindE, wp_trE, wp_noexE, opt_some, opt_none, toDs_nil, toDs_cons, toD_fz, toD_os, toD_ol, toD_ok, sSet, sIf, sRet, sRetV, sRetN, sExpr, sBrk, sCont, sFrz, sNil, setS, sUnp, sFldM, sRaise, sApp, sExt, sItem, popM, sPop, sPopTo, sSlice, sAug, mC, mVar, m2, m1, tVal, tTru, tAndM, tOrM, tNotM, mAnd, mOr, mNot, mIf, maNil, maCons, frz, mTup, mLst, mLstN, mSl, oNone, oSome, mRevL, mRevS, mCB, mCall, mCallB, mMeth, mFld, mProp, mMake, mChain, mLc, tYesM, lcF, gN, gAll, gT, iSeq, iRange1, iRange2, iEnumLM, iEnumTM, iZipLM, iterD, listF, wipeL, truth, flatR, unb, brw, owns, fI2, fSub, fNeg, fAdd, fMul, fEq_i, fEq_s, fEq_b, fCmp, fIsN, Dn.isNon, fIx, fSl, fLen, fList, fTuple, fInt, fStr, fAbs, fMax2, fMin2, isiD, mIsi, mFmt, mJs, mM1, mM0, fSplit, fPart, fFind, fStarts, eqK, peek, listD, seqD, nestD, mLenO, mAbsO, mIxO, iOwn, sTryAs, setX, endX, mXv, mIsX, gNilM, gLift, gYield, gFrom, mListG0, mListG, List.map_cons, List.map_nil, List.length_cons, List.length_nil, List.replicate, List.cons_append, List.nil_append, List.append_nil, List.getElem?_cons_zero, List.getElem?_cons_succ, List.getElem?_nil, List.set_cons_zero, List.set_cons_succ, List.set_nil, Nat.reduceAdd, Nat.reduceSub, Nat.add_zero, Nat.zero_add, Nat.sub_self, Nat.sub_zero, Bool.not_true, Bool.not_false, if_true, if_false, decide_true, decide_false, Bool.true_and, Bool.and_true, Bool.false_and, Bool.and_false, Bool.or_true, Bool.true_or, Bool.false_or, Bool.or_false, String.reduceBEq, reduceIte, Bool.false_eq_true, true_and, and_true, Option.map_some, Option.map_none, Option.bind_some, Option.bind_none]
        refine hN2.nx _ ?_
        clear hN2 N2
        walk_at "wps"
        refine ⟨by omega, ⟨by omega, by omega⟩, ?_⟩
        rw [Int.toNat_natCast]
        refine lc_span (k := i + 1) (by omega) (fun j c hc Q q => ?_) ?_
        · walk_at "wps"
          simp only [show (0 : Int) + (j : Int) = (j : Int) by omega, atI_get hc, wp_ret, wp_need, wp_pick, wp_exc, wp_bad, wp_bindE, wp_trE, wp_noexE, opt_some, opt_none, toDs_nil, toDs_cons, toD_fz, toD_os, toD_ol, toD_ok, sSet, sIf, sRet, sRetV, sRetN, sExpr, sBrk, sCont, sFrz, sNil, setS, sUnp, sFldM, sRaise, sApp, sExt, sItem, popM, sPop, sPopTo, sSlice, sAug, mC, mVar, m2, m1, tVal, tTru, tAndM, tOrM, tNotM, mAnd, mOr, mNot, mIf, maNil, maCons, frz, mTup, mLst, mLstN, mSl, oNone, oSome, mRevL, mRevS, mCB, mCall, mCallB, mMeth, mFld, mProp, mMake, mChain, mLc, tYesM, lcF, gN, gAll, gT, iSeq, iRange1, iRange2, iEnumLM, iEnumTM, iZipLM, iterD, listF, wipeL, truth, flatR, unb, brw, owns, fI2, fSub, fNeg, fAdd, fMul, fEq_i, fEq_s, fEq_b, fCmp, fIsN, Dn.isNon, fIx, fSl, fLen, fList, fTuple, fInt, fStr, fAbs, fMax2, fMin2, isiD, mIsi, mFmt, mJs, mM1, mM0, fSplit, fPart, fFind, fStarts, eqK, peek, listD, seqD, nestD, mLenO, mAbsO, mIxO, iOwn, sTryAs, setX, endX, mXv, mIsX, gNilM, gLift, gYield, gFrom, mListG0, mListG, List.map_cons, List.map_nil, List.length_cons, List.length_nil, List.replicate, List.cons_append, List.nil_append, List.append_nil, List.getElem?_cons_zero, List.getElem?_cons_succ, List.getElem?_nil, List.set_cons_zero, List.set_cons_succ, List.set_nil, Nat.reduceAdd, Nat.reduceSub, Nat.add_zero, Nat.zero_add, Nat.sub_self, Nat.sub_zero, Bool.not_true, Bool.not_false, if_true, if_false, decide_true, decide_false, Bool.true_and, Bool.and_true, Bool.false_and, Bool.and_false, Bool.or_true, Bool.true_or, Bool.false_or, Bool.or_false, String.reduceBEq, reduceIte, Bool.false_eq_true, true_and, and_true, Option.map_some, Option.map_none, Option.bind_some, Option.bind_none]
          refine ⟨by omega, by decide, ?_⟩
          exact q
        · simp only [cutD_to, cutD_from, wp_ret, wp_need, wp_pick, wp_exc, wp_bad, wp_bindE, wp_trE, wp_noexE, opt_some, opt_none, toDs_nil, toDs_cons, toD_fz, toD_os, toD_ol, toD_ok, sSet, sIf, sRet, sRetV, sRetN, sExpr, sBrk, sCont, sFrz, sNil, setS, sUnp, sFldM, sRaise, sApp, sExt, sItem, popM, sPop, sPopTo, sSlice, sAug, mC, mVar, m2, m1, tVal, tTru, tAndM, tOrM, tNotM, mAnd, mOr, mNot, mIf, maNil, maCons, frz, mTup, mLst, mLstN, mSl, oNone, oSome, mRevL, mRevS, mCB, mCall, mCallB, mMeth, mFld, mProp, mMake, mChain, mLc, tYesM, lcF, gN, gAll, gT, iSeq, iRange1, iRange2, iEnumLM, iEnumTM, iZipLM, iterD, listF, wipeL, truth, flatR, unb, brw, owns, fI2, fSub, fNeg, fAdd, fMul, fEq_i, fEq_s, fEq_b, fCmp, fIsN, Dn.isNon, fIx, fSl, fLen, fList, fTuple, fInt, fStr, fAbs, fMax2, fMin2, isiD, mIsi, mFmt, mJs, mM1, mM0, fSplit, fPart, fFind, fStarts, eqK, peek, listD, seqD, nestD, mLenO, mAbsO, mIxO, iOwn, sTryAs, setX, endX, mXv, mIsX, gNilM, gLift, gYield, gFrom, mListG0, mListG, List.map_cons, List.map_nil, List.length_cons, List.length_nil, List.replicate, List.cons_append, List.nil_append, List.append_nil, List.getElem?_cons_zero, List.getElem?_cons_succ, List.getElem?_nil, List.set_cons_zero, List.set_cons_succ, List.set_nil, Nat.reduceAdd, Nat.reduceSub, Nat.add_zero, Nat.zero_add, Nat.sub_self, Nat.sub_zero, Bool.not_true, Bool.not_false, if_true, if_false, decide_true, decide_false, Bool.true_and, Bool.and_true, Bool.false_and, Bool.and_false, Bool.or_true, Bool.true_or, Bool.false_or, Bool.or_false, String.reduceBEq, reduceIte, Bool.false_eq_true, true_and, and_true, Option.map_some, Option.map_none, Option.bind_some, Option.bind_none]
          rw [List.length_append, List.length_map, List.length_take, List.length_drop, List.length_map, spanZ_len]
          rw [show (l.map lnD).take gn ++ (spanZ (i + 1) z).map lnD ++ (l.map lnD).drop gn = (l.take gn ++ spanZ (i + 1) z ++ l.drop gn).map lnD from by rw [List.map_append, List.map_append, List.map_take, List.map_drop]]
          refine ⟨by omega, by omega, hF.nx _ ⟨insS row gn z, l.take gn ++ spanZ (i + 1) z ++ l.drop gn, _, _, _, _, rfl, hp, by omega, ?_, ho⟩⟩
          rw [List.length_append, List.length_append, List.length_take, List.length_drop, spanZ_len]
          omega
      · rintro ρ ⟨row, l, x2, x4, x5, x6, rfl, hp, hlen, hll, ho⟩
        rw [List.drop_length] at ho
        refine hN.nx _ ?_
        walk_at "wps"
        rw [ho] at k
        exact hR.rt _ rfl (retE k)
  · exact badE h
theorem mem_sum {α : Type} {f : α → Nat} {a : α} : ∀ {l : List α}, a ∈ l → f a ≤ (l.map f).sum
  | b :: r, h => by
    rw [List.map_cons, List.sum_cons]
    rcases List.mem_cons.mp h with rfl | h
    · omega
    · have := mem_sum (f := f) h
      omega
/-! ## a growth's methods, for who calls them -/
section
variable {s : Str} {js : List (Int × Str)} {z : D} {P : LV → Prop} {E : Nat → D → Prop}
theorem row_wp {a b : D} (q : P (.fz z)) : (fs_Growth_row [.obj 0 [a, b, z]]).wp P E := by
  unfold fs_Growth_row
  exact needI rfl (by rw [wp_ret]; exact q)
theorem len_wp {a : D} (q : P (.fz (.int (js.length : Int)))) : (fs_Growth_len [.obj 0 [a, .tup (js.map jD), z]]).wp P E := by
  unfold fs_Growth_len
  exact needI rfl (by rw [wp_ret, List.length_map]; exact q)
theorem getitem_wp {a : D} {i : Nat} {j : Int × Str} (h : js[i]? = some j) (q : P (.fz (jD j))) : (fs_Growth_getitem [.obj 0 [a, .tup (js.map jD), z], .int (i : Int)]).wp P E := by
  unfold fs_Growth_getitem
  refine needI rfl ?_
  rw [atI_get (show (js.map jD)[i]? = some (jD j) by rw [List.getElem?_map, h]; rfl), opt_some, wp_ret]
  exact q
theorem abs_wp {a : D} (h1 : js.length ≤ 100000) (h2 : ∀ j ∈ js, j.2.length ≤ 100000) (q : P (.fz (.int (sizesL js).sum))) : (fs_Growth_abs [.obj 0 [a, .tup (js.map jD), z]]).wp P E := by
  unfold fs_Growth_abs
  refine needI rfl ?_
  rw [joinsD_map, opt_some]
  exact needI ⟨h1, h2⟩ (by rw [wp_ret]; exact q)
theorem stages_wp {P : List D → Prop} (h : Plays s js) (h1 : js.length < 99999) (q : P ((rowsOf s js).map .str)) : (fs_Growth_stages [.obj 0 [.str s, .tup (js.map jD), z]]).wp P E := by
  unfold fs_Growth_stages
  refine needI rfl ?_
  rw [joinsD_map, opt_some]
  exact needI ⟨h, h1⟩ (by rw [wp_ret]; exact q)
theorem owners_wp (h : Plays s js) (h1 : s.length + (js.map fun j => j.2.length).sum ≤ 90000) (q : P (.os ((ownL s js).map Dn.prD))) : (fs_Growth_owners [.obj 0 [.str s, .tup (js.map jD), z]]).wp P E := by
  unfold fs_Growth_owners
  refine needI rfl ?_
  rw [joinsD_map, opt_some]
  exact needI ⟨h, h1⟩ (by rw [wp_ret]; exact q)
/-- a growth made -/
theorem init_wp {P : List D → Prop} {d : D} (hd : d = .lst (js.map jD) ∨ d = .tup (js.map jD)) (hb : JBnd s js) (h1 : ∀ w, play s js = .row w → P [.str s, .tup (js.map jD), .str w]) (h2 : ∀ g, play s js = .gap g → E 107 (.int g)) (h3 : ∀ g, play s js = .grp g → E 103 (.str g)) : (fs_Growth_init [.str s, d]).wp P E := by
  have : (initM s (js.map jD)).wp P E := by
    unfold initM
    rw [joinsD_map, opt_some]
    refine needI hb ?_
    cases q : play s js with
    | row w => simp only [wp_ret]; exact h1 w q
    | gap g => simp only [wp_exc]; exact h2 g q
    | grp g => simp only [wp_exc]; exact h3 g q
  rcases hd with rfl | rfl <;> exact this
end
end Dn
end

section
set_option Elab.async false
set_option linter.all false
set_option maxRecDepth 100000
set_option maxHeartbeats 1000000
namespace Dn
open PySem PySem.Spec PyProof.Rows L2 Evl GrO
theorem fn_badF {P : Program} {w : World} {K : PySem.W.Frag} {mg : Str → Option Value} {base : Heap} {W : Wd} {f : Addr} {fd : FuncData} {ps : List Str} {k n : Nat} {fs : Fs} (hf : ∀ ds, fs ds = .bad) : FnOk P w K mg base (L2.CX P w) k f fd ps (spM K W n fs) :=
  fn_imp (sp := spM K W n fun _ => .bad) fn_bad fun vs H Q E h => by
    obtain ⟨F, ds, a, b, c, d, e, h⟩ := h
    rw [hf] at h
    exact False.elim h
/-! ## a law as a whole -/
def sp_law {K : PySem.W.Frag} : Sp := fun vs H Q _ => ∃ (a : Addr) (ns : List Int), vs = [.ref a] ∧ SqL K H a (ns.map V.int) ∧ ns.length ≤ 100 ∧ ∀ H', Q (.bl true) H'
def sp_l_new {K : PySem.W.Frag} : Sp := fun vs H Q _ => ∃ (a : Addr) (ns : List Int), vs = [.ref a] ∧ SqL K H a (ns.map V.int) ∧ ns.length ≤ 100 ∧ ∀ H' p, Ex H H' → H p = none → DrS p H' → Q (.ref p) H'
/-- the rest of a law, whatever state was made -/
def tEx (K : PySem.W.Frag) (Wf : Addr → Addr → Wd) (m : Sm) : TS := fun D σ H => ∃ a q, tsM K (Wf a q) W0 m D σ H
theorem pss_ex {X : Cx} {Wf : Addr → Addr → Wd} {sts : List Stmt} {m : Sm} (h : ∀ a q, DSs X (Wf a q) W0 sts m) : PSs X sts (tEx X.K Wf m) := ⟨fun pins s σ H D I ⟨a, q, w⟩ => (h a q).run pins s σ H D I w⟩
def LawP : Fl → Prop
  | .ret (.fz (.bl true)) => True
  | _ => False
theorem un_rep {K : PySem.W.Frag} {W : Wd} {F H : Hp} : ∀ n : Nat, RepE K W F H (List.replicate n .un) (List.replicate n none) []
  | 0 => ⟨rfl, rfl⟩
  | n + 1 => ⟨none, List.replicate n none, [], [], rfl, rfl, un_rep n, rfl⟩
theorem law_run {K : PySem.W.Frag} {Wf : Addr → Addr → Wd} (hwa : ∀ a q, (Wf a q).a = a) (hwq : ∀ a q, (Wf a q).q = q) {m : Sm} {n : Nat} {a p : Addr} {H : Hp} {D : Ends} (hds : DrS p H) (hm : (m (.un :: .fz .st :: List.replicate n .un)).wp LawP no2) (q : ∀ H', D.rt (.bl true) H') :
    tEx K Wf m D (some (.ref a) :: some (.ref p) :: List.replicate n none) H := by
  obtain ⟨sq, ns, i, b, c, d, h1, h2, h3⟩ := hds
  have st : StOk (Wf p sq) H := ⟨ns, i, b, c, d, by rw [hwa, hwq]; exact h1, by rw [hwq]; exact h2, h3⟩
  refine ⟨p, sq, fun _ => none, .un :: .fz .st :: List.replicate n .un, [], ⟨fun _ _ h => by (cases h), rfl, st, fun _ h => absurd h List.not_mem_nil, List.nodup_nil, ?_⟩, M.wp_mono hm (fun fl k => ?_) (fun _ _ h => h)⟩
  · refine ⟨some (.ref a), some (.ref p) :: List.replicate n none, [], [], rfl, rfl, ⟨some (.ref p), List.replicate n none, [], [], rfl, ⟨?_, rfl⟩, un_rep n, rfl⟩, rfl⟩
    show V.ref p = .ref (Wf p sq).a
    rw [hwa]
  · cases fl with
    | ret l =>
      cases l with
      | fz d =>
        cases d with
        | bl kb =>
          cases kb with
          | true =>
            intro F' H' v f s r own nd sub
            rw [show v = .bl true from r.1]
            exact q H'
          | false => exact k.elim
        | _ => exact k.elim
      | _ => exact k.elim
    | _ => exact k.elim
end Dn
end

section
set_option Elab.async false
set_option linter.all false
set_option maxRecDepth 100000
set_option maxHeartbeats 1000000
namespace Dn
open PySem PySem.Spec PyProof.Rows L2 Evl GrO
/-! ## what holds no list -/
def noL : D → Bool
  | .lst _ => false
  | .dK _ => false
  | .tup ds => noLs ds
  | .obj _ ds => noLs ds
  | _ => true
where
  noLs : List D → Bool
  | [] => true
  | d :: r => noL d && noLs r
/-- F without what stands at fp -/
def les (F : Hp) (fp : List Addr) : Hp := fun p => if p ∈ fp then none else F p
theorem les_in {F : Hp} {fp : List Addr} {p : Addr} (h : p ∈ fp) : les F fp p = none := if_pos h
theorem les_out {F : Hp} {fp : List Addr} {p : Addr} (h : p ∉ fp) : les F fp p = F p := if_neg h
def LstAt (H : Hp) (q : Addr) : Prop := (∃ xs, H q = some (.lst xs)) ∨ ∃ ws, H q = some (.dK ws)
section
variable {K : PySem.W.Frag} {W : Wd} {F H : Hp} {fp : List Addr}
theorem les_get {p : Addr} {o : HO} (hf : ∀ q ∈ fp, LstAt F q) (h : F p = some o) (h1 : ∀ xs, o ≠ .lst xs) (h2 : ∀ ws, o ≠ .dK ws) : les F fp p = some o := by
  by_cases m : p ∈ fp
  · rcases hf p m with ⟨xs, e⟩ | ⟨ws, e⟩
    · rw [h] at e
      exact absurd (Option.some.inj e) (h1 xs)
    · rw [h] at e
      exact absurd (Option.some.inj e) (h2 ws)
  · rw [les_out m]
    exact h
theorem les_tup {p : Addr} {vs : List V} (hf : ∀ q ∈ fp, LstAt F q) (h : SqT K F p vs) : SqT K (les F fp) p vs := by
  rcases h with h | h
  · refine Or.inl ?_
    rcases h with h | ⟨od, h⟩
    · exact Or.inl (les_get hf h (fun _ z => by cases z) (fun _ z => by cases z))
    · exact Or.inr ⟨od, les_get hf h (fun _ z => by cases z) (fun _ z => by cases z)⟩
  · exact Or.inr h
mutual
theorem Rep.les (hf : ∀ q ∈ fp, LstAt F q) : ∀ {d : D} {v : V}, noL d = true → Rep K W F d v → Rep K W (les F fp) d v
  | .non, _, _, h => h
  | .bl _, _, _, h => h
  | .int _, _, _, h => h
  | .str _, _, _, h => h
  | .st, _, _, h => h
  | .tup ds, _, n, ⟨p, vs, a, b, c⟩ => ⟨p, vs, a, les_tup hf b, Reps.les hf n c⟩
  | .obj _ ds, _, n, ⟨p, dx, gs, a, b, e, c⟩ => ⟨p, dx, gs, a, les_get hf b (fun _ z => by cases z) (fun _ z => by cases z), e, Reps.les hf n c⟩
  | .lst _, _, n, _ => by cases n
  | .dK _, _, n, _ => by cases n
theorem Reps.les (hf : ∀ q ∈ fp, LstAt F q) : ∀ {ds : List D} {vs : List V}, noL.noLs ds = true → Reps K W F ds vs → Reps K W (les F fp) ds vs
  | [], _, _, h => h
  | d :: r, _, n, ⟨v, w, a, b, c⟩ => by
    have n : (noL d && noL.noLs r) = true := n
    rw [Bool.and_eq_true] at n
    exact ⟨v, w, a, Rep.les hf n.1 b, Reps.les hf n.2 c⟩
end
mutual
theorem own_lst : ∀ {l : LV} {v : V} {f : List Addr} {d : D}, RepO K W F H l v f → toD l = some d → ∀ q ∈ f, LstAt H q
  | .un, _, _, _, h, _, _, _ => h.elim
  | .fz _, _, _, _, ⟨_, z⟩, _, q, hq => by rw [z] at hq; cases hq
  | .bo _, _, _, _, _, t, _, _ => by cases t
  | .sf _ _ _, _, _, _, _, t, _, _ => by cases t
  | .ex _ _ _ _, _, _, _, _, t, _, _ => by cases t
  | .os _, _, _, _, ⟨p, vs, a, b, c, z⟩, _, q, hq => by
    rw [z] at hq
    rw [List.mem_singleton.mp hq]
    exact Or.inl ⟨_, b⟩
  | .ok _, _, _, _, ⟨p, vs, a, b, c, z⟩, _, q, hq => by
    rw [z] at hq
    rw [List.mem_singleton.mp hq]
    exact Or.inr ⟨_, b⟩
  | .ol ls, _, _, _, ⟨p, vs, f, a, b, c, z⟩, t, q, hq => by
    have t : (toDs ls).map D.lst = some _ := t
    cases w : toDs ls with
    | none => rw [w] at t; cases t
    | some ds =>
      rw [z] at hq
      rcases List.mem_cons.mp hq with rfl | hq
      · exact Or.inl ⟨_, b⟩
      · exact owns_lst c w q hq
theorem owns_lst : ∀ {l : List LV} {v : List V} {f : List Addr} {d : List D}, RepOs K W F H l v f → toDs l = some d → ∀ q ∈ f, LstAt H q
  | [], _, _, _, ⟨_, z⟩, _, q, hq => by rw [z] at hq; cases hq
  | l :: ls, _, _, _, ⟨v, r, f, g, a, b, c, z⟩, t, q, hq => by
    have t : (match toD l, toDs ls with
    | some d, some ds => some (d :: ds)
    | _, _ => none) = some _ := t
    cases q1 : toD l with
    | none => rw [q1] at t; cases t
    | some d =>
      cases q2 : toDs ls with
      | none => rw [q1, q2] at t; cases t
      | some ds =>
        rw [z] at hq
        exact (List.mem_append.mp hq).elim (own_lst b q1 q) (owns_lst c q2 q)
end
/-- a run over what was lent, seen from before -/
theorem Step.lent {F1 H1 F' H' : Hp} {A : List Addr} (hs : Ex F1 H1) (own : ∀ q ∈ fp, F1 q = none ∧ q ≠ W.a ∧ q ≠ W.q) (s : Step W A (mix F1 H1 fp) H1 F' H') : Step W A F1 H1 (les F' fp) H' := by
  have me : Ex F1 (mix F1 H1 fp) := mix_ex (fun q hq => (own q hq).1)
  refine ⟨fun a o e => ?_, fun p hp => ?_, s.keep, s.there, fun a o e => ?_, ?_, s.st⟩
  · have n : a ∉ fp := fun z => by rw [(own a z).1] at e; cases e
    rw [les_out n]
    exact s.ff _ _ (me _ _ e)
  · by_cases m : p ∈ fp
    · exact Or.inl (les_in m)
    · rcases s.nf p (by rw [mix_none m]; exact hp) with z | z | z
      · exact Or.inl (by rw [les_out m]; exact z)
      · exact Or.inr (Or.inl z)
      · exact Or.inr (Or.inr z)
  · by_cases m : a ∈ fp
    · rw [les_in m] at e; cases e
    · rw [les_out m] at e
      exact s.sub _ _ e
  · by_cases m : W.a ∈ fp
    · exact les_in m
    · rw [les_out m]
      exact s.fa
end
/-- C(..) that only looks at what is one's own -/
def mMakeB (c n : Nat) (fi : Fi) (dd : List D) (ma : Ema) : Em := fun ρ => (ma ρ).bind fun xs => M.opt (toDs (xs.map unb)) fun ds => .need ((ds ++ dd).length = n) ((M.noex (fi (ds ++ dd))).bind fun fs => .need (noL.noLs fs = true) (.ret (.fz (.obj c fs))))
section
variable {X : Cx} {W : Wd} {Wx : WX} {x m : Str} {p pos apos : Pos} {e o : Expr} {es : List Expr} {ma : Ema} {mo me : Em} {k n : Nat} {f C : Addr} {fd : FuncData} {ps : List Str} {fs : Fs}
theorem te_makeB {K : PySem.W.Frag} {c : Nat} {fi : Fi} {dd : List D} {dvs : List V} (rd : ∀ F, Reps K W F dd dvs) {σ : L2.St} {H : Hp} {Q : VK} (h : teM K W Wx (mMakeB c n fi dd ma) σ H Q) : tMkS (W.cl c) (spI K W c n fi) dvs (WE Wx) (taM K W Wx ma) σ H Q := by
  obtain ⟨F, ρ, fp, ok, w⟩ := h
  refine ⟨F, ρ, fp, ok, M.wp_mono (M.wp_bind.mp w) (fun xs wx F1 H1 vs f1 r1 => ?_) (fun c d h => h)⟩
  obtain ⟨ds, hd, hl, wx⟩ := M.wp_opt.mp wx
  have me : Ex F1 (mix F1 H1 f1) := mix_ex (fun q hq => (r1.own q hq).1)
  have hv := Reps.frz r1.step.sub me (unbs_rep r1.rep) (fun q hq => hq) hd
  have hls := owns_lst (unbs_rep r1.rep) hd
  have na : W.a ∉ f1 := fun z => (r1.own _ z).2.1 rfl
  intro x dx nx ndx ne
  have none2 : ∀ p, H1 p = none → mix F1 H1 f1 p = none := fun p hp => by
    cases q : mix F1 H1 f1 p with
    | none => rfl
    | some o => rw [mix_sub r1.step.sub _ _ q] at hp; cases hp
  have npx := r1.step.st.ne nx
  have npd := r1.step.st.ne ndx
  refine ⟨x, dx, mix F1 H1 f1, ds ++ dd, vs ++ dvs, rfl, upd_same, none2 x nx, npx.1, npx.2, fun a o e => ?_, by rw [mix_none na]; exact r1.step.fa, (r1.step.st.put npd.1 npd.2).put npx.1 npx.2, hl, Reps.append hv (rd _), M.wp_mono (M.wp_noex.mp (M.wp_bind.mp wx)) (fun fs wf F' H' dx' gs s3 hF hH hn hr => ⟨rfl, ?_⟩) (fun cc d h => h.elim)⟩
  · have e1 := mix_sub r1.step.sub _ _ e
    have n1 : a ≠ x := fun z => by rw [z, nx] at e1; cases e1
    have n2 : a ≠ dx := fun z => by rw [z, ndx] at e1; cases e1
    rw [upd_ne n1, upd_ne n2]
    exact e1
  · obtain ⟨hno, wf⟩ := wf
    have s1 : Step W [] (mix F1 H1 f1) H1 (mix F1 H1 f1) H1 := Step.refl (mix_sub r1.step.sub) (by rw [mix_none na]; exact r1.step.fa) r1.step.st
    have s4 := made_step s1 nx ndx s3 hF hH
    have s5 := Step.lent r1.step.sub r1.own s4
    have xf : x ∉ f1 := fun z => by
      obtain ⟨o, e⟩ := RepOs.there r1.rep x z
      rw [e] at nx
      cases nx
    have hfl : ∀ q ∈ f1, LstAt (upd F' x (.ins (W.cl c) dx' gs)) q := fun q hq => by
      have h0 : LstAt (mix F1 H1 f1) q := by
        have : mix F1 H1 f1 q = H1 q := if_pos hq
        unfold LstAt
        rw [this]
        exact hls q hq
      exact h0.imp (fun ⟨xs, e⟩ => ⟨xs, s4.ff _ _ e⟩) (fun ⟨xs, e⟩ => ⟨xs, s4.ff _ _ e⟩)
    exact wf _ H' (.ref x) [] ⟨r1.step.trans0 s5, ⟨⟨x, dx', gs, rfl, by rw [les_out xf]; exact upd_same, hn, Reps.les hfl hno (Reps.ex (Ex.new hF) hr)⟩, rfl⟩, fun _ h => absurd h List.not_mem_nil, fun _ => ⟨List.nodup_nil, fun _ h => absurd h List.not_mem_nil⟩⟩
theorem de_makeB {c : Nat} {fi : Fi} {dd : List D} {dvs : List V} {dv : List Value} (mk : Mk X.K (W.cl c) f) (fo : FnOk X.prog X.w X.K X.mg X.base (L2.CX X.prog X.w) k f fd ps (spI X.K W c n fi)) (room : Room (k + 1) X.A) (gl : L2.Gl X x) (hm : X.mg x = some (.ref (W.cl c))) (bi : Binds X.K fd ps dv) (dvr : Vals dvs dv) (rd : ∀ F, Reps X.K W F dd dvs) (tk : Takes X Wx)
    (ar : DA X W Wx (e :: es) ma) (nd : (x == ("__debug__" : Str)) = false := by decide) (se : starEach (e :: es) X.env = (false, eval e X.env) :: starEach es X.env := by rfl) (np : (backTo pos (starEach es X.env)).any (·.1) = false := by rfl) :
    DE X W Wx (.Call (.Name x p) (e :: es) [] pos) (mMakeB c n fi dd ma) := PE_imp (pe_makeS mk fo room gl hm bi dvr (fun σ => passAt tk σ) ar nd se np) fun σ H Q h => te_makeB rd h
end
end Dn
end

section
set_option Elab.async false
set_option linter.all false
set_option maxRecDepth 100000
set_option maxHeartbeats 1000000
namespace Dn
open PySem PySem.Spec PyProof.Rows L2 Evl GrO
/-! ### is True, is False -/
def isBl (k : Bool) : LV → Option Bool
  | .fz (.bl b) => some (b == k)
  | .un => none
  | .bo .un => none
  | .bo (.fz _) => none
  | .bo (.bo _) => none
  | _ => some false
def fIsB (neg : Bool) : LV → LV → M LV
  | x, .fz (.bl k) => M.opt (isBl k x) fun b => .ret (.fz (.bl (eqK neg b)))
  | _, _ => .bad
section
variable {K : PySem.W.Frag} {W : Wd} {F H : Hp}
theorem isBl_rep {x : LV} {v : V} {f : List Addr} {k b : Bool} (h : isBl k x = some b) (r : RepO K W F H x v f) : decide (v = .bl k) = b := by
  have ref : ∀ p : Addr, decide ((V.ref p) = .bl k) = false := fun p => decide_eq_false (fun z => by cases z)
  cases x with
  | un => exact r.elim
  | fz d =>
    cases d with
    | non => cases h; rw [show v = .non from r.1]; rfl
    | bl k2 => cases h; rw [show v = .bl k2 from r.1, dec_bl]
    | int k => cases h; rw [show v = .int k from r.1]; rfl
    | str k => cases h; rw [show v = .str k from r.1]; rfl
    | tup k => cases h; obtain ⟨⟨p, _, rfl, _⟩, _⟩ := r; exact ref p
    | lst k => cases h; obtain ⟨⟨p, _, rfl, _⟩, _⟩ := r; exact ref p
    | obj c k => cases h; obtain ⟨⟨p, _, _, rfl, _⟩, _⟩ := r; exact ref p
    | dK k => cases h; obtain ⟨⟨p, _, rfl, _⟩, _⟩ := r; exact ref p
    | st => cases h; rw [show v = .ref W.a from r.1]; exact ref _
  | os ds => cases h; obtain ⟨p, _, rfl, _⟩ := r; exact ref p
  | ol ds => cases h; obtain ⟨p, _, _, rfl, _⟩ := r; exact ref p
  | ok ds => cases h; obtain ⟨p, _, rfl, _⟩ := r; exact ref p
  | sf c p ds => cases h; obtain ⟨_, _, rfl, _⟩ := r; exact ref p
  | ex p dx c d => cases h; rw [show v = .ref p from r.1]; exact ref p
  | bo l =>
    cases l with
    | un => cases h
    | fz d => cases h
    | bo d => cases h
    | os ds => cases h; obtain ⟨p, _, rfl, _⟩ := r; exact ref p
    | ol ds => cases h; obtain ⟨p, _, _, rfl, _⟩ := r; exact ref p
    | ok ds => cases h; obtain ⟨p, _, rfl, _⟩ := r; exact ref p
    | ex p dx c d => cases h; rw [show v = .ref p from r.1]; exact ref p
    | sf c p ds => cases h; obtain ⟨_, _, rfl, _⟩ := r; exact ref p
theorem plain_bl {x : V} {v : Value} {k : Bool} (r : RelV x v) : plainIs v (.bool k) = true := by
  cases x <;> first
    | (cases r; rfl)
    | (obtain ⟨t, rfl⟩ := r; rfl)
theorem beq_bl {x : V} {v : Value} {k : Bool} (r : RelV x v) : (v == Value.bool k) = decide (x = .bl k) := by
  cases x <;> first
    | (cases r; rw [dec_bl]; rename_i j; cases j <;> cases k <;> rfl)
    | (cases r; rfl)
    | (obtain ⟨t, rfl⟩ := r; rfl)
    | (rw [beq_eq_false_iff_ne.mpr (by first | (cases r; exact fun z => by cases z) | (obtain ⟨t, rfl⟩ := r; exact fun z => by cases z))]; exact (decide_eq_false (fun z => by cases z)).symm)
theorem op_isB {X : Cx} : OpR X (compareOp .Is) (fun x y H Q => ∃ k, y = .bl k ∧ Q (.bl (decide (x = .bl k))) H) := by
  intro pins s σ H x y v u Q I rx ry h
  obtain ⟨k, rfl, q⟩ := h
  cases ry
  exact wpAny_is_plain (plain_bl rx) (fin_bl I q (beq_bl rx).symm)
theorem op_notB {X : Cx} : OpR X (compareOp .IsNot) (fun x y H Q => ∃ k, y = .bl k ∧ Q (.bl (!decide (x = .bl k))) H) := by
  intro pins s σ H x y v u Q I rx ry h
  obtain ⟨k, rfl, q⟩ := h
  cases ry
  exact wpAny_isNot_plain (plain_bl rx) (fin_bl I q (by rw [beq_bl rx]))
theorem om_isB : OpM K W (fun x y H Q => ∃ k, y = .bl k ∧ Q (.bl (decide (x = .bl k))) H) (fIsB false) := by
  intro F H x y v u fx fy Q E e fa st rx ry _ _ w
  unfold fIsB at w
  split at w
  · rename_i k
    obtain ⟨b, hb, w⟩ := M.wp_opt.mp w
    exact ⟨k, ry.1, by rw [isBl_rep hb rx]; exact ret_d (d := .bl _) e fa st w rfl⟩
  · exact w.elim
theorem om_notB : OpM K W (fun x y H Q => ∃ k, y = .bl k ∧ Q (.bl (!decide (x = .bl k))) H) (fIsB true) := by
  intro F H x y v u fx fy Q E e fa st rx ry _ _ w
  unfold fIsB at w
  split at w
  · rename_i k
    obtain ⟨b, hb, w⟩ := M.wp_opt.mp w
    exact ⟨k, ry.1, by rw [isBl_rep hb rx]; exact ret_d (d := .bl _) e fa st w rfl⟩
  · exact w.elim
theorem fIsB_none {k : Bool} {neg : Bool} {P : LV → Prop} {E : Nat → D → Prop} {x : LV} {b : Bool} (h : isBl k x = some b) (q : P (.fz (.bl (eqK neg b)))) : (fIsB neg x (.fz (.bl k))).wp P E := by
  unfold fIsB
  rw [M.wp_opt]
  exact ⟨b, h, by rw [wp_ret]; exact q⟩
end
/-! ### isinstance(e, an own class) -/
structure OwnC (K : PySem.W.Frag) (C : Addr) : Prop where
  cl : Cls K C
  ha : PySem.W.findIn K (.ref C) "__class__" = some (some (.builtin "object.__class__"))
  hn : PySem.W.specialIn K (.builtin "object.__class__") "__get__" = some (some (.builtin "getset_descriptor.__get__"))
  ht : PySem.W.takesIn K (.builtin "object.__class__") = some true
  hm : PySem.W.mroIn K C (.type "object") = some true
def isiC (kc : Nat → Option Bool) : LV → Option Bool
  | .fz (.obj c _) => kc c
  | _ => none
def mIsC (kc : Nat → Option Bool) (ma : Em) : Em := fun ρ => (ma ρ).bind fun x => M.opt (isiC kc x) fun b => .ret (.fz (.bl b))
section
variable {X : Cx} {W : Wd} {Wx : WX} {e : Expr} {ma : Em} {pos p1 p2 : Pos}
theorem de_isiC {kc : Nat → Option Bool} {ts : Str} {tc : Addr} (hk : ∀ c b, kc c = some b → OwnC X.K (W.cl c) ∧ PySem.W.kitOne X.K (.ref (W.cl c)) (.ref tc) = some b) (hg : L2.Gl X "isinstance") (hm : X.mg "isinstance" = none) (hv : bootBuiltins "isinstance" = some (.builtin "isinstance"))
    (hgt : PE X (.Name ts p2) (tC (.ref tc))) (ha : DE X W Wx e ma) (h1 : starEach (e :: .Name ts p2 :: []) X.env = (false, eval e X.env) :: starEach [.Name ts p2] X.env := by rfl) (h2 : starEach (.Name ts p2 :: []) X.env = (false, eval (.Name ts p2) X.env) :: starEach [] X.env := by rfl)
    (h3 : (backTo pos (starEach [.Name ts p2] X.env)).any (·.1) = false := by rfl) : DE X W Wx (.Call (.Name "isinstance" p1) [e, .Name ts p2] [] pos) (mIsC kc ma) :=
  PE_imp (pe_callB call_isi hg hm hv (pa_cons ha (pa_cons hgt pa_nil h2) h1) (by decide) (by decide) h1 h3) fun σ H Q ⟨F, ρ, fp, ok, w⟩ => by
    refine ⟨F, ρ, fp, ok, M.wp_mono (M.wp_bind.mp w) (fun x wx F1 H1 v f1 r1 => ?_) (fun c d h => h)⟩
    obtain ⟨b, hb, wy⟩ := M.wp_opt.mp wx
    unfold isiC at hb
    split at hb
    · rename_i c ds
      obtain ⟨o, k⟩ := hk _ _ hb
      obtain ⟨⟨p, dx, gs, rfl, h1, _⟩, _⟩ := r1.rep
      exact ⟨.ref p, .ref tc, .ref (W.cl c), .ref tc, b, rfl, .own tc, .base (.ins (r1.step.sub _ _ h1) o.cl o.ha o.hn o.ht o.hm), k, wp_ret.mp wy _ _ _ [] ((Res.val (d := .bl _) r1.step.sub r1.step.fa r1.step.st rfl).pre r1.step)⟩
    · cases hb
end
end Dn
end

section
set_option Elab.async false
set_option linter.all false
set_option maxRecDepth 100000
set_option maxHeartbeats 4000000
namespace L07
open PySem PySem.Spec PyProof.Rows L2 Dn GrO
def topS (i : Nat) : Stmt := PySem.Challenge.pw_stillgrows_k07_exchanged_to_the_end.main.body.getD i (.Pass ⟨0, 0, 0, 0⟩)
abbrev s_is_letters : Stmt := topS 14
abbrev N_is_letters : List Str := ["text", "sign"]
theorem sc_is_letters : FnScope N_is_letters ["text"] (defScope s_is_letters) := ⟨rfl, rfl, rfl, by decide +kernel, rfl, by decide +kernel, by decide +kernel⟩

abbrev s_is_group : Stmt := topS 15
abbrev N_is_group : List Str := ["text"]
theorem sc_is_group : FnScope N_is_group ["text"] (defScope s_is_group) := ⟨rfl, rfl, rfl, by decide +kernel, rfl, by decide +kernel, by decide +kernel⟩

abbrev s_check_group : Stmt := topS 16
abbrev N_check_group : List Str := ["group"]
theorem sc_check_group : FnScope N_check_group ["group"] (defScope s_check_group) := ⟨rfl, rfl, rfl, by decide +kernel, rfl, by decide +kernel, by decide +kernel⟩

abbrev s_Growth_init : Stmt := inClass (topS 18) 0
abbrev N_Growth_init : List Str := ["self", "start", "joins", "row", "gap", "group"]
theorem sc_Growth_init : FnScope N_Growth_init ["self", "start", "joins"] (defScope s_Growth_init) := ⟨rfl, rfl, rfl, by decide +kernel, rfl, by decide +kernel, by decide +kernel⟩

abbrev s_Growth_row : Stmt := inClass (topS 18) 2
abbrev N_Growth_row : List Str := ["self"]
theorem sc_Growth_row : FnScope N_Growth_row ["self"] (defScope s_Growth_row) := ⟨rfl, rfl, rfl, by decide +kernel, rfl, by decide +kernel, by decide +kernel⟩

abbrev s_Growth_owners : Stmt := inClass (topS 18) 4
abbrev N_Growth_owners : List Str := ["self", "signs", "k", "gap", "group", "place"]
theorem sc_Growth_owners : FnScope N_Growth_owners ["self"] (defScope s_Growth_owners) := ⟨rfl, rfl, rfl, by decide +kernel, rfl, by decide +kernel, by decide +kernel⟩

abbrev s_exchanged : Stmt := topS 20
abbrev N_exchanged : List Str := ["first", "second", "g", "u", "h", "v"]
theorem sc_exchanged : FnScope N_exchanged ["first", "second"] (defScope s_exchanged) := ⟨rfl, rfl, rfl, by decide +kernel, rfl, by decide +kernel, by decide +kernel⟩

abbrev s_in_order : Stmt := topS 21
abbrev N_in_order : List Str := ["growth", "joins", "at", "owner", "place"]
theorem sc_in_order : FnScope N_in_order ["growth"] (defScope s_in_order) := ⟨rfl, rfl, rfl, by decide +kernel, rfl, by decide +kernel, by decide +kernel⟩

abbrev s_l_new : Stmt := topS 23
abbrev N_l_new : List Str := ["_law_script"]
theorem sc_l_new : FnScope N_l_new ["_law_script"] (defScope s_l_new) := ⟨rfl, rfl, rfl, by decide +kernel, rfl, by decide +kernel, by decide +kernel⟩

abbrev s_l_draw : Stmt := topS 24
abbrev N_l_draw : List Str := ["_law_state", "_law_many", "_law_cell", "_law_digit"]
theorem sc_l_draw : FnScope N_l_draw ["_law_state", "_law_many"] (defScope s_l_draw) := ⟨rfl, rfl, rfl, by decide +kernel, rfl, by decide +kernel, by decide +kernel⟩

abbrev s_l_same : Stmt := topS 25
abbrev N_l_same : List Str := ["_law_actual", "_law_due", "_law_k"]
theorem sc_l_same : FnScope N_l_same ["_law_actual", "_law_due"] (defScope s_l_same) := ⟨rfl, rfl, rfl, by decide +kernel, rfl, by decide +kernel, by decide +kernel⟩

abbrev s_l_word : Stmt := topS 26
abbrev N_l_word : List Str := ["_law_state", "_law_signs", "_law_least", "_law_top", "_law_row", "_law_k"]
theorem sc_l_word : FnScope N_l_word ["_law_state", "_law_signs", "_law_least", "_law_top"] (defScope s_l_word) := ⟨rfl, rfl, rfl, by decide +kernel, rfl, by decide +kernel, by decide +kernel⟩

abbrev s_l_groups : Stmt := topS 27
abbrev N_l_groups : List Str := ["_law_state", "_law_signs", "_law_top", "_law_size", "_law_many", "_law_k"]
theorem sc_l_groups : FnScope N_l_groups ["_law_state", "_law_signs", "_law_top", "_law_size"] (defScope s_l_groups) := ⟨rfl, rfl, rfl, by decide +kernel, rfl, by decide +kernel, by decide +kernel⟩

abbrev s_l_joins : Stmt := topS 28
abbrev N_l_joins : List Str := ["_law_state", "_law_row", "_law_groups_here", "_law_top", "_law_joins_here", "_law_end", "_law_k", "_law_group", "_law_way", "_law_gap", "_law_last", "_law_word_here"]
theorem sc_l_joins : FnScope N_l_joins ["_law_state", "_law_row", "_law_groups_here", "_law_top"] (defScope s_l_joins) := ⟨rfl, rfl, rfl, by decide +kernel, rfl, by decide +kernel, by decide +kernel⟩

abbrev s_l_line : Stmt := topS 29
abbrev N_l_line : List Str := ["_law_start", "_law_joins_here", "_law_k", "_law_line_here", "_law_gap", "_law_group", "_law_j"]
theorem sc_l_line : FnScope N_l_line ["_law_start", "_law_joins_here"] (defScope s_l_line) := ⟨rfl, rfl, rfl, by decide +kernel, rfl, by decide +kernel, by decide +kernel⟩

abbrev s_l_in_order : Stmt := topS 30
abbrev N_l_in_order : List Str := ["_law_growth", "_law_last", "_law_join"]
theorem sc_l_in_order : FnScope N_l_in_order ["_law_growth"] (defScope s_l_in_order) := ⟨rfl, rfl, rfl, by decide +kernel, rfl, by decide +kernel, by decide +kernel⟩

abbrev s_l_played : Stmt := topS 31
abbrev N_l_played : List Str := ["_law_start", "_law_joins_here", "_law_rows", "_law_gap", "_law_group", "_law_row"]
theorem sc_l_played : FnScope N_l_played ["_law_start", "_law_joins_here"] (defScope s_l_played) := ⟨rfl, rfl, rfl, by decide +kernel, rfl, by decide +kernel, by decide +kernel⟩

abbrev s_l_is_join : Stmt := topS 32
abbrev N_l_is_join : List Str := ["_law_join", "_law_size"]
theorem sc_l_is_join : FnScope N_l_is_join ["_law_join", "_law_size"] (defScope s_l_is_join) := ⟨rfl, rfl, rfl, by decide +kernel, rfl, by decide +kernel, by decide +kernel⟩

abbrev s_l_exchange : Stmt := topS 33
abbrev N_l_exchange : List Str := ["_law_start", "_law_first", "_law_second", "_law_told", "_law_due", "_law_line_here", "_law_one"]
theorem sc_l_exchange : FnScope N_l_exchange ["_law_start", "_law_first", "_law_second"] (defScope s_l_exchange) := ⟨rfl, rfl, rfl, by decide +kernel, rfl, by decide +kernel, by decide +kernel⟩

abbrev s_l_bubbled : Stmt := topS 34
abbrev N_l_bubbled : List Str := ["_law_start", "_law_joins_here", "_law_made", "_law_turn", "_law_at", "_law_k", "_law_told"]
theorem sc_l_bubbled : FnScope N_l_bubbled ["_law_start", "_law_joins_here"] (defScope s_l_bubbled) := ⟨rfl, rfl, rfl, by decide +kernel, rfl, by decide +kernel, by decide +kernel⟩

abbrev s_l_ordered : Stmt := topS 35
abbrev N_l_ordered : List Str := ["_law_start", "_law_joins_here", "_law_growth", "_law_line_here", "_law_k", "_law_heads", "_law_due", "_law_told", "_law_ranks", "_law_owners", "_law_one", "_law_join"]
theorem sc_l_ordered : FnScope N_l_ordered ["_law_start", "_law_joins_here"] (defScope s_l_ordered) := ⟨rfl, rfl, rfl, by decide +kernel, rfl, by decide +kernel, by decide +kernel⟩

abbrev s_l_all_pairs : Stmt := topS 36
abbrev N_l_all_pairs : List Str := ["_law_start", "_law_group", "_law_other", "_law_gap", "_law_later"]
theorem sc_l_all_pairs : FnScope N_l_all_pairs ["_law_start", "_law_group", "_law_other"] (defScope s_l_all_pairs) := ⟨rfl, rfl, rfl, by decide +kernel, rfl, by decide +kernel, by decide +kernel⟩

abbrev s_law : Stmt := topS 37
abbrev N_law : List Str := ["_law_script", "_law_state", "_law_pool", "_law_start", "_law_groups_here", "_law_made", "_law_middle", "_law_joins_here", "_law_rows", "_law_k", "_law_group", "_law_far", "_law_gap", "_law_later"]
theorem sc_law : FnScope N_law ["_law_script"] (defScope s_law) := ⟨rfl, rfl, rfl, by decide +kernel, rfl, by decide +kernel, by decide +kernel⟩

structure Tx (prog : Program) (K : PySem.W.Frag) (mg : Str → Option Value) where
  c_Growth : Addr
  g_Growth : mg "Growth" = some (.ref c_Growth)
  cl_Growth : Cls K c_Growth
  n_Growth_start : NoAttr K c_Growth "start"
  n_Growth_joins : NoAttr K c_Growth "joins"
  n_Growth_row : NoAttr K c_Growth "_row"
  w_Growth : Dn.OwnC K c_Growth
  ki_Growth_Growth : PySem.W.kitOne K (.ref c_Growth) (.ref c_Growth) = some true
  is_letters : DefT K mg "is_letters" s_is_letters ["text"]
  is_group : DefT K mg "is_group" s_is_group ["text"]
  check_group : DefT K mg "check_group" s_check_group ["group"]
  Growth_init : IniT K c_Growth "Growth.__init__" s_Growth_init ["self", "start", "joins"]
  Growth_row_p : Addr
  Growth_row_f : Addr
  Growth_row_fd : FuncData
  Growth_row_F : Fun K "row" "Growth.row" s_Growth_row Growth_row_f Growth_row_fd
  Growth_row_B : Binds K Growth_row_fd ["self"] []
  Growth_row_P : PropOf K c_Growth "row" Growth_row_p Growth_row_f
  Growth_owners : MetT K c_Growth "owners" "Growth.owners" s_Growth_owners ["self"]
  exchanged : DefT K mg "exchanged" s_exchanged ["first", "second"]
  in_order : DefT K mg "in_order" s_in_order ["growth"]
  l_new : DefT K mg "_law_new" s_l_new ["_law_script"]
  l_draw : DefT K mg "_law_draw" s_l_draw ["_law_state", "_law_many"]
  l_same : DefT K mg "_law_same" s_l_same ["_law_actual", "_law_due"]
  l_word : DefT K mg "_law_word" s_l_word ["_law_state", "_law_signs", "_law_least", "_law_top"]
  l_groups : DefT K mg "_law_groups" s_l_groups ["_law_state", "_law_signs", "_law_top", "_law_size"]
  l_joins : DefT K mg "_law_joins" s_l_joins ["_law_state", "_law_row", "_law_groups_here", "_law_top"]
  l_line : DefT K mg "_law_line" s_l_line ["_law_start", "_law_joins_here"]
  l_in_order : DefT K mg "_law_in_order" s_l_in_order ["_law_growth"]
  l_played : DefT K mg "_law_played" s_l_played ["_law_start", "_law_joins_here"]
  l_is_join : DefT K mg "_law_is_join" s_l_is_join ["_law_join", "_law_size"]
  l_exchange : DefT K mg "_law_exchange" s_l_exchange ["_law_start", "_law_first", "_law_second"]
  l_bubbled : DefT K mg "_law_bubbled" s_l_bubbled ["_law_start", "_law_joins_here"]
  l_ordered : DefT K mg "_law_ordered" s_l_ordered ["_law_start", "_law_joins_here"]
  l_all_pairs : DefT K mg "_law_all_pairs" s_l_all_pairs ["_law_start", "_law_group", "_law_other"]
  law : DefT K mg "law" s_law ["_law_script"]
  b_ValueError : mg "ValueError" = none
  b_all : mg "all" = none
  b_bool : mg "bool" = none
  b_enumerate : mg "enumerate" = none
  b_int : mg "int" = none
  b_isinstance : mg "isinstance" = none
  b_len : mg "len" = none
  b_list : mg "list" = none
  b_property : mg "property" = none
  b_range : mg "range" = none
  b_str : mg "str" = none
  b_tuple : mg "tuple" = none
  g_LETTERS : ∃ t, mg "LETTERS" = some (.str "abcdefghijklmnopqrstuvwxyz" t)
  a_GrowsError : Addr
  g_GrowsError : mg "GrowsError" = some (.ref a_GrowsError)
  fI : Addr
  base : PySem.GrX.BaseT prog K a_GrowsError fI
  o_GrowsError : PySem.GrX.OwnT K a_GrowsError fI a_GrowsError
  a_InvalidGroup : Addr
  g_InvalidGroup : mg "InvalidGroup" = some (.ref a_InvalidGroup)
  o_InvalidGroup : PySem.GrX.OwnT K a_GrowsError fI a_InvalidGroup
  a_InvalidText : Addr
  g_InvalidText : mg "InvalidText" = some (.ref a_InvalidText)
  o_InvalidText : PySem.GrX.OwnT K a_GrowsError fI a_InvalidText
  a_GapOutOfRange : Addr
  g_GapOutOfRange : mg "GapOutOfRange" = some (.ref a_GapOutOfRange)
  o_GapOutOfRange : PySem.GrX.OwnT K a_GrowsError fI a_GapOutOfRange
  a_DoNotMeet : Addr
  g_DoNotMeet : mg "DoNotMeet" = some (.ref a_DoNotMeet)
  o_DoNotMeet : PySem.GrX.OwnT K a_GrowsError fI a_DoNotMeet
  x_GrowsError : ExcC K a_GrowsError
  f_GrowsError : XfC K a_GrowsError
  m_GrowsError : PySem.W.exmOne K (.ref a_GrowsError) (.ref a_GrowsError) = some true
  v_GrowsError : PySem.W.kitOne K (.ref a_GrowsError) (.type "ValueError") = some true
  k_GrowsError_InvalidGroup : PySem.W.kitOne K (.ref a_GrowsError) (.ref a_InvalidGroup) = some false
  k_GrowsError_InvalidText : PySem.W.kitOne K (.ref a_GrowsError) (.ref a_InvalidText) = some false
  k_GrowsError_GapOutOfRange : PySem.W.kitOne K (.ref a_GrowsError) (.ref a_GapOutOfRange) = some false
  k_GrowsError_DoNotMeet : PySem.W.kitOne K (.ref a_GrowsError) (.ref a_DoNotMeet) = some false
  x_InvalidGroup : ExcC K a_InvalidGroup
  f_InvalidGroup : XfC K a_InvalidGroup
  m_InvalidGroup : PySem.W.exmOne K (.ref a_InvalidGroup) (.ref a_GrowsError) = some true
  v_InvalidGroup : PySem.W.kitOne K (.ref a_InvalidGroup) (.type "ValueError") = some true
  k_InvalidGroup_InvalidGroup : PySem.W.kitOne K (.ref a_InvalidGroup) (.ref a_InvalidGroup) = some true
  k_InvalidGroup_InvalidText : PySem.W.kitOne K (.ref a_InvalidGroup) (.ref a_InvalidText) = some false
  k_InvalidGroup_GapOutOfRange : PySem.W.kitOne K (.ref a_InvalidGroup) (.ref a_GapOutOfRange) = some false
  k_InvalidGroup_DoNotMeet : PySem.W.kitOne K (.ref a_InvalidGroup) (.ref a_DoNotMeet) = some false
  x_InvalidText : ExcC K a_InvalidText
  f_InvalidText : XfC K a_InvalidText
  m_InvalidText : PySem.W.exmOne K (.ref a_InvalidText) (.ref a_GrowsError) = some true
  v_InvalidText : PySem.W.kitOne K (.ref a_InvalidText) (.type "ValueError") = some true
  k_InvalidText_InvalidGroup : PySem.W.kitOne K (.ref a_InvalidText) (.ref a_InvalidGroup) = some false
  k_InvalidText_InvalidText : PySem.W.kitOne K (.ref a_InvalidText) (.ref a_InvalidText) = some true
  k_InvalidText_GapOutOfRange : PySem.W.kitOne K (.ref a_InvalidText) (.ref a_GapOutOfRange) = some false
  k_InvalidText_DoNotMeet : PySem.W.kitOne K (.ref a_InvalidText) (.ref a_DoNotMeet) = some false
  x_GapOutOfRange : ExcC K a_GapOutOfRange
  f_GapOutOfRange : XfC K a_GapOutOfRange
  m_GapOutOfRange : PySem.W.exmOne K (.ref a_GapOutOfRange) (.ref a_GrowsError) = some true
  v_GapOutOfRange : PySem.W.kitOne K (.ref a_GapOutOfRange) (.type "ValueError") = some true
  k_GapOutOfRange_InvalidGroup : PySem.W.kitOne K (.ref a_GapOutOfRange) (.ref a_InvalidGroup) = some false
  k_GapOutOfRange_InvalidText : PySem.W.kitOne K (.ref a_GapOutOfRange) (.ref a_InvalidText) = some false
  k_GapOutOfRange_GapOutOfRange : PySem.W.kitOne K (.ref a_GapOutOfRange) (.ref a_GapOutOfRange) = some true
  k_GapOutOfRange_DoNotMeet : PySem.W.kitOne K (.ref a_GapOutOfRange) (.ref a_DoNotMeet) = some false
  x_DoNotMeet : ExcC K a_DoNotMeet
  f_DoNotMeet : XfC K a_DoNotMeet
  m_DoNotMeet : PySem.W.exmOne K (.ref a_DoNotMeet) (.ref a_GrowsError) = some true
  v_DoNotMeet : PySem.W.kitOne K (.ref a_DoNotMeet) (.type "ValueError") = some true
  k_DoNotMeet_InvalidGroup : PySem.W.kitOne K (.ref a_DoNotMeet) (.ref a_InvalidGroup) = some false
  k_DoNotMeet_InvalidText : PySem.W.kitOne K (.ref a_DoNotMeet) (.ref a_InvalidText) = some false
  k_DoNotMeet_GapOutOfRange : PySem.W.kitOne K (.ref a_DoNotMeet) (.ref a_GapOutOfRange) = some false
  k_DoNotMeet_DoNotMeet : PySem.W.kitOne K (.ref a_DoNotMeet) (.ref a_DoNotMeet) = some true
/-- the classes by number -/
abbrev mkW {P : Program} {K : PySem.W.Frag} {mg : Str → Option Value} (T : Tx P K mg) (a q : Addr) : Dn.Wd where
  a := a
  q := q
  cl := fun c => match c with
    | 0 => T.c_Growth
    | 100 => T.a_GrowsError
    | 103 => T.a_InvalidGroup
    | 106 => T.a_InvalidText
    | 107 => T.a_GapOutOfRange
    | 108 => T.a_DoNotMeet
    | _ => a
  nm := fun c => match c with
    | 0 => ["start", "joins", "_row"]
    | _ => []
def kc_Growth : Nat → Option Bool := fun c => match c with
    | 0 => some true
    | _ => none
theorem kt_Growth {P : Program} {K : PySem.W.Frag} {mg : Str → Option Value} (T : Tx P K mg) (a q : Addr) : ∀ c b, kc_Growth c = some b → Dn.OwnC K ((mkW T a q).cl c) ∧ PySem.W.kitOne K (.ref ((mkW T a q).cl c)) (.ref T.c_Growth) = some b := fun c b hb => by
  unfold kc_Growth at hb
  split at hb
  · cases hb; exact ⟨T.w_Growth, T.ki_Growth_Growth⟩
  · cases hb
def esE : Nat → Bool := fun c => ([100, 103, 106, 107, 108] : List Nat).contains c
abbrev ktE (h : Nat) : Nat → Option Bool := Dn.ktE esE h
abbrev ktV : Nat → Option Bool := Dn.ktV esE
theorem es_of {c : Nat} (h : esE c = true) : c = 100 ∨ c = 103 ∨ c = 106 ∨ c = 107 ∨ c = 108 := by
  unfold esE at h
  simpa [List.contains_cons, List.contains_nil] using h
theorem xf_err {P : Program} {K : PySem.W.Frag} {mg : Str → Option Value} (T : Tx P K mg) (a q : Addr) : ∀ c, esE c = true → XfC K ((mkW T a q).cl c) ∧ PySem.W.findIn K (.ref ((mkW T a q).cl c)) "value" = some none := fun c hc => by
  rcases es_of hc with rfl | rfl | rfl | rfl | rfl
  · exact ⟨T.f_GrowsError, T.o_GrowsError.noN⟩
  · exact ⟨T.f_InvalidGroup, T.o_InvalidGroup.noN⟩
  · exact ⟨T.f_InvalidText, T.o_InvalidText.noN⟩
  · exact ⟨T.f_GapOutOfRange, T.o_GapOutOfRange.noN⟩
  · exact ⟨T.f_DoNotMeet, T.o_DoNotMeet.noN⟩
theorem xk_ValueError {P : Program} {K : PySem.W.Frag} {mg : Str → Option Value} (T : Tx P K mg) (a q : Addr) : ∀ c b, ktV c = some b → ExcC K ((mkW T a q).cl c) ∧ PySem.W.kitOne K (.ref ((mkW T a q).cl c)) (.type "ValueError") = some b := fun c b hb => by
  obtain ⟨hc, rfl⟩ := Dn.ktV_of hb
  rcases es_of hc with rfl | rfl | rfl | rfl | rfl
  · exact ⟨T.x_GrowsError, T.v_GrowsError⟩
  · exact ⟨T.x_InvalidGroup, T.v_InvalidGroup⟩
  · exact ⟨T.x_InvalidText, T.v_InvalidText⟩
  · exact ⟨T.x_GapOutOfRange, T.v_GapOutOfRange⟩
  · exact ⟨T.x_DoNotMeet, T.v_DoNotMeet⟩
theorem xk_InvalidGroup {P : Program} {K : PySem.W.Frag} {mg : Str → Option Value} (T : Tx P K mg) (a q : Addr) : ∀ c b, ktE 103 c = some b → ExcC K ((mkW T a q).cl c) ∧ PySem.W.kitOne K (.ref ((mkW T a q).cl c)) (.ref T.a_InvalidGroup) = some b := fun c b hb => by
  obtain ⟨hc, rfl⟩ := Dn.ktE_of hb
  rcases es_of hc with rfl | rfl | rfl | rfl | rfl
  · exact ⟨T.x_GrowsError, T.k_GrowsError_InvalidGroup⟩
  · exact ⟨T.x_InvalidGroup, T.k_InvalidGroup_InvalidGroup⟩
  · exact ⟨T.x_InvalidText, T.k_InvalidText_InvalidGroup⟩
  · exact ⟨T.x_GapOutOfRange, T.k_GapOutOfRange_InvalidGroup⟩
  · exact ⟨T.x_DoNotMeet, T.k_DoNotMeet_InvalidGroup⟩
theorem xk_InvalidText {P : Program} {K : PySem.W.Frag} {mg : Str → Option Value} (T : Tx P K mg) (a q : Addr) : ∀ c b, ktE 106 c = some b → ExcC K ((mkW T a q).cl c) ∧ PySem.W.kitOne K (.ref ((mkW T a q).cl c)) (.ref T.a_InvalidText) = some b := fun c b hb => by
  obtain ⟨hc, rfl⟩ := Dn.ktE_of hb
  rcases es_of hc with rfl | rfl | rfl | rfl | rfl
  · exact ⟨T.x_GrowsError, T.k_GrowsError_InvalidText⟩
  · exact ⟨T.x_InvalidGroup, T.k_InvalidGroup_InvalidText⟩
  · exact ⟨T.x_InvalidText, T.k_InvalidText_InvalidText⟩
  · exact ⟨T.x_GapOutOfRange, T.k_GapOutOfRange_InvalidText⟩
  · exact ⟨T.x_DoNotMeet, T.k_DoNotMeet_InvalidText⟩
theorem xk_GapOutOfRange {P : Program} {K : PySem.W.Frag} {mg : Str → Option Value} (T : Tx P K mg) (a q : Addr) : ∀ c b, ktE 107 c = some b → ExcC K ((mkW T a q).cl c) ∧ PySem.W.kitOne K (.ref ((mkW T a q).cl c)) (.ref T.a_GapOutOfRange) = some b := fun c b hb => by
  obtain ⟨hc, rfl⟩ := Dn.ktE_of hb
  rcases es_of hc with rfl | rfl | rfl | rfl | rfl
  · exact ⟨T.x_GrowsError, T.k_GrowsError_GapOutOfRange⟩
  · exact ⟨T.x_InvalidGroup, T.k_InvalidGroup_GapOutOfRange⟩
  · exact ⟨T.x_InvalidText, T.k_InvalidText_GapOutOfRange⟩
  · exact ⟨T.x_GapOutOfRange, T.k_GapOutOfRange_GapOutOfRange⟩
  · exact ⟨T.x_DoNotMeet, T.k_DoNotMeet_GapOutOfRange⟩
theorem xk_DoNotMeet {P : Program} {K : PySem.W.Frag} {mg : Str → Option Value} (T : Tx P K mg) (a q : Addr) : ∀ c b, ktE 108 c = some b → ExcC K ((mkW T a q).cl c) ∧ PySem.W.kitOne K (.ref ((mkW T a q).cl c)) (.ref T.a_DoNotMeet) = some b := fun c b hb => by
  obtain ⟨hc, rfl⟩ := Dn.ktE_of hb
  rcases es_of hc with rfl | rfl | rfl | rfl | rfl
  · exact ⟨T.x_GrowsError, T.k_GrowsError_DoNotMeet⟩
  · exact ⟨T.x_InvalidGroup, T.k_InvalidGroup_DoNotMeet⟩
  · exact ⟨T.x_InvalidText, T.k_InvalidText_DoNotMeet⟩
  · exact ⟨T.x_GapOutOfRange, T.k_GapOutOfRange_DoNotMeet⟩
  · exact ⟨T.x_DoNotMeet, T.k_DoNotMeet_DoNotMeet⟩
end L07
end

section
set_option Elab.async false
set_option linter.all false
set_option maxRecDepth 100000
set_option maxHeartbeats 1000000
namespace Q07
open PySem PySem.Spec PyProof.Rows L2 Evl GrO Dn
/-! ## joins with names: gap, group, name -/
abbrev NJ := Nat × List Nat × Nat
abbrev Sg := Nat × Nat × Nat
def ins {α : Type} (l : List α) (g : Nat) (z : List α) : List α := l.take g ++ z ++ l.drop g
def spanN (o : Nat) (z : List Nat) : List Sg := z.zipIdx.map fun p => (o, p.2 + 1, p.1)
def lineT : List Sg → List NJ → List Sg
  | l, [] => l
  | l, (g, z, o) :: r => lineT (ins l g (spanN o z)) r
def OkN : Nat → List NJ → Prop
  | _, [] => True
  | n, (g, z, _) :: r => g ≤ n ∧ z ≠ [] ∧ OkN (n + z.length) r
def tagF : Nat → List (Int × Str) → List NJ
  | _, [] => []
  | k, (g, z) :: r => (g.toNat, z.cps.toList, k + 1) :: tagF (k + 1) r
def jOf (t : NJ) : Int × Str := ((t.1 : Int), tx t.2.1)
theorem spanN_len {o : Nat} {z : List Nat} : (spanN o z).length = z.length := by
  unfold spanN
  rw [List.length_map, List.length_zipIdx]
theorem ins_app {α : Type} {a b z : List α} {g : Nat} (h : a.length = g) : ins (a ++ b) g z = a ++ z ++ b := by
  unfold ins
  subst h
  rw [List.take_left, List.drop_left]
theorem ins_length {α : Type} {l z : List α} {g : Nat} (h : g ≤ l.length) : (ins l g z).length = l.length + z.length := by
  unfold ins
  rw [List.length_append, List.length_append, List.length_take, List.length_drop]
  omega
theorem ins_map {α β : Type} {f : α → β} {l z : List α} {g : Nat} : (ins l g z).map f = ins (l.map f) g (z.map f) := by
  unfold ins
  rw [List.map_append, List.map_append, List.map_take, List.map_drop]
theorem ins_ins {α : Type} {l u v : List α} {g h : Nat} (h1 : h ≤ g) (h2 : g ≤ l.length) : ins (ins l g u) h v = ins (ins l h v) (g + v.length) u := by
  have e : l = l.take h ++ (l.take g).drop h ++ l.drop g := by
    have : l.take h = (l.take g).take h := by rw [List.take_take, Nat.min_eq_left h1]
    rw [this, List.take_append_drop, List.take_append_drop]
  have ha : (l.take h).length = h := by rw [List.length_take]; omega
  have hb : ((l.take g).drop h).length = g - h := by rw [List.length_drop, List.length_take]; omega
  generalize l.take h = a at e ha
  generalize (l.take g).drop h = b at e hb
  generalize l.drop g = c at e
  subst e
  rw [ins_app (a := a ++ b) (b := c) (by rw [List.length_append]; omega)]
  rw [show a ++ b ++ u ++ c = a ++ (b ++ u ++ c) from by simp only [List.append_assoc]]
  rw [ins_app (a := a) (b := b ++ u ++ c) ha]
  rw [show a ++ b ++ c = a ++ (b ++ c) from by simp only [List.append_assoc]]
  rw [ins_app (a := a) (b := b ++ c) ha]
  rw [show a ++ v ++ (b ++ c) = (a ++ v ++ b) ++ c from by simp only [List.append_assoc]]
  rw [ins_app (a := a ++ v ++ b) (b := c) (by simp only [List.length_append]; omega)]
  simp only [List.append_assoc]
theorem lineF_tag : ∀ {js : List (Int × Str)} {k : Nat} {l : List Sg}, lineF k l js = lineT l (tagF k js)
  | [], _, _ => rfl
  | (g, z) :: r, k, l => lineF_tag (js := r) (k := k + 1)
theorem insS_tx {l z : List Nat} {g : Nat} : insS (tx l) (g : Int) (tx z) = tx (ins l g z) := by
  unfold insS ins
  rw [cut_to, cut_from, tx_app, tx_app]
def chrs (l : List Sg) : List Nat := l.map fun p => p.2.2
theorem chrs_span {o : Nat} {z : List Nat} : chrs (spanN o z) = z := by
  unfold chrs spanN
  rw [List.map_map]
  exact List.ext_getElem (by simp) (fun i h1 h2 => by simp)
/-- a played row: its joins are in order, and its signs are the line's -/
theorem play_ok : ∀ {js : List (Int × Str)} {s w : Str} {k : Nat}, play s js = .row w → OkN s.length (tagF k js) ∧ (∀ j ∈ js, groupB j.2 = true ∧ 0 ≤ j.1) ∧ ∀ l : List Sg, chrs l = s.cps.toList → chrs (lineT l (tagF k js)) = w.cps.toList
  | [], s, w, k, h => by
    have e : s = w := Fate.row.inj h
    subst e
    exact ⟨trivial, fun j hj => absurd hj List.not_mem_nil, fun l hl => hl⟩
  | (g, z) :: r, s, w, k, h => by
    obtain ⟨h0, h1, h2, h3⟩ := play_row h
    obtain ⟨h4, h5, h6⟩ := play_ok (k := k + 1) h3
    obtain ⟨gn, rfl⟩ := Int.eq_ofNat_of_zero_le h0
    have hz : z.cps.toList ≠ [] := fun e => by
      have := group_pos h2
      have e2 : z.cps.toList.length = z.length := rfl
      rw [e] at e2
      simp at e2
      omega
    refine ⟨⟨by show (gn : Int).toNat ≤ _; omega, hz, ?_⟩, ?_, ?_⟩
    · rw [ins_len h0 h1] at h4
      exact h4
    · intro j hj
      rcases List.mem_cons.mp hj with rfl | hj
      · exact ⟨h2, h0⟩
      · exact h5 j hj
    · intro l hl
      show chrs (lineT (ins l (gn : Int).toNat (spanN (k + 1) z.cps.toList)) _) = _
      refine h6 _ ?_
      unfold chrs
      rw [ins_map]
      show ins (chrs l) _ (chrs _) = _
      rw [hl, chrs_span, Int.toNat_natCast]
      have := insS_tx (l := s.cps.toList) (z := z.cps.toList) (g := gn)
      rw [tx_of, tx_of] at this
      rw [this, tx_list]
theorem ok_play : ∀ {T : List NJ} {s : Str}, OkN s.length T → (∀ t ∈ T, groupB (tx t.2.1) = true) → ∃ w, play s (T.map jOf) = .row w
  | [], s, _, _ => ⟨s, rfl⟩
  | (g, z, o) :: r, s, ⟨h1, h2, h3⟩, hg => by
    have hz := hg _ List.mem_cons_self
    have h4 := ins_len (row := s) (z := tx z) (g := (g : Int)) (by omega) (by omega)
    rw [tx_len] at h4
    obtain ⟨w, hw⟩ := ok_play (T := r) (s := insS s g (tx z)) (by rw [h4]; exact h3) (fun t ht => hg t (List.mem_cons_of_mem _ ht))
    refine ⟨w, ?_⟩
    rw [List.map_cons]
    unfold jOf
    rw [play_cons, if_pos ⟨by omega, by omega⟩, if_pos hz]
    exact hw
theorem tag_map : ∀ {T : List NJ} {k : Nat}, tagF k (T.map jOf) = T.zipIdx.map fun p => (p.1.1, p.1.2.1, k + p.2 + 1)
  | [], _ => rfl
  | (g, z, o) :: r, k => by
    show (((g : Int)).toNat, z, k + 1) :: tagF (k + 1) (r.map jOf) = _
    rw [tag_map, List.zipIdx_cons', List.map_cons, List.map_map]
    refine List.cons_eq_cons.mpr ⟨rfl, List.map_congr_left fun p _ => ?_⟩
    simp only [Function.comp, Prod.mk.injEq, true_and]
    exact ⟨rfl, rfl, by show k + 1 + p.2 + 1 = k + (p.2 + 1) + 1; omega⟩
theorem tag_jOf : ∀ {js : List (Int × Str)} {k : Nat}, (∀ j ∈ js, 0 ≤ j.1) → (tagF k js).map jOf = js
  | [], _, _ => rfl
  | (g, z) :: r, k, h => by
    show ((g.toNat : Int), tx z.cps.toList) :: (tagF (k + 1) r).map jOf = _
    rw [tag_jOf fun j hj => h j (List.mem_cons_of_mem _ hj), tx_of, Int.toNat_of_nonneg (h _ List.mem_cons_self)]
/-! ## where heads come to stand -/
def sh : List NJ → Nat → Nat
  | [], p => p
  | (h, v, _) :: r, p => sh r (if h ≤ p then p + v.length else p)
def hd : List NJ → List NJ
  | [] => []
  | (g, z, o) :: r => (sh r g, z, o) :: hd r
theorem sh_lt : ∀ {r : List NJ} {p q : Nat}, p < q → sh r p < sh r q
  | [], _, _, h => h
  | (g, v, _) :: r, p, q, h => by
    refine sh_lt (r := r) ?_
    split <;> split <;> omega
theorem sh_swap {g h : Nat} {u v : List Nat} {a b : Nat} {r : List NJ} (hh : h ≤ g) (p : Nat) : sh ((g, u, a) :: (h, v, b) :: r) p = sh ((h, v, b) :: (g + v.length, u, a) :: r) p := by
  show sh r _ = sh r _
  refine congrArg (sh r) ?_
  by_cases h1 : g ≤ p
  · rw [if_pos h1, if_pos (show h ≤ p + u.length by omega), if_pos (show h ≤ p by omega), if_pos (show g + v.length ≤ p + v.length by omega)]
    omega
  · rw [if_neg h1]
    by_cases h2 : h ≤ p
    · rw [if_pos h2, if_neg (show ¬ g + v.length ≤ p + v.length by omega)]
    · rw [if_neg h2, if_neg (show ¬ g + v.length ≤ p by omega)]
/-- two neighbours exchanged, the second ahead of or at the first -/
inductive Stp : List NJ → List NJ → Prop
  | mk (P R : List NJ) (g h : Nat) (u v : List Nat) (a b : Nat) (hh : h ≤ g) : Stp (P ++ (g, u, a) :: (h, v, b) :: R) (P ++ (h, v, b) :: (g + v.length, u, a) :: R)
theorem Stp.sh {T T' : List NJ} (st : Stp T T') (p : Nat) : sh T p = sh T' p := by
  cases st with
  | mk P R g h u v a b hh =>
    induction P generalizing p with
    | nil => exact sh_swap hh p
    | cons t P ih => exact ih _
theorem Stp.ok {T T' : List NJ} (st : Stp T T') {n : Nat} (h : OkN n T) : OkN n T' := by
  cases st with
  | mk P R g h' u v a b hh =>
    induction P generalizing n with
    | nil =>
      obtain ⟨h1, h2, h3, h4, h5⟩ := h
      exact ⟨by omega, h4, by omega, h2, by rw [show n + v.length + u.length = n + u.length + v.length by omega]; exact h5⟩
    | cons t P ih => exact ⟨h.1, h.2.1, ih h.2.2⟩
theorem Stp.line {T T' : List NJ} (st : Stp T T') {l : List Sg} (h : OkN l.length T) : lineT l T' = lineT l T := by
  cases st with
  | mk P R g h' u v a b hh =>
    induction P generalizing l with
    | nil =>
      obtain ⟨h1, h2, h3, h4, h5⟩ := h
      show lineT (ins (ins l h' (spanN b v)) (g + v.length) (spanN a u)) R = lineT (ins (ins l g (spanN a u)) h' (spanN b v)) R
      rw [ins_ins hh h1, spanN_len]
    | cons t P ih =>
      obtain ⟨g2, z2, o2⟩ := t
      refine ih (l := ins l g2 (spanN o2 z2)) ?_
      rw [ins_length h.1, spanN_len]
      exact h.2.2
theorem hd_app : ∀ {P R R' : List NJ}, (∀ p, Q07.sh R p = Q07.sh R' p) → ∃ A, hd (P ++ R) = A ++ hd R ∧ hd (P ++ R') = A ++ hd R'
  | [], R, R', _ => ⟨[], rfl, rfl⟩
  | (g, z, o) :: P, R, R', h => by
    obtain ⟨A, h1, h2⟩ := hd_app (P := P) h
    have e : ∀ p, Q07.sh (P ++ R) p = Q07.sh (P ++ R') p := by
      intro p
      clear h1 h2 A
      induction P generalizing p with
      | nil => exact h p
      | cons t P ih => exact ih _
    refine ⟨(Q07.sh (P ++ R) g, z, o) :: A, ?_, ?_⟩
    · show _ :: hd (P ++ R) = _
      rw [h1]
      rfl
    · show (Q07.sh (P ++ R') g, z, o) :: hd (P ++ R') = _
      rw [h2, ← e]
      rfl
/-- the heads: two neighbours exchanged, the greater ahead -/
theorem Stp.hd {T T' : List NJ} (st : Stp T T') {n : Nat} (h : OkN n T) : ∃ A B x y, Q07.hd T = A ++ x :: y :: B ∧ Q07.hd T' = A ++ y :: x :: B ∧ y.1 < x.1 := by
  cases st with
  | mk P R g h' u v a b hh =>
    have hv : v ≠ [] := by
      induction P generalizing n with
      | nil => exact h.2.2.2.1
      | cons t P ih => exact ih h.2.2
    have hv : 1 ≤ v.length := by
      cases v with
      | nil => exact absurd rfl hv
      | cons x r => rw [List.length_cons]; omega
    obtain ⟨A, h1, h2⟩ := hd_app (P := P) (R := (g, u, a) :: (h', v, b) :: R) (R' := (h', v, b) :: (g + v.length, u, a) :: R) (sh_swap hh)
    refine ⟨A, Q07.hd R, (Q07.sh R (g + v.length), u, a), (Q07.sh R h', v, b), ?_, ?_, sh_lt (by omega)⟩
    · rw [h1]
      show A ++ (Q07.sh R (if h' ≤ g then g + v.length else g), u, a) :: _ = _
      rw [if_pos hh]
      rfl
    · rw [h2]
      show A ++ (Q07.sh R (if g + v.length ≤ h' then h' + u.length else h'), v, b) :: _ = _
      rw [if_neg (by omega)]
      rfl
/-- pairs out of order -/
def invs : List Nat → Nat
  | [] => 0
  | x :: r => (r.filter fun y => decide (y < x)).length + invs r
def tri : Nat → Nat
  | 0 => 0
  | n + 1 => n + tri n
theorem invs_tri : ∀ {l : List Nat}, invs l ≤ tri l.length
  | [] => Nat.le_refl _
  | x :: r => by
    have h1 := invs_tri (l := r)
    have h2 := List.length_filter_le (fun y => decide (y < x)) r
    show _ + _ ≤ r.length + tri r.length
    omega
theorem tri_45 : ∀ {n : Nat}, n ≤ 10 → tri n ≤ 45
  | 0, _ | 1, _ | 2, _ | 3, _ | 4, _ | 5, _ | 6, _ | 7, _ | 8, _ | 9, _ | 10, _ => by decide
theorem invs_swap {x y : Nat} (h : y < x) {B : List Nat} : ∀ {A : List Nat}, invs (A ++ x :: y :: B) = invs (A ++ y :: x :: B) + 1
  | [] => by
    show ((y :: B).filter fun z => decide (z < x)).length + ((B.filter fun z => decide (z < y)).length + invs B) = ((x :: B).filter fun z => decide (z < y)).length + ((B.filter fun z => decide (z < x)).length + invs B) + 1
    rw [List.filter_cons, List.filter_cons, if_pos (by simpa using h), if_neg (by simp; omega), List.length_cons]
    omega
  | a :: A => by
    show ((A ++ x :: y :: B).filter fun z => decide (z < a)).length + invs (A ++ x :: y :: B) = ((A ++ y :: x :: B).filter fun z => decide (z < a)).length + invs (A ++ y :: x :: B) + 1
    rw [invs_swap h]
    have : ((A ++ x :: y :: B).filter fun z => decide (z < a)).length = ((A ++ y :: x :: B).filter fun z => decide (z < a)).length := by
      simp only [List.filter_append, List.filter_cons, List.length_append]
      split <;> split <;> simp only [List.length_cons]
    omega
/-- gone on from T to T' -/
inductive Bub : List NJ → List NJ → Prop
  | nil (T : List NJ) : Bub T T
  | snoc {T T' T'' : List NJ} : Bub T T' → Stp T' T'' → Bub T T''
theorem Bub.ok {T T' : List NJ} (b : Bub T T') {n : Nat} (h : OkN n T) : OkN n T' := by
  induction b with
  | nil => exact h
  | snoc _ st ih => exact st.ok ih
theorem Bub.line {T T' : List NJ} (b : Bub T T') {l : List Sg} (h : OkN l.length T) : lineT l T' = lineT l T := by
  induction b with
  | nil => rfl
  | snoc b st ih => rw [st.line (b.ok h), ih]
theorem Bub.mem {T T' : List NJ} (b : Bub T T') {n : Nat} (h : OkN n T) : ∀ t, t ∈ hd T' ↔ t ∈ hd T := by
  induction b with
  | nil => exact fun t => Iff.rfl
  | snoc b st ih =>
    obtain ⟨A, B, x, y, h1, h2, _⟩ := st.hd (b.ok h)
    intro t
    rw [← ih, h1, h2]
    simp only [List.mem_append, List.mem_cons]
    constructor <;> (rintro (h | h | h | h) <;> simp [h])
theorem Stp.tl {T T' : List NJ} (st : Stp T T') : (T'.map fun t => t.2).Perm (T.map fun t => t.2) := by
  cases st with
  | mk P R g h u v a b hh =>
    rw [List.map_append, List.map_append]
    exact List.Perm.append_left _ (List.Perm.swap _ _ _)
theorem Bub.tl {T T' : List NJ} (b : Bub T T') : (T'.map fun t => t.2).Perm (T.map fun t => t.2) := by
  induction b with
  | nil => exact .refl _
  | snoc _ st ih => exact st.tl.trans ih
theorem Bub.len {T T' : List NJ} (b : Bub T T') : T'.length = T.length := by
  have := b.tl.length_eq
  rwa [List.length_map, List.length_map] at this
end Q07
end

section
set_option Elab.async false
set_option linter.all false
set_option maxRecDepth 100000
set_option maxHeartbeats 1000000
namespace Q07
open PySem PySem.Spec PyProof.Rows L2 Evl GrO Dn
/-! ## heads in a line -/
def HeadAt (l : List Sg) (p o : Nat) : Prop := ∃ c, l[p]? = some (o, 1, c)
theorem headAt_ins {l : List Sg} {g o : Nat} {z : List Nat} (hg : g ≤ l.length) (hz : z ≠ []) {p o' : Nat} : HeadAt (ins l g (spanN o z)) p o' ↔ (p = g ∧ o' = o) ∨ ∃ p', HeadAt l p' o' ∧ p = if g ≤ p' then p' + z.length else p' := by
  have hz1 : 1 ≤ z.length := by
    cases z with
    | nil => exact absurd rfl hz
    | cons x r => rw [List.length_cons]; omega
  have ht : (l.take g).length = g := by rw [List.length_take]; omega
  have hlt : ∀ q, q < g → (ins l g (spanN o z))[q]? = l[q]? := fun q h => by
    unfold ins
    rw [List.append_assoc, List.getElem?_append_left (by omega), List.getElem?_take_of_lt h]
  have hmid : ∀ q, q < z.length → (ins l g (spanN o z))[g + q]? = z[q]?.map fun c => (o, q + 1, c) := fun q h => by
    unfold ins
    rw [List.append_assoc, List.getElem?_append_right (by omega), ht, Nat.add_sub_cancel_left, List.getElem?_append_left (by rw [spanN_len]; exact h)]
    unfold spanN
    rw [List.getElem?_map, List.getElem?_zipIdx, Option.map_map, Nat.zero_add]
    rfl
  have hgt : ∀ q, g ≤ q → (ins l g (spanN o z))[q + z.length]? = l[q]? := fun q h => by
    unfold ins
    rw [List.getElem?_append_right (by rw [List.length_append, ht, spanN_len]; omega), List.length_append, ht, spanN_len, List.getElem?_drop]
    congr 1
    omega
  constructor
  · rintro ⟨c, h⟩
    by_cases h1 : p < g
    · rw [hlt p h1] at h
      exact Or.inr ⟨p, ⟨c, h⟩, by rw [if_neg (by omega)]⟩
    · by_cases h2 : p < g + z.length
      · have := hmid (p - g) (by omega)
        rw [show g + (p - g) = p by omega, h] at this
        obtain ⟨c2, _, e⟩ := Option.map_eq_some_iff.mp this.symm
        have e1 := congrArg (·.1) e
        have e2 := congrArg (fun x : Sg => x.2.1) e
        simp only at e1 e2
        exact Or.inl ⟨by omega, e1.symm⟩
      · have := hgt (p - z.length) (by omega)
        rw [show p - z.length + z.length = p by omega, h] at this
        exact Or.inr ⟨p - z.length, ⟨c, this.symm⟩, by rw [if_pos (by omega)]; omega⟩
  · rintro (⟨rfl, rfl⟩ | ⟨p', ⟨c, h⟩, rfl⟩)
    · have := hmid 0 (by omega)
      cases z with
      | nil => exact absurd rfl hz
      | cons x r => exact ⟨x, this⟩
    · by_cases h1 : g ≤ p'
      · rw [if_pos h1]
        exact ⟨c, by rw [hgt p' h1]; exact h⟩
      · rw [if_neg h1]
        exact ⟨c, by rw [hlt p' (by omega)]; exact h⟩
theorem headAt_line : ∀ {T : List NJ} {l : List Sg}, OkN l.length T → ∀ {p o : Nat}, HeadAt (lineT l T) p o ↔ (∃ z, (p, z, o) ∈ hd T) ∨ ∃ p', HeadAt l p' o ∧ p = sh T p'
  | [], l, _, p, o => ⟨fun h => Or.inr ⟨p, h, rfl⟩, by
    rintro (⟨z, h⟩ | ⟨p', h, rfl⟩)
    · exact absurd h List.not_mem_nil
    · exact h⟩
  | (g, z, o1) :: r, l, ⟨h1, h2, h3⟩, p, o => by
    show HeadAt (lineT (ins l g (spanN o1 z)) r) p o ↔ _
    rw [headAt_line (by rw [ins_length h1, spanN_len]; exact h3)]
    constructor
    · rintro (⟨z', h⟩ | ⟨p', h, rfl⟩)
      · exact Or.inl ⟨z', List.mem_cons_of_mem _ h⟩
      · rcases (headAt_ins h1 h2).mp h with ⟨rfl, rfl⟩ | ⟨p2, h9, rfl⟩
        · exact Or.inl ⟨z, List.mem_cons_self⟩
        · exact Or.inr ⟨p2, h9, rfl⟩
    · rintro (⟨z', h⟩ | ⟨p', h, rfl⟩)
      · rcases List.mem_cons.mp h with h | h
        · injection h with e1 e2
          injection e2 with e2 e3
          subst e1 e3
          exact Or.inr ⟨g, (headAt_ins h1 h2).mpr (Or.inl ⟨rfl, rfl⟩), rfl⟩
        · exact Or.inl ⟨z', h⟩
      · exact Or.inr ⟨_, (headAt_ins h1 h2).mpr (Or.inr ⟨p', h, rfl⟩), rfl⟩
/-- the heads, in the order of the line, from place k on -/
def headP : Nat → List (Nat × Nat) → List (Nat × Nat)
  | _, [] => []
  | k, (o, p) :: r => if 0 < o ∧ p = 1 then (k, o) :: headP (k + 1) r else headP (k + 1) r
theorem headP_snoc : ∀ {l : List (Nat × Nat)} {k : Nat} {x : Nat × Nat}, headP k (l ++ [x]) = headP k l ++ if 0 < x.1 ∧ x.2 = 1 then [(k + l.length, x.1)] else []
  | [], k, (o, p) => by
    show (if 0 < o ∧ p = 1 then [(k, o)] else []) = [] ++ if 0 < o ∧ p = 1 then [(k + 0, o)] else []
    rw [List.nil_append, Nat.add_zero]
  | (o, p) :: r, k, x => by
    show (if 0 < o ∧ p = 1 then (k, o) :: headP (k + 1) (r ++ [x]) else headP (k + 1) (r ++ [x])) = (if 0 < o ∧ p = 1 then (k, o) :: headP (k + 1) r else headP (k + 1) r) ++ _
    rw [headP_snoc, List.length_cons, show k + 1 + r.length = k + (r.length + 1) by omega]
    split <;> rfl
theorem headP_mem : ∀ {l : List (Nat × Nat)} {k p o : Nat}, (p, o) ∈ headP k l ↔ 0 < o ∧ ∃ i, l[i]? = some (o, 1) ∧ p = k + i
  | [], k, p, o => by
    constructor
    · exact fun h => absurd h List.not_mem_nil
    · rintro ⟨_, i, h, _⟩
      cases h
  | (o1, q) :: r, k, p, o => by
    have ih := headP_mem (l := r) (k := k + 1) (p := p) (o := o)
    have e : (0 < o ∧ ∃ i, ((o1, q) :: r)[i]? = some (o, 1) ∧ p = k + i) ↔ (0 < o ∧ o1 = o ∧ q = 1 ∧ p = k) ∨ (0 < o ∧ ∃ i, r[i]? = some (o, 1) ∧ p = k + 1 + i) := by
      constructor
      · rintro ⟨h0, i, h1, h2⟩
        cases i with
        | zero =>
          injection h1 with h1
          injection h1 with e1 e2
          exact Or.inl ⟨h0, e1, e2, h2⟩
        | succ i => exact Or.inr ⟨h0, i, h1, by omega⟩
      · rintro (⟨h0, rfl, rfl, rfl⟩ | ⟨h0, i, h1, h2⟩)
        · exact ⟨h0, 0, rfl, rfl⟩
        · exact ⟨h0, i + 1, h1, by omega⟩
    rw [e]
    unfold headP
    by_cases c : 0 < o1 ∧ q = 1
    · rw [if_pos c, List.mem_cons, ih]
      refine or_congr ?_ Iff.rfl
      constructor
      · intro h
        injection h with e1 e2
        subst e1 e2
        exact ⟨c.1, rfl, c.2, rfl⟩
      · rintro ⟨_, rfl, _, rfl⟩
        rfl
    · rw [if_neg c, ih]
      constructor
      · exact Or.inr
      · rintro (⟨h0, rfl, rfl, rfl⟩ | h)
        · exact absurd ⟨h0, rfl⟩ c
        · exact h
theorem headP_asc : ∀ {l : List (Nat × Nat)} {k : Nat}, (headP k l).Pairwise fun a b => a.1 < b.1
  | [], _ => List.Pairwise.nil
  | (o, q) :: r, k => by
    unfold headP
    split
    · refine List.pairwise_cons.mpr ⟨fun x hx => ?_, headP_asc⟩
      obtain ⟨p, o2⟩ := x
      obtain ⟨_, i, _, h⟩ := headP_mem.mp hx
      show k < p
      omega
    · exact headP_asc
/-- what ascends and holds the same is the same -/
theorem asc_eq {α : Type} {f : α → Nat} : ∀ {a b : List α}, a.Pairwise (fun x y => f x < f y) → b.Pairwise (fun x y => f x < f y) → (∀ x, x ∈ a ↔ x ∈ b) → a = b
  | [], [], _, _, _ => rfl
  | [], y :: b, _, _, h => absurd ((h y).mpr List.mem_cons_self) List.not_mem_nil
  | x :: a, [], _, _, h => absurd ((h x).mp List.mem_cons_self) List.not_mem_nil
  | x :: a, y :: b, ha, hb, h => by
    rw [List.pairwise_cons] at ha hb
    have e : x = y := by
      rcases List.mem_cons.mp ((h x).mp List.mem_cons_self) with e | h1
      · exact e
      · rcases List.mem_cons.mp ((h y).mpr List.mem_cons_self) with e | h2
        · exact e.symm
        · have := hb.1 _ h1
          have := ha.1 _ h2
          omega
    subst e
    rw [asc_eq ha.2 hb.2 fun z => ?_]
    constructor
    · intro hz
      rcases List.mem_cons.mp ((h z).mp (List.mem_cons_of_mem _ hz)) with e | h1
      · subst e
        have := ha.1 _ hz
        omega
      · exact h1
    · intro hz
      rcases List.mem_cons.mp ((h z).mpr (List.mem_cons_of_mem _ hz)) with e | h1
      · subst e
        have := hb.1 _ hz
        omega
      · exact h1
/-! ## gaps that rise -/
def Asc (T : List NJ) : Prop := T.Pairwise fun a b => a.1 < b.1
theorem sh_asc : ∀ {r : List NJ} {g : Nat}, (∀ t ∈ r, g < t.1) → sh r g = g
  | [], _, _ => rfl
  | (h, v, _) :: r, g, hr => by
    show sh r (if h ≤ g then g + v.length else g) = g
    rw [if_neg (by have := hr _ List.mem_cons_self; simp only at this; omega)]
    exact sh_asc fun t ht => hr t (List.mem_cons_of_mem _ ht)
theorem hd_asc : ∀ {T : List NJ}, Asc T → hd T = T
  | [], _ => rfl
  | (g, z, o) :: r, h => by
    have h := List.pairwise_cons.mp h
    show (sh r g, z, o) :: hd r = _
    rw [sh_asc h.1, hd_asc h.2]
/-- neighbours rise: all rise -/
theorem asc_of : ∀ {T : List NJ}, (∀ k (h : k + 1 < T.length), T[k].1 < T[k + 1].1) → Asc T
  | [], _ => List.Pairwise.nil
  | [t], _ => List.pairwise_singleton _ _
  | t :: u :: r, h => by
    have ih : Asc (u :: r) := asc_of fun k hk => h (k + 1) (by rw [List.length_cons]; omega)
    refine List.pairwise_cons.mpr ⟨fun x hx => ?_, ih⟩
    have h0 : t.1 < u.1 := h 0 (by simp)
    rcases List.mem_cons.mp hx with rfl | hx
    · exact h0
    · exact Nat.lt_trans h0 ((List.pairwise_cons.mp ih).1 _ hx)
/-! ## the names -/
theorem tag_names : ∀ {js : List (Int × Str)} {k : Nat}, (tagF k js).map (fun t => t.2.2) = (List.range js.length).map fun i => k + 1 + i
  | [], _ => rfl
  | (g, z) :: r, k => by
    show (k + 1) :: (tagF (k + 1) r).map _ = _
    rw [tag_names, List.length_cons, List.range_succ_eq_map, List.map_cons, List.map_map]
    refine List.cons_eq_cons.mpr ⟨rfl, List.map_congr_left fun i _ => ?_⟩
    show k + 1 + 1 + i = k + 1 + (i + 1)
    omega
theorem tag_len {js : List (Int × Str)} {k : Nat} : (tagF k js).length = js.length := by
  have := congrArg List.length (tag_names (js := js) (k := k))
  rwa [List.length_map, List.length_map, List.length_range] at this
theorem tag_get : ∀ {js : List (Int × Str)} {k i : Nat} {j : Int × Str}, js[i]? = some j → (tagF k js)[i]? = some (j.1.toNat, j.2.cps.toList, k + i + 1)
  | [], _, _, _, h => by cases h
  | (g, z) :: r, k, 0, j, h => by
    cases h
    rfl
  | (g, z) :: r, k, i + 1, j, h => by
    show (tagF (k + 1) r)[i]? = _
    rw [tag_get (js := r) h]
    show some (_, _, k + 1 + i + 1) = some (_, _, k + (i + 1) + 1)
    rw [show k + 1 + i + 1 = k + (i + 1) + 1 by omega]
/-- a name's group -/
def grp (js : List (Int × Str)) (o : Nat) : Str := (js.getD (o - 1) (0, "")).2
theorem tag_grp {js : List (Int × Str)} {t : NJ} (h : t ∈ tagF 0 js) : 1 ≤ t.2.2 ∧ t.2.2 ≤ js.length ∧ tx t.2.1 = grp js t.2.2 := by
  obtain ⟨i, hi, rfl⟩ := List.mem_iff_getElem.mp h
  rw [tag_len] at hi
  have e := tag_get (k := 0) (List.getElem?_eq_getElem hi)
  rw [List.getElem?_eq_getElem (by rw [tag_len]; exact hi)] at e
  rw [Option.some.inj e]
  refine ⟨by simp only; omega, by simp only; omega, ?_⟩
  unfold grp
  simp only [Nat.zero_add, Nat.add_sub_cancel]
  rw [List.getD_eq_getElem?_getD, List.getElem?_eq_getElem hi, tx_of]
  rfl
/-- the heads of a growth, in the order of its line -/
def heads (s : Str) (js : List (Int × Str)) : List (Nat × Nat) := headP 0 (ownL s js)
def due (s : Str) (js : List (Int × Str)) : List (Int × Str) := (heads s js).map fun q => ((q.1 : Int), grp js q.2)
theorem lineL_tag {s : Str} {js : List (Int × Str)} : lineL s js = lineT (spanN 0 s.cps.toList) (tagF 0 js) := lineF_tag
theorem span_okN {s : Str} {js : List (Int × Str)} {w : Str} (h : play s js = .row w) : OkN (spanN 0 s.cps.toList).length (tagF 0 js) := by
  rw [spanN_len]
  exact (play_ok h).1
theorem span0_head {l : List Nat} {p o : Nat} (h : HeadAt (spanN 0 l) p o) : o = 0 := by
  obtain ⟨c, h⟩ := h
  unfold spanN at h
  rw [List.getElem?_map] at h
  obtain ⟨x, _, e⟩ := Option.map_eq_some_iff.mp h
  exact (congrArg (·.1) e).symm
theorem heads_mem {s w : Str} {js : List (Int × Str)} (h : play s js = .row w) {p o : Nat} : (p, o) ∈ heads s js ↔ ∃ z, (p, z, o) ∈ hd (tagF 0 js) := by
  unfold heads
  rw [headP_mem, ← lineL_pr, lineL_tag]
  have e : (∃ i, ((lineT (spanN 0 s.cps.toList) (tagF 0 js)).map prOf)[i]? = some (o, 1) ∧ p = 0 + i) ↔ HeadAt (lineT (spanN 0 s.cps.toList) (tagF 0 js)) p o := by
    constructor
    · rintro ⟨i, h1, h2⟩
      rw [List.getElem?_map] at h1
      obtain ⟨⟨a, b, c⟩, h3, h4⟩ := Option.map_eq_some_iff.mp h1
      unfold prOf at h4
      injection h4 with e1 e2
      simp only at e1 e2
      subst e1 e2
      rw [h2, Nat.zero_add]
      exact ⟨c, h3⟩
    · rintro ⟨c, h1⟩
      exact ⟨p, by rw [List.getElem?_map, h1]; rfl, by omega⟩
  rw [e, headAt_line (span_okN h)]
  constructor
  · rintro ⟨h0, h1 | ⟨p', h1, _⟩⟩
    · exact h1
    · have := span0_head h1
      omega
  · rintro ⟨z, h1⟩
    refine ⟨?_, Or.inl ⟨z, h1⟩⟩
    have : (z, o) ∈ (tagF 0 js).map fun t => t.2 := by
      have e : ∀ T : List NJ, (hd T).map (fun t => t.2) = T.map fun t => t.2 := by
        intro T
        induction T with
        | nil => rfl
        | cons t r ih =>
          obtain ⟨g, z, o⟩ := t
          show (z, o) :: (hd r).map _ = _
          rw [ih]
          rfl
      rw [← e]
      exact List.mem_map.mpr ⟨_, h1, rfl⟩
    obtain ⟨t, ht, e⟩ := List.mem_map.mp this
    have := (tag_grp ht).1
    rw [e] at this
    exact this
end Q07
end

section
set_option Elab.async false
set_option linter.all false
set_option maxRecDepth 100000
set_option maxHeartbeats 1000000
namespace Q07
open PySem PySem.Spec PyProof.Rows L2 Evl GrO Dn
/-! ## other names, the same signs -/
def rl (f : Nat → Nat) (x : Sg) : Sg := (f x.1, x.2.1, x.2.2)
def rn (f : Nat → Nat) (t : NJ) : NJ := (t.1, t.2.1, f t.2.2)
theorem span_rl {f : Nat → Nat} {o : Nat} {z : List Nat} : (spanN o z).map (rl f) = spanN (f o) z := by
  unfold spanN
  rw [List.map_map]
  rfl
theorem line_rn {f : Nat → Nat} : ∀ {T : List NJ} {l : List Sg}, lineT (l.map (rl f)) (T.map (rn f)) = (lineT l T).map (rl f)
  | [], _ => rfl
  | (g, z, o) :: r, l => by
    show lineT (ins (l.map (rl f)) g (spanN (f o) z)) (r.map (rn f)) = (lineT (ins l g (spanN o z)) r).map (rl f)
    rw [← span_rl, ← ins_map, line_rn]
def rowT : List Nat → List NJ → List Nat
  | s, [] => s
  | s, (g, z, _) :: r => rowT (ins s g z) r
theorem chrs_line : ∀ {T : List NJ} {l : List Sg}, chrs (lineT l T) = rowT (chrs l) T
  | [], _ => rfl
  | (g, z, o) :: r, l => by
    show chrs (lineT (ins l g (spanN o z)) r) = rowT (ins (chrs l) g z) r
    rw [chrs_line]
    congr 1
    show (ins l g (spanN o z)).map _ = _
    rw [ins_map]
    show ins (chrs l) g (chrs (spanN o z)) = _
    rw [chrs_span]
theorem rowT_tag : ∀ {T : List NJ} {k : Nat} {s : List Nat}, rowT s (tagF k (T.map jOf)) = rowT s T
  | [], _, _ => rfl
  | (g, z, o) :: r, k, s => by
    show rowT (ins s (g : Int).toNat (tx z).cps.toList) (tagF (k + 1) (r.map jOf)) = rowT (ins s g z) r
    rw [rowT_tag, Int.toNat_natCast, tx_list]
theorem str_ext {a b : Str} (h : a.cps.toList = b.cps.toList) : a = b := by rw [← tx_of a, h, tx_of]
theorem line_own : ∀ {T : List NJ} {l : List Sg} {n : Nat}, (∀ x ∈ l, x.1 ≤ n) → (∀ t ∈ T, t.2.2 ≤ n) → ∀ x ∈ lineT l T, x.1 ≤ n
  | [], _, _, h, _ => h
  | (g, z, o) :: r, l, n, h, ht => by
    refine line_own (T := r) (fun x hx => ?_) (fun t h => ht t (List.mem_cons_of_mem _ h))
    unfold ins at hx
    rcases List.mem_append.mp hx with hx | hx
    · rcases List.mem_append.mp hx with hx | hx
      · exact h x (List.mem_of_mem_take hx)
      · unfold spanN at hx
        obtain ⟨y, _, rfl⟩ := List.mem_map.mp hx
        exact ht _ List.mem_cons_self
    · exact h x (List.mem_of_mem_drop hx)
theorem lineL_own {s : Str} {js : List (Int × Str)} : ∀ x ∈ lineL s js, x.1 ≤ js.length := by
  rw [lineL_tag]
  refine line_own (fun x hx => ?_) (fun t ht => (tag_grp ht).2.1)
  unfold spanN at hx
  obtain ⟨y, _, rfl⟩ := List.mem_map.mp hx
  exact Nat.zero_le _
theorem ownL_own {s : Str} {js : List (Int × Str)} : ∀ x ∈ ownL s js, x.1 ≤ js.length := fun x hx => by
  rw [← lineL_pr] at hx
  obtain ⟨y, hy, rfl⟩ := List.mem_map.mp hx
  exact lineL_own y hy
theorem lineL_len {s w : Str} {js : List (Int × Str)} (h : play s js = .row w) : (lineL s js).length = w.length := by
  have := congrArg List.length ((play_ok (k := 0) h).2.2 (spanN 0 s.cps.toList) chrs_span)
  rw [← lineL_tag] at this
  unfold chrs at this
  rw [List.length_map] at this
  exact this
theorem lineL_chr {s w : Str} {js : List (Int × Str)} (h : play s js = .row w) : chrs (lineL s js) = w.cps.toList := by
  rw [lineL_tag]
  exact (play_ok (k := 0) h).2.2 (spanN 0 s.cps.toList) chrs_span
/-! ## what is gone on from a growth -/
theorem Bub.grp {js : List (Int × Str)} {T : List NJ} (b : Bub (tagF 0 js) T) {t : NJ} (h : t ∈ T) : 1 ≤ t.2.2 ∧ t.2.2 ≤ js.length ∧ tx t.2.1 = grp js t.2.2 := by
  have : t.2 ∈ (tagF 0 js).map fun t => t.2 := b.tl.mem_iff.mp (List.mem_map.mpr ⟨t, h, rfl⟩)
  obtain ⟨u, hu, e⟩ := List.mem_map.mp this
  have := tag_grp hu
  rw [e] at this
  exact this
theorem Bub.row {s w : Str} {js : List (Int × Str)} (h : play s js = .row w) {T : List NJ} (b : Bub (tagF 0 js) T) : play s (T.map jOf) = .row w := by
  have hk := span_okN h
  have ho := b.ok hk
  rw [spanN_len] at ho
  obtain ⟨w', hw⟩ := ok_play (s := s) ho (fun t ht => by
    have := (b.grp ht).2.2
    rw [this]
    obtain ⟨h1, h2, _⟩ := b.grp ht
    have hj : t.2.2 - 1 < js.length := by omega
    unfold Q07.grp
    rw [List.getD_eq_getElem?_getD, List.getElem?_eq_getElem hj]
    exact ((play_ok (k := 0) h).2.1 _ (List.getElem_mem hj)).1)
  rw [hw]
  have h1 := lineL_chr hw
  have h2 := lineL_chr h
  rw [lineL_tag, chrs_line, rowT_tag, ← chrs_line, b.line hk, ← lineL_tag, h2] at h1
  rw [str_ext h1]
theorem Bub.heads {s w : Str} {js : List (Int × Str)} (h : play s js = .row w) {T : List NJ} (b : Bub (tagF 0 js) T) (ha : Asc T) : heads s js = T.map fun t => (t.1, t.2.2) := by
  refine asc_eq (f := fun x => x.1) headP_asc ?_ (fun x => ?_)
  · rw [List.pairwise_map]
    exact ha
  · obtain ⟨p, o⟩ := x
    rw [heads_mem h]
    constructor
    · rintro ⟨z, hz⟩
      have := (b.mem (span_okN h) _).mpr hz
      rw [hd_asc ha] at this
      exact List.mem_map.mpr ⟨_, this, rfl⟩
    · intro hx
      obtain ⟨⟨g, z, o2⟩, ht, e⟩ := List.mem_map.mp hx
      injection e with e1 e2
      simp only at e1 e2
      subst e1 e2
      refine ⟨z, (b.mem (span_okN h) _).mp ?_⟩
      rw [hd_asc ha]
      exact ht
theorem Bub.due {s w : Str} {js : List (Int × Str)} (h : play s js = .row w) {T : List NJ} (b : Bub (tagF 0 js) T) (ha : Asc T) : due s js = T.map jOf := by
  unfold Q07.due
  rw [b.heads h ha, List.map_map]
  refine List.map_congr_left fun t ht => ?_
  show ((t.1 : Int), Q07.grp js t.2.2) = ((t.1 : Int), tx t.2.1)
  rw [(b.grp ht).2.2]
theorem Bub.cons {T T' T'' : List NJ} (st : Stp T T') (b : Bub T' T'') : Bub T T'' := by
  induction b with
  | nil => exact .snoc (.nil _) st
  | snoc _ st2 ih => exact .snoc ih st2
/-- the exchange at place k -/
def swapAt (T : List NJ) (k : Nat) (x y : NJ) : List NJ := T.take k ++ [(y.1, y.2.1, y.2.2), (x.1 + y.2.1.length, x.2.1, x.2.2)] ++ T.drop (k + 2)
theorem stp_at {T : List NJ} {k : Nat} (h : k + 1 < T.length) (hg : T[k + 1].1 ≤ T[k].1) : Stp T (swapAt T k T[k] T[k + 1]) := by
  have e : T = T.take k ++ T[k] :: T[k + 1] :: T.drop (k + 2) := by
    rw [← List.drop_eq_getElem_cons h, ← List.drop_eq_getElem_cons (by omega), List.take_append_drop]
  have st := Stp.mk (T.take k) (T.drop (k + 2)) T[k].1 T[k + 1].1 T[k].2.1 T[k + 1].2.1 T[k].2.2 T[k + 1].2.2 hg
  unfold swapAt
  rw [List.append_assoc]
  refine (congrArg (fun l => Stp l _) e).mpr ?_
  exact st
theorem Stp.invs {T T' : List NJ} (st : Stp T T') {n : Nat} (h : OkN n T) : Q07.invs ((Q07.hd T).map fun t => t.1) = Q07.invs ((Q07.hd T').map fun t => t.1) + 1 := by
  obtain ⟨A, B, x, y, h1, h2, h3⟩ := st.hd h
  rw [h1, h2, List.map_append, List.map_append]
  exact invs_swap h3
theorem hd_len : ∀ {T : List NJ}, (hd T).length = T.length
  | [] => rfl
  | (g, z, o) :: r => by
    show (hd r).length + 1 = _
    rw [hd_len]
    rfl
theorem asc_or (T : List NJ) : Asc T ∨ ∃ k, ∃ h : k + 1 < T.length, T[k + 1].1 ≤ T[k].1 := by
  by_cases h : ∃ k, ∃ h : k + 1 < T.length, T[k + 1].1 ≤ T[k].1
  · exact Or.inr h
  · refine Or.inl (asc_of fun k hk => ?_)
    rcases Nat.lt_or_ge T[k].1 T[k + 1].1 with c | c
    · exact c
    · exact absurd ⟨k, hk, c⟩ h
theorem bub_ex : ∀ (n : Nat) {T : List NJ} {m : Nat}, OkN m T → invs ((hd T).map fun t => t.1) ≤ n → ∃ T', Bub T T' ∧ Asc T'
  | n, T, m, h, hi => by
    rcases asc_or T with ha | ⟨k, hk, hg⟩
    · exact ⟨T, .nil _, ha⟩
    · have st := stp_at hk hg
      have e := st.invs h
      cases n with
      | zero => omega
      | succ n =>
        obtain ⟨T', b, ha⟩ := bub_ex n (st.ok h) (by omega)
        exact ⟨T', .cons st b, ha⟩
theorem due_ex {s w : Str} {js : List (Int × Str)} (h : play s js = .row w) : ∃ T, Bub (tagF 0 js) T ∧ Asc T := bub_ex _ (span_okN h) (Nat.le_refl _)
theorem due_row {s w : Str} {js : List (Int × Str)} (h : play s js = .row w) : play s (due s js) = .row w := by
  obtain ⟨T, b, ha⟩ := due_ex h
  rw [b.due h ha]
  exact b.row h
theorem due_len {s w : Str} {js : List (Int × Str)} (h : play s js = .row w) : (due s js).length = js.length := by
  obtain ⟨T, b, ha⟩ := due_ex h
  rw [b.due h ha, List.length_map, b.len, tag_len]
theorem tag_asc : ∀ {T : List NJ} {k : Nat}, Asc T → Asc (tagF k (T.map jOf))
  | [], _, _ => List.Pairwise.nil
  | (g, z, o) :: r, k, h => by
    have h := List.pairwise_cons.mp h
    refine List.pairwise_cons.mpr ⟨fun x hx => ?_, tag_asc (T := r) (k := k + 1) h.2⟩
    obtain ⟨i, hi, rfl⟩ := List.mem_iff_getElem.mp hx
    rw [tag_len, List.length_map] at hi
    have e := tag_get (k := k + 1) (js := r.map jOf) (i := i) (List.getElem?_eq_getElem (by rw [List.length_map]; exact hi))
    rw [List.getElem?_eq_getElem (by rw [tag_len, List.length_map]; exact hi)] at e
    rw [Option.some.inj e]
    show (g : Int).toNat < _
    rw [List.getElem_map]
    have := h.1 _ (List.getElem_mem hi)
    show (g : Int).toNat < (r[i].1 : Int).toNat
    simp only at this
    omega
theorem due_due {s w : Str} {js : List (Int × Str)} (h : play s js = .row w) : due s (due s js) = due s js := by
  obtain ⟨T, b, ha⟩ := due_ex h
  have hr := due_row h
  rw [b.due h ha] at hr ⊢
  rw [(Bub.nil _).due hr (tag_asc ha), tag_jOf]
  intro j hj
  obtain ⟨t, _, rfl⟩ := List.mem_map.mp hj
  show (0 : Int) ≤ (t.1 : Int)
  omega
/-- the line under the names that the order gives -/
theorem due_line {s w : Str} {js : List (Int × Str)} (h : play s js = .row w) {f : Nat → Nat} (h0 : f 0 = 0) (hf : ∀ k q, (heads s js)[k]? = some q → f q.2 = k + 1) : lineL s (due s js) = (lineL s js).map (rl f) := by
  obtain ⟨T, b, ha⟩ := due_ex h
  rw [b.due h ha, lineL_tag, lineL_tag, ← b.line (span_okN h), ← line_rn, span_rl, h0]
  congr 1
  rw [tag_map]
  refine List.ext_getElem (by simp) (fun i h1 h2 => ?_)
  simp only [List.getElem_map, List.getElem_zipIdx, Nat.zero_add]
  have hi : i < T.length := by simpa using h2
  have := hf i (T[i].1, T[i].2.2) (by rw [b.heads h ha, List.getElem?_map, List.getElem?_eq_getElem hi]; rfl)
  unfold rn
  rw [this]
/-! ## two joins exchanged -/
def exF (a b : Int × Str) : Option ((Int × Str) × (Int × Str)) :=
  if b.1 ≤ a.1 then some ((b.1, b.2), (a.1 + (b.2.length : Int), a.2))
  else if a.1 + (a.2.length : Int) ≤ b.1 then some ((b.1 - (a.2.length : Int), b.2), (a.1, a.2)) else none
theorem exF_back {a b c d : Int × Str} (h : exF a b = some (c, d)) (ha : 1 ≤ a.2.length) (hb : 1 ≤ b.2.length) : exF c d = some (a, b) := by
  obtain ⟨g, u⟩ := a
  obtain ⟨h', v⟩ := b
  simp only at ha hb
  unfold exF at h
  simp only at h
  split at h
  · cases h
    unfold exF
    simp only
    rw [if_neg (by omega), if_pos (by omega), show g + (v.length : Int) - (v.length : Int) = g by omega]
  · split at h
    · cases h
      unfold exF
      simp only
      rw [if_pos (by omega), show h' - (u.length : Int) + (u.length : Int) = h' by omega]
    · cases h
def flip3 (o : Nat) : Nat := if 0 < o then 3 - o else 0
theorem exF_line {s : Str} {a b c d : Int × Str} (h : exF a b = some (c, d)) (h0 : 0 ≤ a.1) (h1 : a.1 ≤ (s.length : Int)) (h2 : 0 ≤ b.1) (h3 : b.1 ≤ (s.length : Int) + (a.2.length : Int)) (ha : 1 ≤ a.2.length) (hb : 1 ≤ b.2.length) :
    (lineL s [c, d]).map (rl flip3) = lineL s [a, b] ∧ 0 ≤ c.1 ∧ c.1 ≤ (s.length : Int) ∧ 0 ≤ d.1 ∧ d.1 ≤ (s.length : Int) + (c.2.length : Int) ∧ (c.2 = b.2 ∧ d.2 = a.2) := by
  obtain ⟨g, u⟩ := a
  obtain ⟨h', v⟩ := b
  simp only at h0 h1 h2 h3 ha hb
  obtain ⟨gn, rfl⟩ := Int.eq_ofNat_of_zero_le h0
  obtain ⟨hn, rfl⟩ := Int.eq_ofNat_of_zero_le h2
  have hu : u.cps.toList ≠ [] := fun e => by
    have e2 : u.cps.toList.length = u.length := rfl
    rw [e] at e2
    simp at e2
    omega
  have hv : v.cps.toList ≠ [] := fun e => by
    have e2 : v.cps.toList.length = v.length := rfl
    rw [e] at e2
    simp at e2
    omega
  have eu : u.cps.toList.length = u.length := rfl
  have ev : v.cps.toList.length = v.length := rfl
  have es : (spanN 0 s.cps.toList).length = s.length := spanN_len
  unfold exF at h
  simp only at h
  rw [lineL_tag, lineL_tag, ← line_rn, span_rl]
  split at h
  · rename_i hc
    cases h
    refine ⟨?_, by simp only; omega, by simp only; omega, by simp only; omega, by simp only; omega, rfl, rfl⟩
    have st := Stp.mk [] [] gn hn u.cps.toList v.cps.toList 1 2 (by omega)
    have := st.line (l := spanN 0 s.cps.toList) ⟨by omega, hu, by omega, hv, trivial⟩
    simp only [List.nil_append] at this
    show lineT (spanN 0 s.cps.toList) [((hn : Int).toNat, v.cps.toList, 2), ((gn + (v.length : Int)).toNat, u.cps.toList, 1)] = lineT (spanN 0 s.cps.toList) [((gn : Int).toNat, u.cps.toList, 1), ((hn : Int).toNat, v.cps.toList, 2)]
    rw [Int.toNat_natCast, Int.toNat_natCast, show (gn + (v.length : Int)).toNat = gn + v.cps.toList.length by omega]
    exact this
  · rename_i hc
    split at h
    · rename_i hc2
      cases h
      refine ⟨?_, by simp only; omega, by simp only; omega, by simp only; omega, by simp only; omega, rfl, rfl⟩
      have st := Stp.mk [] [] (hn - u.length) gn v.cps.toList u.cps.toList 2 1 (by omega)
      have := st.line (l := spanN 0 s.cps.toList) ⟨by omega, hv, by omega, hu, trivial⟩
      simp only [List.nil_append] at this
      show lineT (spanN 0 s.cps.toList) [((hn - (u.length : Int)).toNat, v.cps.toList, 2), ((gn : Int).toNat, u.cps.toList, 1)] = lineT (spanN 0 s.cps.toList) [((gn : Int).toNat, u.cps.toList, 1), ((hn : Int).toNat, v.cps.toList, 2)]
      rw [Int.toNat_natCast, Int.toNat_natCast, show (hn - (u.length : Int)).toNat = hn - u.length by omega]
      rw [show hn - u.length + u.cps.toList.length = hn by omega] at this
      exact this.symm
    · cases h
theorem exF_none {a b : Int × Str} : exF a b = none ↔ a.1 < b.1 ∧ b.1 < a.1 + (a.2.length : Int) := by
  unfold exF
  constructor
  · intro h
    split at h
    · cases h
    · split at h
      · cases h
      · omega
  · rintro ⟨h1, h2⟩
    rw [if_neg (by omega), if_neg (by omega)]
end Q07
end

section
set_option Elab.async false
set_option linter.all false
set_option maxRecDepth 100000
set_option maxHeartbeats 1000000
namespace Dn
open PySem PySem.Spec PyProof.Rows L2 Evl GrO
/-! ## shared by the growths' laws -/
theorem same_wp {n : Nat} {a b : D} {P : LV → Prop} {E : Nat → D → Prop} (ha : Dat n a) (hb : Dat n b) (hn : n ≤ 7) (q : P (.fz (.bl (decide (a = b))))) : (fs_same 8 [a, b]).wp P E := by
  unfold fs_same
  exact needI ⟨ha.le hn, hb.le hn⟩ (by rw [wp_ret]; exact q)
theorem jbnd_of {s : Str} {js : List (Int × Str)} (h1 : s.length ≤ 1000) (h2 : js.length ≤ 300) (h3 : ∀ j ∈ js, Sgn j.2 ∧ j.2.length ≤ 100 ∧ j.1.natAbs < 2 ^ 1900) : JBnd s js := by
  have h4 := sum_bnd (l := js) (f := fun j => j.2.length) (b := 100) (fun j hj => (h3 j hj).2.1)
  exact ⟨by omega, by omega, fun j hj => ⟨(h3 j hj).1, (h3 j hj).2.2⟩⟩
theorem jD_dat {js : List (Int × Str)} : ∀ d ∈ js.map jD, Dat 1 d := fun d hd => by
  obtain ⟨j, _, rfl⟩ := List.mem_map.mp hd
  exact ⟨(show 2 ≤ 100000 by decide), fun x hx => by
    simp only [List.mem_cons, List.not_mem_nil, or_false] at hx
    rcases hx with rfl | rfl <;> exact trivial⟩
theorem rowsOf_len : ∀ {js : List (Int × Str)} {s : Str}, (rowsOf s js).length = js.length + 1
  | [], _ => rfl
  | (g, z) :: r, s => by
    show (rowsOf (insS s g z) r).length + 1 = _
    rw [rowsOf_len]
    rfl
theorem own_len : ∀ {js : List (Int × Str)} {k : Nat} {l : List (Nat × Nat)} {row w : Str}, play row js = .row w → l.length = row.length → (ownF k l js).length = w.length
  | [], _, _, row, w, h, hl => by
    have e : row = w := Fate.row.inj h
    rw [← e]
    exact hl
  | (g, z) :: r, k, l, row, w, h, hl => by
    obtain ⟨h0, h1, h2, h3⟩ := play_row h
    show (ownF (k + 1) (l.take g.toNat ++ spanL (k + 1) z.length ++ l.drop g.toNat) r).length = _
    refine own_len (row := insS row g z) h3 ?_
    have := ins_len (z := z) h0 h1
    rw [List.length_append, List.length_append, List.length_take, List.length_drop, spanL_len]
    omega
theorem abc_let : ("abcdefghijklmnopqrstuvwxyz" : Str).cps.toList = LETL := rfl
theorem pool_at {r : Nat} (h : (r : Int) < 2) : ∃ g : Str, atI [D.str (Str.ofString "ab"), D.str (Str.ofString "abcdefghijklmnopqrstuvwxyz")] (r : Int) = some (.str g) ∧ 1 ≤ g.length ∧ g.length ≤ 1000 ∧ ∀ c ∈ g.cps.toList, c ∈ LETL := by
  have h2 : r = 0 ∨ r = 1 := by omega
  rcases h2 with rfl | rfl
  · exact ⟨("ab" : Str), rfl, by decide, by decide, by decide +kernel⟩
  · exact ⟨("abcdefghijklmnopqrstuvwxyz" : Str), rfl, by decide, by decide, fun c hc => hc⟩
theorem word_group {g z : Str} {a b : Int} (hg : ∀ c ∈ g.cps.toList, c ∈ LETL) (h : Word g a b z) (ha : 1 ≤ a) : groupB z = true := by
  unfold groupB lowB
  rw [Bool.and_eq_true, decide_eq_true_iff, List.all_eq_true]
  refine ⟨fun e => ?_, fun c hc => decide_eq_true (hg c (h.of c hc))⟩
  have := h.lo
  rw [e] at this
  have e2 : (("" : Str).length : Int) = 0 := rfl
  omega
theorem play_more : ∀ {js : List (Int × Str)} {s s' e : Str}, play s js = .row e → s.length ≤ s'.length → ∃ e', play s' js = .row e'
  | [], _, s', _, _, _ => ⟨s', rfl⟩
  | (g, z) :: r, s, s', e, h, hl => by
    obtain ⟨h0, h1, h2, h3⟩ := play_row h
    have k1 : g ≤ (s'.length : Int) := by omega
    rw [play_cons, if_pos ⟨h0, k1⟩, if_pos h2]
    refine play_more h3 ?_
    rw [ins_len h0 h1, ins_len h0 k1]
    omega

theorem tru_wp {n : Nat} {a : D} {P : LV → Prop} {E : Nat → D → Prop} (ha : Dat n a) (hn : n ≤ 7) (q : P (.fz (.bl true))) : (fs_same 8 [a, a]).wp P E := same_wp ha ha hn (by rw [decide_eq_true rfl]; exact q)
/-- a played growth's gaps are within its row -/
theorem play_gap : ∀ {js : List (Int × Str)} {s w : Str}, play s js = .row w → ∀ j ∈ js, 0 ≤ j.1 ∧ j.1 ≤ (w.length : Int) ∧ groupB j.2 = true
  | [], _, _, _, j, hj => absurd hj List.not_mem_nil
  | (g, z) :: r, s, w, h, j, hj => by
    obtain ⟨h0, h1, h2, h3⟩ := play_row h
    have q1 := play_len h3
    have q2 := ins_len (z := z) h0 h1
    rcases List.mem_cons.mp hj with rfl | hj
    · exact ⟨h0, by show g ≤ _; omega, h2⟩
    · exact play_gap h3 j hj
theorem sgn_group {z : Str} (h : groupB z = true) : Sgn z := fun c hc => Nat.lt_trans ((group_sgn h).1 c hc) (by decide)
structure Small (s : Str) (js : List (Int × Str)) : Prop where
  s : s.length ≤ 1000
  n : js.length ≤ 40
  z : ∀ j ∈ js, j.2.length ≤ 100
theorem Small.sum {s : Str} {js : List (Int × Str)} (h : Small s js) : s.length + (js.map fun j => j.2.length).sum ≤ 5000 := by
  have h4 := sum_bnd (l := js) (f := fun j => j.2.length) (b := 100) h.z
  have := h.s
  have := h.n
  omega
theorem Small.row {s w : Str} {js : List (Int × Str)} (h : Small s js) (hp : play s js = .row w) : w.length ≤ 5000 := by
  have := h.sum
  rw [play_len hp]
  exact this
theorem Small.bnd {s w : Str} {js : List (Int × Str)} (h : Small s js) (hp : play s js = .row w) : JBnd s js := by
  have h1 := h.s
  have h2 := h.n
  have h3 := h.row hp
  exact jbnd_of (by omega) (by omega) fun j hj => ⟨sgn_group (play_gap hp j hj).2.2, h.z j hj, Nat.lt_of_le_of_lt (show j.1.natAbs ≤ 5000 by have := play_gap hp j hj; omega) (by decide +kernel)⟩
theorem Small.plays {s w : Str} {js : List (Int × Str)} (h : Small s js) (hp : play s js = .row w) : Plays s js := ⟨h.bnd hp, w, hp⟩
theorem rowsOf_get : ∀ {js : List (Int × Str)} {s w : Str}, play s js = .row w → ∀ {i : Nat}, i ≤ js.length → ∃ row, (rowsOf s js)[i]? = some row ∧ play row (js.drop i) = .row w ∧ row.length ≤ w.length
  | [], s, w, h, 0, hi => ⟨s, rfl, h, by cases h; exact Nat.le_refl _⟩
  | [], s, w, h, i + 1, hi => by simp at hi
  | (g, z) :: r, s, w, h, 0, hi => ⟨s, rfl, h, by rw [play_len h]; omega⟩
  | (g, z) :: r, s, w, h, i + 1, hi => by
    obtain ⟨h0, h1, h2, h3⟩ := play_row h
    obtain ⟨row, a, b, c⟩ := rowsOf_get h3 (i := i) (by simpa using hi)
    exact ⟨row, a, b, c⟩
end Dn
end

section
set_option Elab.async false
set_option linter.all false
set_option maxRecDepth 100000
set_option maxHeartbeats 1000000
namespace Q07
open PySem PySem.Spec PyProof.Rows L2 Evl GrO Dn
local macro_rules | `(tactic| walk_at "wps") => `(tactic| simp only [wp_ret, wp_need, wp_pick, wp_exc, wp_bad, wp_bindE, wp_trE, wp_noexE, opt_some, opt_none, toDs_nil, toDs_cons, toD_fz, toD_os, toD_ol, toD_ok, sSet, sIf, sRet, sRetV, sRetN, sExpr, sBrk, sCont, sFrz, sNil, setS, sUnp, sFldM, sRaise, sApp, sExt, sItem, popM, sPop, sPopTo, sSlice, sAug, mC, mVar, m2, m1, tVal, tTru, tAndM, tOrM, tNotM, mAnd, mOr, mNot, mIf, maNil, maCons, frz, mTup, mLst, mLstN, mSl, oNone, oSome, mRevL, mRevS, mCB, mCall, mCallB, mMeth, mFld, mProp, mMake, mChain, mLc, tYesM, lcF, gN, gAll, gT, iSeq, iRange1, iRange2, iEnumLM, iEnumTM, iZipLM, iterD, listF, wipeL, truth, flatR, unb, brw, owns, fI2, fSub, fNeg, fAdd, fMul, fEq_i, fEq_s, fEq_b, fCmp, fIsN, Dn.isNon, fIx, fSl, fLen, fList, fTuple, fInt, fStr, fAbs, fMax2, fMin2, isiD, mIsi, mFmt, mJs, mM1, mM0, fSplit, fPart, fFind, fStarts, eqK, peek, listD, seqD, nestD, mLenO, mAbsO, mIxO, iOwn, sTryAs, setX, endX, mXv, mIsX, gNilM, gLift, gYield, gFrom, mListG0, mListG, List.map_cons, List.map_nil, List.length_cons, List.length_nil, List.replicate, List.cons_append, List.nil_append, List.append_nil, List.getElem?_cons_zero, List.getElem?_cons_succ, List.getElem?_nil, List.set_cons_zero, List.set_cons_succ, List.set_nil, Nat.reduceAdd, Nat.reduceSub, Nat.add_zero, Nat.zero_add, Nat.sub_self, Nat.sub_zero, Bool.not_true, Bool.not_false, if_true, if_false, decide_true, decide_false, Bool.true_and, Bool.and_true, Bool.false_and, Bool.and_false, Bool.or_true, Bool.true_or, Bool.false_or, Bool.or_false, String.reduceBEq, reduceIte, Bool.false_eq_true, true_and, and_true, Option.map_some, Option.map_none, Option.bind_some, Option.bind_none])
noncomputable section
/-- the pair told, or none -/
def exL : Option ((Int × Str) × (Int × Str)) → LV
  | none => .fz .non
  | some (c, d) => .fz (.tup [jD c, jD d])
def fs_exchanged : Fs := fun ds => match ds with
  | [.tup [.int g, .str u], .tup [.int h, .str v]] => .need (u.length ≤ 100000 ∧ v.length ≤ 100000) (.ret (exL (exF (g, u) (h, v))))
  | _ => .bad
theorem exchanged_wp {a b : Int × Str} {P : LV → Prop} {E : Nat → D → Prop} (h1 : a.2.length ≤ 100000) (h2 : b.2.length ≤ 100000) (q : P (exL (exF a b))) : (fs_exchanged [jD a, jD b]).wp P E := needI ⟨h1, h2⟩ (by rw [wp_ret]; exact q)
def m_exchanged : Sm := (sSeq (sUnp (gT 2 [gN 2, gN 3]) (mVar 0)) (sSeq (sUnp (gT 2 [gN 4, gN 5]) (mVar 1)) (sSeq (sIf (tVal (m2 fLe (mVar 4) (mVar 2))) (sRet (mTup (maCons (mTup (maCons (mVar 4) (maCons (mVar 5) maNil))) (maCons (mTup (maCons (m2 fAdd (mVar 2) (mCB fLen (maCons (mVar 5) maNil))) (maCons (mVar 3) maNil))) maNil)))) sNil) (sSeq (sIf (tVal (m2 fGe (mVar 4) (m2 fAdd (mVar 2) (mCB fLen (maCons (mVar 3) maNil))))) (sRet (mTup (maCons (mTup (maCons (m2 fSub (mVar 4) (mCB fLen (maCons (mVar 3) maNil))) (maCons (mVar 5) maNil))) (maCons (mTup (maCons (mVar 2) (maCons (mVar 3) maNil))) maNil)))) sNil) (sRet (mC D.non))))))
theorem ref_exchanged {ds : List D} (hl : ds.length = 2) : Ref (runB m_exchanged 6 ds) (fs_exchanged ds) := by
  intro P E h
  unfold fs_exchanged at h
  split at h
  · rename_i g u h' v
    rw [wp_need, wp_ret] at h
    obtain ⟨⟨h1, h2⟩, k⟩ := h
    unfold exF at k
    refine wp_run fun R hR => ?_
    unfold m_exchanged
    refine wp_sq fun N hN => ?_
    walk_at "wps"
    refine hN.nx _ ?_
    clear hN N
    refine wp_sq fun N hN => ?_
    walk_at "wps"
    refine hN.nx _ ?_
    clear hN N
    refine wp_sq fun N hN => ?_
    walk_at "wps"
    by_cases c1 : h' ≤ g
    · rw [if_pos (show (h', v).1 ≤ (g, u).1 from c1)] at k
      simp only [c1, wp_ret, wp_need, wp_pick, wp_exc, wp_bad, wp_bindE, wp_trE, wp_noexE, opt_some, opt_none, toDs_nil, toDs_cons, toD_fz, toD_os, toD_ol, toD_ok, sSet, sIf, sRet, sRetV, sRetN, sExpr, sBrk, sCont, sFrz, sNil, setS, sUnp, sFldM, sRaise, sApp, sExt, sItem, popM, sPop, sPopTo, sSlice, sAug, mC, mVar, m2, m1, tVal, tTru, tAndM, tOrM, tNotM, mAnd, mOr, mNot, mIf, maNil, maCons, frz, mTup, mLst, mLstN, mSl, oNone, oSome, mRevL, mRevS, mCB, mCall, mCallB, mMeth, mFld, mProp, mMake, mChain, mLc, tYesM, lcF, gN, gAll, gT, iSeq, iRange1, iRange2, iEnumLM, iEnumTM, iZipLM, iterD, listF, wipeL, truth, flatR, unb, brw, owns, fI2, fSub, fNeg, fAdd, fMul, fEq_i, fEq_s, fEq_b, fCmp, fIsN, Dn.isNon, fIx, fSl, fLen, fList, fTuple, fInt, fStr, fAbs, fMax2, fMin2, isiD, mIsi, mFmt, mJs, mM1, mM0, fSplit, fPart, fFind, fStarts, eqK, peek, listD, seqD, nestD, mLenO, mAbsO, mIxO, iOwn, sTryAs, setX, endX, mXv, mIsX, gNilM, gLift, gYield, gFrom, mListG0, mListG, List.map_cons, List.map_nil, List.length_cons, List.length_nil, List.replicate, List.cons_append, List.nil_append, List.append_nil, List.getElem?_cons_zero, List.getElem?_cons_succ, List.getElem?_nil, List.set_cons_zero, List.set_cons_succ, List.set_nil, Nat.reduceAdd, Nat.reduceSub, Nat.add_zero, Nat.zero_add, Nat.sub_self, Nat.sub_zero, Bool.not_true, Bool.not_false, if_true, if_false, decide_true, decide_false, Bool.true_and, Bool.and_true, Bool.false_and, Bool.and_false, Bool.or_true, Bool.true_or, Bool.false_or, Bool.or_false, String.reduceBEq, reduceIte, Bool.false_eq_true, true_and, and_true, Option.map_some, Option.map_none, Option.bind_some, Option.bind_none]
      refine ⟨by decide, h2, by decide, by decide, ?_⟩
      exact hN.rt _ (hR.rt _ rfl k)
    · rw [if_neg (show ¬ (h', v).1 ≤ (g, u).1 from c1)] at k
      simp only [c1, wp_ret, wp_need, wp_pick, wp_exc, wp_bad, wp_bindE, wp_trE, wp_noexE, opt_some, opt_none, toDs_nil, toDs_cons, toD_fz, toD_os, toD_ol, toD_ok, sSet, sIf, sRet, sRetV, sRetN, sExpr, sBrk, sCont, sFrz, sNil, setS, sUnp, sFldM, sRaise, sApp, sExt, sItem, popM, sPop, sPopTo, sSlice, sAug, mC, mVar, m2, m1, tVal, tTru, tAndM, tOrM, tNotM, mAnd, mOr, mNot, mIf, maNil, maCons, frz, mTup, mLst, mLstN, mSl, oNone, oSome, mRevL, mRevS, mCB, mCall, mCallB, mMeth, mFld, mProp, mMake, mChain, mLc, tYesM, lcF, gN, gAll, gT, iSeq, iRange1, iRange2, iEnumLM, iEnumTM, iZipLM, iterD, listF, wipeL, truth, flatR, unb, brw, owns, fI2, fSub, fNeg, fAdd, fMul, fEq_i, fEq_s, fEq_b, fCmp, fIsN, Dn.isNon, fIx, fSl, fLen, fList, fTuple, fInt, fStr, fAbs, fMax2, fMin2, isiD, mIsi, mFmt, mJs, mM1, mM0, fSplit, fPart, fFind, fStarts, eqK, peek, listD, seqD, nestD, mLenO, mAbsO, mIxO, iOwn, sTryAs, setX, endX, mXv, mIsX, gNilM, gLift, gYield, gFrom, mListG0, mListG, List.map_cons, List.map_nil, List.length_cons, List.length_nil, List.replicate, List.cons_append, List.nil_append, List.append_nil, List.getElem?_cons_zero, List.getElem?_cons_succ, List.getElem?_nil, List.set_cons_zero, List.set_cons_succ, List.set_nil, Nat.reduceAdd, Nat.reduceSub, Nat.add_zero, Nat.zero_add, Nat.sub_self, Nat.sub_zero, Bool.not_true, Bool.not_false, if_true, if_false, decide_true, decide_false, Bool.true_and, Bool.and_true, Bool.false_and, Bool.and_false, Bool.or_true, Bool.true_or, Bool.false_or, Bool.or_false, String.reduceBEq, reduceIte, Bool.false_eq_true, true_and, and_true, Option.map_some, Option.map_none, Option.bind_some, Option.bind_none]
      refine hN.nx _ ?_
      clear hN N
      refine wp_sq fun N hN => ?_
      walk_at "wps"
      refine ⟨h1, ?_⟩
      by_cases c2 : g + (u.length : Int) ≤ h'
      · rw [if_pos (show (g, u).1 + ((g, u).2.length : Int) ≤ (h', v).1 from c2)] at k
        simp only [c2, wp_ret, wp_need, wp_pick, wp_exc, wp_bad, wp_bindE, wp_trE, wp_noexE, opt_some, opt_none, toDs_nil, toDs_cons, toD_fz, toD_os, toD_ol, toD_ok, sSet, sIf, sRet, sRetV, sRetN, sExpr, sBrk, sCont, sFrz, sNil, setS, sUnp, sFldM, sRaise, sApp, sExt, sItem, popM, sPop, sPopTo, sSlice, sAug, mC, mVar, m2, m1, tVal, tTru, tAndM, tOrM, tNotM, mAnd, mOr, mNot, mIf, maNil, maCons, frz, mTup, mLst, mLstN, mSl, oNone, oSome, mRevL, mRevS, mCB, mCall, mCallB, mMeth, mFld, mProp, mMake, mChain, mLc, tYesM, lcF, gN, gAll, gT, iSeq, iRange1, iRange2, iEnumLM, iEnumTM, iZipLM, iterD, listF, wipeL, truth, flatR, unb, brw, owns, fI2, fSub, fNeg, fAdd, fMul, fEq_i, fEq_s, fEq_b, fCmp, fIsN, Dn.isNon, fIx, fSl, fLen, fList, fTuple, fInt, fStr, fAbs, fMax2, fMin2, isiD, mIsi, mFmt, mJs, mM1, mM0, fSplit, fPart, fFind, fStarts, eqK, peek, listD, seqD, nestD, mLenO, mAbsO, mIxO, iOwn, sTryAs, setX, endX, mXv, mIsX, gNilM, gLift, gYield, gFrom, mListG0, mListG, List.map_cons, List.map_nil, List.length_cons, List.length_nil, List.replicate, List.cons_append, List.nil_append, List.append_nil, List.getElem?_cons_zero, List.getElem?_cons_succ, List.getElem?_nil, List.set_cons_zero, List.set_cons_succ, List.set_nil, Nat.reduceAdd, Nat.reduceSub, Nat.add_zero, Nat.zero_add, Nat.sub_self, Nat.sub_zero, Bool.not_true, Bool.not_false, if_true, if_false, decide_true, decide_false, Bool.true_and, Bool.and_true, Bool.false_and, Bool.and_false, Bool.or_true, Bool.true_or, Bool.false_or, Bool.or_false, String.reduceBEq, reduceIte, Bool.false_eq_true, true_and, and_true, Option.map_some, Option.map_none, Option.bind_some, Option.bind_none]
        exact ⟨h1, by decide, by decide, by decide, hN.rt _ (hR.rt _ rfl k)⟩
      · rw [if_neg (show ¬ (g, u).1 + ((g, u).2.length : Int) ≤ (h', v).1 from c2)] at k
        simp only [c2, wp_ret, wp_need, wp_pick, wp_exc, wp_bad, wp_bindE, wp_trE, wp_noexE, opt_some, opt_none, toDs_nil, toDs_cons, toD_fz, toD_os, toD_ol, toD_ok, sSet, sIf, sRet, sRetV, sRetN, sExpr, sBrk, sCont, sFrz, sNil, setS, sUnp, sFldM, sRaise, sApp, sExt, sItem, popM, sPop, sPopTo, sSlice, sAug, mC, mVar, m2, m1, tVal, tTru, tAndM, tOrM, tNotM, mAnd, mOr, mNot, mIf, maNil, maCons, frz, mTup, mLst, mLstN, mSl, oNone, oSome, mRevL, mRevS, mCB, mCall, mCallB, mMeth, mFld, mProp, mMake, mChain, mLc, tYesM, lcF, gN, gAll, gT, iSeq, iRange1, iRange2, iEnumLM, iEnumTM, iZipLM, iterD, listF, wipeL, truth, flatR, unb, brw, owns, fI2, fSub, fNeg, fAdd, fMul, fEq_i, fEq_s, fEq_b, fCmp, fIsN, Dn.isNon, fIx, fSl, fLen, fList, fTuple, fInt, fStr, fAbs, fMax2, fMin2, isiD, mIsi, mFmt, mJs, mM1, mM0, fSplit, fPart, fFind, fStarts, eqK, peek, listD, seqD, nestD, mLenO, mAbsO, mIxO, iOwn, sTryAs, setX, endX, mXv, mIsX, gNilM, gLift, gYield, gFrom, mListG0, mListG, List.map_cons, List.map_nil, List.length_cons, List.length_nil, List.replicate, List.cons_append, List.nil_append, List.append_nil, List.getElem?_cons_zero, List.getElem?_cons_succ, List.getElem?_nil, List.set_cons_zero, List.set_cons_succ, List.set_nil, Nat.reduceAdd, Nat.reduceSub, Nat.add_zero, Nat.zero_add, Nat.sub_self, Nat.sub_zero, Bool.not_true, Bool.not_false, if_true, if_false, decide_true, decide_false, Bool.true_and, Bool.and_true, Bool.false_and, Bool.and_false, Bool.or_true, Bool.true_or, Bool.false_or, Bool.or_false, String.reduceBEq, reduceIte, Bool.false_eq_true, true_and, and_true, Option.map_some, Option.map_none, Option.bind_some, Option.bind_none]
        refine hN.nx _ ?_
        walk_at "wps"
        exact hR.rt _ rfl k
  · exact badE h
/-! ## gaps that rise -/
def fs_l_in_order : Fs := fun ds => match ds with
  | [.obj c [s, .tup ds, z]] => M.opt (joinsD ds) fun js => .need (c = 0 ∧ js.length ≤ 100000 ∧ (∀ j ∈ js, 0 ≤ j.1) ∧ js.Pairwise fun a b => a.1 < b.1) (.ret (.fz (.bl true)))
  | _ => .bad
theorem l_in_order_wp {s z : D} {js : List (Int × Str)} {P : LV → Prop} {E : Nat → D → Prop} (h1 : js.length ≤ 100000) (h2 : ∀ j ∈ js, 0 ≤ j.1) (h3 : js.Pairwise fun a b => a.1 < b.1) (q : P (.fz (.bl true))) : (fs_l_in_order [.obj 0 [s, .tup (js.map jD), z]]).wp P E := by
  unfold fs_l_in_order
  simp only
  rw [joinsD_map, opt_some]
  exact needI ⟨by simp, h1, h2, h3⟩ (by rw [wp_ret]; exact q)
def m_l_in_order : Sm := (sSeq (sSet 1 (m1 fNeg (mC (D.int 1)))) (sSeq (sFor (iSeq (mFld 0 1 (mVar 0))) (gN 2) (sSeq (sIf (tVal (m2 fLe (m2 fIx (mVar 2) (mC (D.int 0))) (mVar 1))) (sRet (mC (D.bl false))) sNil) (sSet 1 (m2 fIx (mVar 2) (mC (D.int 0)))))) (sRet (mC (D.bl true)))))
theorem ref_l_in_order {ds : List D} (hl : ds.length = 1) : Ref (runB m_l_in_order 3 ds) (fs_l_in_order ds) := by
  intro P E h
  unfold fs_l_in_order at h
  split at h
  · rename_i c s ds z
    obtain ⟨js, hj, k⟩ := M.wp_opt.mp h
    clear h
    obtain rfl := joinsD_of hj
    rw [wp_need, wp_ret] at k
    obtain ⟨⟨rfl, h1, h2, h3⟩, k⟩ := k
    refine wp_run fun R hR => ?_
    unfold m_l_in_order
    refine wp_sq fun N hN => ?_
    walk_at "wps"
    refine hN.nx _ ?_
    clear hN N
    refine wp_sq fun N hN => ?_
    refine wp_for (l := js) (d := jD) (fun i ρ => ∃ (m : Int) (x2 : LV), ρ = [.fz (.obj 0 [s, .tup (js.map jD), z]), .fz (.int m), x2] ∧ ∀ j ∈ js.drop i, m < j.1) (fun Q q => by walk_at "wps"; exact q) ⟨-1, _, rfl, fun j hj => by have := h2 j hj; omega⟩ ?_ ?_
    · rintro i ⟨g, w⟩ ρ hj ⟨m, x2, rfl, hm⟩ F hF
      have hil := (List.getElem?_eq_some_iff.mp hj).1
      have hdr : js.drop i = (g, w) :: js.drop (i + 1) := by rw [List.drop_eq_getElem_cons hil, (List.getElem?_eq_some_iff.mp hj).2]
      have hp : (js.drop i).Pairwise fun a b => a.1 < b.1 := List.Pairwise.sublist (List.drop_sublist _ _) h3
      rw [hdr] at hm hp
      have hmg : m < g := hm _ List.mem_cons_self
      unfold jD
      walk_at "wps"
      refine wp_sq fun N2 hN2 => ?_
      walk_at "wps"
      simp only [show ((0 : Int) = ((0 : Nat) : Int)) from rfl, atI_get (show [D.int g, D.str w][0]? = some (.int g) from rfl), show ¬ g ≤ m by omega, wp_ret, wp_need, wp_pick, wp_exc, wp_bad, wp_bindE, wp_trE, wp_noexE, opt_some, opt_none, toDs_nil, toDs_cons, toD_fz, toD_os, toD_ol, toD_ok, sSet, sIf, sRet, sRetV, sRetN, sExpr, sBrk, sCont, sFrz, sNil, setS, sUnp, sFldM, sRaise, sApp, sExt, sItem, popM, sPop, sPopTo, sSlice, sAug, mC, mVar, m2, m1, tVal, tTru, tAndM, tOrM, tNotM, mAnd, mOr, mNot, mIf, maNil, maCons, frz, mTup, mLst, mLstN, mSl, oNone, oSome, mRevL, mRevS, mCB, mCall, mCallB, mMeth, mFld, mProp, mMake, mChain, mLc, tYesM, lcF, gN, gAll, gT, iSeq, iRange1, iRange2, iEnumLM, iEnumTM, iZipLM, iterD, listF, wipeL, truth, flatR, unb, brw, owns, fI2, fSub, fNeg, fAdd, fMul, fEq_i, fEq_s, fEq_b, fCmp, fIsN, Dn.isNon, fIx, fSl, fLen, fList, fTuple, fInt, fStr, fAbs, fMax2, fMin2, isiD, mIsi, mFmt, mJs, mM1, mM0, fSplit, fPart, fFind, fStarts, eqK, peek, listD, seqD, nestD, mLenO, mAbsO, mIxO, iOwn, sTryAs, setX, endX, mXv, mIsX, gNilM, gLift, gYield, gFrom, mListG0, mListG, List.map_cons, List.map_nil, List.length_cons, List.length_nil, List.replicate, List.cons_append, List.nil_append, List.append_nil, List.getElem?_cons_zero, List.getElem?_cons_succ, List.getElem?_nil, List.set_cons_zero, List.set_cons_succ, List.set_nil, Nat.reduceAdd, Nat.reduceSub, Nat.add_zero, Nat.zero_add, Nat.sub_self, Nat.sub_zero, Bool.not_true, Bool.not_false, if_true, if_false, decide_true, decide_false, Bool.true_and, Bool.and_true, Bool.false_and, Bool.and_false, Bool.or_true, Bool.true_or, Bool.false_or, Bool.or_false, String.reduceBEq, reduceIte, Bool.false_eq_true, true_and, and_true, Option.map_some, Option.map_none, Option.bind_some, Option.bind_none]
      refine hN2.nx _ ?_
      clear hN2 N2
      walk_at "wps"
      simp only [show ((0 : Int) = ((0 : Nat) : Int)) from rfl, atI_get (show [D.int g, D.str w][0]? = some (.int g) from rfl), wp_ret, wp_need, wp_pick, wp_exc, wp_bad, wp_bindE, wp_trE, wp_noexE, opt_some, opt_none, toDs_nil, toDs_cons, toD_fz, toD_os, toD_ol, toD_ok, sSet, sIf, sRet, sRetV, sRetN, sExpr, sBrk, sCont, sFrz, sNil, setS, sUnp, sFldM, sRaise, sApp, sExt, sItem, popM, sPop, sPopTo, sSlice, sAug, mC, mVar, m2, m1, tVal, tTru, tAndM, tOrM, tNotM, mAnd, mOr, mNot, mIf, maNil, maCons, frz, mTup, mLst, mLstN, mSl, oNone, oSome, mRevL, mRevS, mCB, mCall, mCallB, mMeth, mFld, mProp, mMake, mChain, mLc, tYesM, lcF, gN, gAll, gT, iSeq, iRange1, iRange2, iEnumLM, iEnumTM, iZipLM, iterD, listF, wipeL, truth, flatR, unb, brw, owns, fI2, fSub, fNeg, fAdd, fMul, fEq_i, fEq_s, fEq_b, fCmp, fIsN, Dn.isNon, fIx, fSl, fLen, fList, fTuple, fInt, fStr, fAbs, fMax2, fMin2, isiD, mIsi, mFmt, mJs, mM1, mM0, fSplit, fPart, fFind, fStarts, eqK, peek, listD, seqD, nestD, mLenO, mAbsO, mIxO, iOwn, sTryAs, setX, endX, mXv, mIsX, gNilM, gLift, gYield, gFrom, mListG0, mListG, List.map_cons, List.map_nil, List.length_cons, List.length_nil, List.replicate, List.cons_append, List.nil_append, List.append_nil, List.getElem?_cons_zero, List.getElem?_cons_succ, List.getElem?_nil, List.set_cons_zero, List.set_cons_succ, List.set_nil, Nat.reduceAdd, Nat.reduceSub, Nat.add_zero, Nat.zero_add, Nat.sub_self, Nat.sub_zero, Bool.not_true, Bool.not_false, if_true, if_false, decide_true, decide_false, Bool.true_and, Bool.and_true, Bool.false_and, Bool.and_false, Bool.or_true, Bool.true_or, Bool.false_or, Bool.or_false, String.reduceBEq, reduceIte, Bool.false_eq_true, true_and, and_true, Option.map_some, Option.map_none, Option.bind_some, Option.bind_none]
      exact hF.nx _ ⟨g, _, rfl, (List.pairwise_cons.mp hp).1⟩
    · rintro ρ ⟨m, x2, rfl, _⟩
      refine hN.nx _ ?_
      walk_at "wps"
      exact hR.rt _ rfl k
  · exact badE h
/-! ## the rows -/
def fs_l_played : Fs := fun ds => match ds with
  | [.str s, .lst ds] => M.opt (joinsD ds) fun js => .need ((∃ w, play s js = .row w) ∧ Small s js) (.ret (.os ((rowsOf s js).map .str)))
  | _ => .bad
theorem played_wp {s w : Str} {js : List (Int × Str)} {P : LV → Prop} {E : Nat → D → Prop} (h1 : play s js = .row w) (h2 : Small s js) (q : P (.os ((rowsOf s js).map .str))) : (fs_l_played [.str s, .lst (js.map jD)]).wp P E := by
  unfold fs_l_played
  simp only
  rw [joinsD_map, opt_some]
  exact needI ⟨⟨w, h1⟩, h2⟩ (by rw [wp_ret]; exact q)
def m_l_played : Sm := (sSeq (sSet 2 (mLst (maCons (mVar 0) maNil))) (sSeq (sFor (iSeq (mVar 1)) (gT 2 [gN 3, gN 4]) (sSeq (sSet 5 (m2 fIx (mVar 2) (m1 fNeg (mC (D.int 1))))) (sApp 2 (m2 fAdd (m2 fAdd (mSl fSl (mVar 5) oNone (oSome (mVar 3))) (mVar 4)) (mSl fSl (mVar 5) (oSome (mVar 3)) oNone))))) (sRetV 2)))
theorem ref_l_played {ds : List D} (hl : ds.length = 2) : Ref (runB m_l_played 6 ds) (fs_l_played ds) := by
  intro P E h
  unfold fs_l_played at h
  split at h
  · rename_i s ds
    obtain ⟨js, hj, k⟩ := M.wp_opt.mp h
    clear h
    obtain rfl := joinsD_of hj
    rw [wp_need, wp_ret] at k
    obtain ⟨⟨⟨w, hw⟩, hs⟩, k⟩ := k
    have hsum := hs.sum
    have hn := hs.n
    refine wp_run fun R hR => ?_
    unfold m_l_played
    refine wp_sq fun N hN => ?_
    walk_at "wps"
    refine ⟨by decide, hN.nx _ ?_⟩
    clear hN N
    refine wp_sq fun N hN => ?_
    refine wp_for (l := js) (d := jD) (fun i ρ => ∃ row outs x4 x5 x6, ρ = [.fz (.str s), .fz (.lst (js.map jD)), .os ((outs ++ [row]).map .str), x4, x5, x6] ∧ play row (js.drop i) = .row w ∧ row.length = s.length + ((js.take i).map fun j => j.2.length).sum ∧ outs.length = i ∧ rowsOf s js = outs ++ rowsOf row (js.drop i))
      (fun Q q => by walk_at "wps"; exact q) ⟨s, [], _, _, _, rfl, hw, by simp, rfl, rfl⟩ ?_ ?_
    · rintro i ⟨g, z⟩ ρ hj ⟨row, outs, x4, x5, x6, rfl, hpr, hlen, ho, hr⟩ F hF
      have hil := (List.getElem?_eq_some_iff.mp hj).1
      rw [List.drop_eq_getElem_cons hil, (List.getElem?_eq_some_iff.mp hj).2] at hpr hr
      obtain ⟨h0, h3, hg, hpr⟩ := play_row hpr
      have hsum := sum_take (f := fun j : Int × Str => j.2.length) hj
      have hle := sum_le (l := js) (f := fun j : Int × Str => j.2.length) (i + 1)
      have hins := ins_len (z := z) h0 h3
      have e3 : (g, z).2.length = z.length := rfl
      have e1 : (cutS row none (some g)).length + z.length + (cutS row (some g) none).length = (insS row g z).length := by
        unfold insS
        simp only [Str.length_append]
      unfold jD
      walk_at "wps"
      refine wp_sq fun N2 hN2 => ?_
      rw [List.map_append]
      walk_at "wps"
      simp only [Dn.atI_last, wp_ret, wp_need, wp_pick, wp_exc, wp_bad, wp_bindE, wp_trE, wp_noexE, opt_some, opt_none, toDs_nil, toDs_cons, toD_fz, toD_os, toD_ol, toD_ok, sSet, sIf, sRet, sRetV, sRetN, sExpr, sBrk, sCont, sFrz, sNil, setS, sUnp, sFldM, sRaise, sApp, sExt, sItem, popM, sPop, sPopTo, sSlice, sAug, mC, mVar, m2, m1, tVal, tTru, tAndM, tOrM, tNotM, mAnd, mOr, mNot, mIf, maNil, maCons, frz, mTup, mLst, mLstN, mSl, oNone, oSome, mRevL, mRevS, mCB, mCall, mCallB, mMeth, mFld, mProp, mMake, mChain, mLc, tYesM, lcF, gN, gAll, gT, iSeq, iRange1, iRange2, iEnumLM, iEnumTM, iZipLM, iterD, listF, wipeL, truth, flatR, unb, brw, owns, fI2, fSub, fNeg, fAdd, fMul, fEq_i, fEq_s, fEq_b, fCmp, fIsN, Dn.isNon, fIx, fSl, fLen, fList, fTuple, fInt, fStr, fAbs, fMax2, fMin2, isiD, mIsi, mFmt, mJs, mM1, mM0, fSplit, fPart, fFind, fStarts, eqK, peek, listD, seqD, nestD, mLenO, mAbsO, mIxO, iOwn, sTryAs, setX, endX, mXv, mIsX, gNilM, gLift, gYield, gFrom, mListG0, mListG, List.map_cons, List.map_nil, List.length_cons, List.length_nil, List.replicate, List.cons_append, List.nil_append, List.append_nil, List.getElem?_cons_zero, List.getElem?_cons_succ, List.getElem?_nil, List.set_cons_zero, List.set_cons_succ, List.set_nil, Nat.reduceAdd, Nat.reduceSub, Nat.add_zero, Nat.zero_add, Nat.sub_self, Nat.sub_zero, Bool.not_true, Bool.not_false, if_true, if_false, decide_true, decide_false, Bool.true_and, Bool.and_true, Bool.false_and, Bool.and_false, Bool.or_true, Bool.true_or, Bool.false_or, Bool.or_false, String.reduceBEq, reduceIte, Bool.false_eq_true, true_and, and_true, Option.map_some, Option.map_none, Option.bind_some, Option.bind_none]
      refine hN2.nx _ ?_
      clear hN2 N2
      walk_at "wps"
      refine ⟨by omega, by omega, by omega, by rw [Str.length_append]; omega, by rw [List.length_append, List.length_map]; simp only [List.length_cons, List.length_nil]; omega, ?_⟩
      rw [show outs.map D.str ++ [D.str row] ++ [D.str (cutS row none (some g) ++ z ++ cutS row (some g) none)] = ((outs ++ [row]) ++ [insS row g z]).map .str from by rw [List.map_append, List.map_append]; rfl]
      exact hF.nx _ ⟨insS row g z, outs ++ [row], _, _, _, rfl, hpr, by omega, by rw [List.length_append, ho]; rfl, by rw [hr]; show outs ++ (row :: rowsOf (insS row g z) _) = _; rw [List.append_assoc]; rfl⟩
    · rintro ρ ⟨row, outs, x4, x5, x6, rfl, hpr, hlen, ho, hr⟩
      rw [List.drop_length] at hr
      rw [← show rowsOf s js = outs ++ [row] from hr]
      refine hN.nx _ ?_
      walk_at "wps"
      exact hR.rt _ rfl k
  · exact badE h
/-! ## what is a join -/
def fs_l_is_join : Fs := fun ds => match ds with
  | [.tup [.int g, .str z], .int n] => .need True (.ret (.fz (.bl (decide (z ≠ "") && (decide (0 ≤ g) && decide (g ≤ n))))))
  | _ => .bad
theorem is_join_wp {j : Int × Str} {n : Int} {P : LV → Prop} {E : Nat → D → Prop} (h1 : j.2 ≠ "") (h2 : 0 ≤ j.1) (h3 : j.1 ≤ n) (q : P (.fz (.bl true))) : (fs_l_is_join [jD j, .int n]).wp P E := needI trivial (by
  rw [wp_ret, decide_eq_true h1, decide_eq_true h2, decide_eq_true h3]
  exact q)
def m_l_is_join : Sm := (sSeq (sIf (tOrM (tNotM (tVal (mIsi "tuple" (mVar 0)))) (tOrM (tVal (m2 (fEq true) (mCB fLen (maCons (mVar 0) maNil)) (mC (D.int 2)))) (tOrM (tNotM (tVal (mIsi "str" (m2 fIx (mVar 0) (mC (D.int 1)))))) (tVal (m2 (fEq false) (m2 fIx (mVar 0) (mC (D.int 1))) (mC (D.str (Str.ofString "")))))))) (sRet (mC (D.bl false))) sNil) (sRet (mAnd (mIsi "int" (m2 fIx (mVar 0) (mC (D.int 0)))) (mAnd (mNot (mIsi "bool" (m2 fIx (mVar 0) (mC (D.int 0))))) (mChain fLe fLe (mC (D.int 0)) (m2 fIx (mVar 0) (mC (D.int 0))) (mVar 1))))))
theorem ref_l_is_join {ds : List D} (hl : ds.length = 2) : Ref (runB m_l_is_join 2 ds) (fs_l_is_join ds) := by
  intro P E h
  unfold fs_l_is_join at h
  split at h
  · rename_i g z n
    rw [wp_need, wp_ret] at h
    have k := h.2
    have i0 : atI [D.int g, D.str z] 0 = some (.int g) := atI_get (i := 0) rfl
    have i1 : atI [D.int g, D.str z] 1 = some (.str z) := atI_get (i := 1) rfl
    refine wp_run fun R hR => ?_
    unfold m_l_is_join
    refine wp_sq fun N hN => ?_
    simp only [i0, i1, show decide (((2 : Nat) : Int) = 2) = true from rfl, wp_ret, wp_need, wp_pick, wp_exc, wp_bad, wp_bindE, wp_trE, wp_noexE, opt_some, opt_none, toDs_nil, toDs_cons, toD_fz, toD_os, toD_ol, toD_ok, sSet, sIf, sRet, sRetV, sRetN, sExpr, sBrk, sCont, sFrz, sNil, setS, sUnp, sFldM, sRaise, sApp, sExt, sItem, popM, sPop, sPopTo, sSlice, sAug, mC, mVar, m2, m1, tVal, tTru, tAndM, tOrM, tNotM, mAnd, mOr, mNot, mIf, maNil, maCons, frz, mTup, mLst, mLstN, mSl, oNone, oSome, mRevL, mRevS, mCB, mCall, mCallB, mMeth, mFld, mProp, mMake, mChain, mLc, tYesM, lcF, gN, gAll, gT, iSeq, iRange1, iRange2, iEnumLM, iEnumTM, iZipLM, iterD, listF, wipeL, truth, flatR, unb, brw, owns, fI2, fSub, fNeg, fAdd, fMul, fEq_i, fEq_s, fEq_b, fCmp, fIsN, Dn.isNon, fIx, fSl, fLen, fList, fTuple, fInt, fStr, fAbs, fMax2, fMin2, isiD, mIsi, mFmt, mJs, mM1, mM0, fSplit, fPart, fFind, fStarts, eqK, peek, listD, seqD, nestD, mLenO, mAbsO, mIxO, iOwn, sTryAs, setX, endX, mXv, mIsX, gNilM, gLift, gYield, gFrom, mListG0, mListG, List.map_cons, List.map_nil, List.length_cons, List.length_nil, List.replicate, List.cons_append, List.nil_append, List.append_nil, List.getElem?_cons_zero, List.getElem?_cons_succ, List.getElem?_nil, List.set_cons_zero, List.set_cons_succ, List.set_nil, Nat.reduceAdd, Nat.reduceSub, Nat.add_zero, Nat.zero_add, Nat.sub_self, Nat.sub_zero, Bool.not_true, Bool.not_false, if_true, if_false, decide_true, decide_false, Bool.true_and, Bool.and_true, Bool.false_and, Bool.and_false, Bool.or_true, Bool.true_or, Bool.false_or, Bool.or_false, String.reduceBEq, reduceIte, Bool.false_eq_true, true_and, and_true, Option.map_some, Option.map_none, Option.bind_some, Option.bind_none]
    by_cases c : z = (Str.ofString "")
    · have c2 : ¬ z ≠ "" := fun e => e c
      rw [decide_eq_false c2] at k
      have c3 : decide (z = Str.ofString "") = true := decide_eq_true c
      simp only [c3, wp_ret, wp_need, wp_pick, wp_exc, wp_bad, wp_bindE, wp_trE, wp_noexE, opt_some, opt_none, toDs_nil, toDs_cons, toD_fz, toD_os, toD_ol, toD_ok, sSet, sIf, sRet, sRetV, sRetN, sExpr, sBrk, sCont, sFrz, sNil, setS, sUnp, sFldM, sRaise, sApp, sExt, sItem, popM, sPop, sPopTo, sSlice, sAug, mC, mVar, m2, m1, tVal, tTru, tAndM, tOrM, tNotM, mAnd, mOr, mNot, mIf, maNil, maCons, frz, mTup, mLst, mLstN, mSl, oNone, oSome, mRevL, mRevS, mCB, mCall, mCallB, mMeth, mFld, mProp, mMake, mChain, mLc, tYesM, lcF, gN, gAll, gT, iSeq, iRange1, iRange2, iEnumLM, iEnumTM, iZipLM, iterD, listF, wipeL, truth, flatR, unb, brw, owns, fI2, fSub, fNeg, fAdd, fMul, fEq_i, fEq_s, fEq_b, fCmp, fIsN, Dn.isNon, fIx, fSl, fLen, fList, fTuple, fInt, fStr, fAbs, fMax2, fMin2, isiD, mIsi, mFmt, mJs, mM1, mM0, fSplit, fPart, fFind, fStarts, eqK, peek, listD, seqD, nestD, mLenO, mAbsO, mIxO, iOwn, sTryAs, setX, endX, mXv, mIsX, gNilM, gLift, gYield, gFrom, mListG0, mListG, List.map_cons, List.map_nil, List.length_cons, List.length_nil, List.replicate, List.cons_append, List.nil_append, List.append_nil, List.getElem?_cons_zero, List.getElem?_cons_succ, List.getElem?_nil, List.set_cons_zero, List.set_cons_succ, List.set_nil, Nat.reduceAdd, Nat.reduceSub, Nat.add_zero, Nat.zero_add, Nat.sub_self, Nat.sub_zero, Bool.not_true, Bool.not_false, if_true, if_false, decide_true, decide_false, Bool.true_and, Bool.and_true, Bool.false_and, Bool.and_false, Bool.or_true, Bool.true_or, Bool.false_or, Bool.or_false, String.reduceBEq, reduceIte, Bool.false_eq_true, true_and, and_true, Option.map_some, Option.map_none, Option.bind_some, Option.bind_none]
      exact hN.rt _ (hR.rt _ rfl k)
    · have c2 : z ≠ "" := c
      rw [decide_eq_true c2] at k
      have c3 : decide (z = Str.ofString "") = false := decide_eq_false c
      simp only [c3, wp_ret, wp_need, wp_pick, wp_exc, wp_bad, wp_bindE, wp_trE, wp_noexE, opt_some, opt_none, toDs_nil, toDs_cons, toD_fz, toD_os, toD_ol, toD_ok, sSet, sIf, sRet, sRetV, sRetN, sExpr, sBrk, sCont, sFrz, sNil, setS, sUnp, sFldM, sRaise, sApp, sExt, sItem, popM, sPop, sPopTo, sSlice, sAug, mC, mVar, m2, m1, tVal, tTru, tAndM, tOrM, tNotM, mAnd, mOr, mNot, mIf, maNil, maCons, frz, mTup, mLst, mLstN, mSl, oNone, oSome, mRevL, mRevS, mCB, mCall, mCallB, mMeth, mFld, mProp, mMake, mChain, mLc, tYesM, lcF, gN, gAll, gT, iSeq, iRange1, iRange2, iEnumLM, iEnumTM, iZipLM, iterD, listF, wipeL, truth, flatR, unb, brw, owns, fI2, fSub, fNeg, fAdd, fMul, fEq_i, fEq_s, fEq_b, fCmp, fIsN, Dn.isNon, fIx, fSl, fLen, fList, fTuple, fInt, fStr, fAbs, fMax2, fMin2, isiD, mIsi, mFmt, mJs, mM1, mM0, fSplit, fPart, fFind, fStarts, eqK, peek, listD, seqD, nestD, mLenO, mAbsO, mIxO, iOwn, sTryAs, setX, endX, mXv, mIsX, gNilM, gLift, gYield, gFrom, mListG0, mListG, List.map_cons, List.map_nil, List.length_cons, List.length_nil, List.replicate, List.cons_append, List.nil_append, List.append_nil, List.getElem?_cons_zero, List.getElem?_cons_succ, List.getElem?_nil, List.set_cons_zero, List.set_cons_succ, List.set_nil, Nat.reduceAdd, Nat.reduceSub, Nat.add_zero, Nat.zero_add, Nat.sub_self, Nat.sub_zero, Bool.not_true, Bool.not_false, if_true, if_false, decide_true, decide_false, Bool.true_and, Bool.and_true, Bool.false_and, Bool.and_false, Bool.or_true, Bool.true_or, Bool.false_or, Bool.or_false, String.reduceBEq, reduceIte, Bool.false_eq_true, true_and, and_true, Option.map_some, Option.map_none, Option.bind_some, Option.bind_none]
      refine hN.nx _ ?_
      simp only [i0, i1, wp_ret, wp_need, wp_pick, wp_exc, wp_bad, wp_bindE, wp_trE, wp_noexE, opt_some, opt_none, toDs_nil, toDs_cons, toD_fz, toD_os, toD_ol, toD_ok, sSet, sIf, sRet, sRetV, sRetN, sExpr, sBrk, sCont, sFrz, sNil, setS, sUnp, sFldM, sRaise, sApp, sExt, sItem, popM, sPop, sPopTo, sSlice, sAug, mC, mVar, m2, m1, tVal, tTru, tAndM, tOrM, tNotM, mAnd, mOr, mNot, mIf, maNil, maCons, frz, mTup, mLst, mLstN, mSl, oNone, oSome, mRevL, mRevS, mCB, mCall, mCallB, mMeth, mFld, mProp, mMake, mChain, mLc, tYesM, lcF, gN, gAll, gT, iSeq, iRange1, iRange2, iEnumLM, iEnumTM, iZipLM, iterD, listF, wipeL, truth, flatR, unb, brw, owns, fI2, fSub, fNeg, fAdd, fMul, fEq_i, fEq_s, fEq_b, fCmp, fIsN, Dn.isNon, fIx, fSl, fLen, fList, fTuple, fInt, fStr, fAbs, fMax2, fMin2, isiD, mIsi, mFmt, mJs, mM1, mM0, fSplit, fPart, fFind, fStarts, eqK, peek, listD, seqD, nestD, mLenO, mAbsO, mIxO, iOwn, sTryAs, setX, endX, mXv, mIsX, gNilM, gLift, gYield, gFrom, mListG0, mListG, List.map_cons, List.map_nil, List.length_cons, List.length_nil, List.replicate, List.cons_append, List.nil_append, List.append_nil, List.getElem?_cons_zero, List.getElem?_cons_succ, List.getElem?_nil, List.set_cons_zero, List.set_cons_succ, List.set_nil, Nat.reduceAdd, Nat.reduceSub, Nat.add_zero, Nat.zero_add, Nat.sub_self, Nat.sub_zero, Bool.not_true, Bool.not_false, if_true, if_false, decide_true, decide_false, Bool.true_and, Bool.and_true, Bool.false_and, Bool.and_false, Bool.or_true, Bool.true_or, Bool.false_or, Bool.or_false, String.reduceBEq, reduceIte, Bool.false_eq_true, true_and, and_true, Option.map_some, Option.map_none, Option.bind_some, Option.bind_none]
      by_cases d : 0 ≤ g
      · rw [decide_eq_true d] at k
        simp only [d, wp_ret, wp_need, wp_pick, wp_exc, wp_bad, wp_bindE, wp_trE, wp_noexE, opt_some, opt_none, toDs_nil, toDs_cons, toD_fz, toD_os, toD_ol, toD_ok, sSet, sIf, sRet, sRetV, sRetN, sExpr, sBrk, sCont, sFrz, sNil, setS, sUnp, sFldM, sRaise, sApp, sExt, sItem, popM, sPop, sPopTo, sSlice, sAug, mC, mVar, m2, m1, tVal, tTru, tAndM, tOrM, tNotM, mAnd, mOr, mNot, mIf, maNil, maCons, frz, mTup, mLst, mLstN, mSl, oNone, oSome, mRevL, mRevS, mCB, mCall, mCallB, mMeth, mFld, mProp, mMake, mChain, mLc, tYesM, lcF, gN, gAll, gT, iSeq, iRange1, iRange2, iEnumLM, iEnumTM, iZipLM, iterD, listF, wipeL, truth, flatR, unb, brw, owns, fI2, fSub, fNeg, fAdd, fMul, fEq_i, fEq_s, fEq_b, fCmp, fIsN, Dn.isNon, fIx, fSl, fLen, fList, fTuple, fInt, fStr, fAbs, fMax2, fMin2, isiD, mIsi, mFmt, mJs, mM1, mM0, fSplit, fPart, fFind, fStarts, eqK, peek, listD, seqD, nestD, mLenO, mAbsO, mIxO, iOwn, sTryAs, setX, endX, mXv, mIsX, gNilM, gLift, gYield, gFrom, mListG0, mListG, List.map_cons, List.map_nil, List.length_cons, List.length_nil, List.replicate, List.cons_append, List.nil_append, List.append_nil, List.getElem?_cons_zero, List.getElem?_cons_succ, List.getElem?_nil, List.set_cons_zero, List.set_cons_succ, List.set_nil, Nat.reduceAdd, Nat.reduceSub, Nat.add_zero, Nat.zero_add, Nat.sub_self, Nat.sub_zero, Bool.not_true, Bool.not_false, if_true, if_false, decide_true, decide_false, Bool.true_and, Bool.and_true, Bool.false_and, Bool.and_false, Bool.or_true, Bool.true_or, Bool.false_or, Bool.or_false, String.reduceBEq, reduceIte, Bool.false_eq_true, true_and, and_true, Option.map_some, Option.map_none, Option.bind_some, Option.bind_none]
        exact hR.rt _ rfl k
      · rw [decide_eq_false d] at k
        simp only [d, wp_ret, wp_need, wp_pick, wp_exc, wp_bad, wp_bindE, wp_trE, wp_noexE, opt_some, opt_none, toDs_nil, toDs_cons, toD_fz, toD_os, toD_ol, toD_ok, sSet, sIf, sRet, sRetV, sRetN, sExpr, sBrk, sCont, sFrz, sNil, setS, sUnp, sFldM, sRaise, sApp, sExt, sItem, popM, sPop, sPopTo, sSlice, sAug, mC, mVar, m2, m1, tVal, tTru, tAndM, tOrM, tNotM, mAnd, mOr, mNot, mIf, maNil, maCons, frz, mTup, mLst, mLstN, mSl, oNone, oSome, mRevL, mRevS, mCB, mCall, mCallB, mMeth, mFld, mProp, mMake, mChain, mLc, tYesM, lcF, gN, gAll, gT, iSeq, iRange1, iRange2, iEnumLM, iEnumTM, iZipLM, iterD, listF, wipeL, truth, flatR, unb, brw, owns, fI2, fSub, fNeg, fAdd, fMul, fEq_i, fEq_s, fEq_b, fCmp, fIsN, Dn.isNon, fIx, fSl, fLen, fList, fTuple, fInt, fStr, fAbs, fMax2, fMin2, isiD, mIsi, mFmt, mJs, mM1, mM0, fSplit, fPart, fFind, fStarts, eqK, peek, listD, seqD, nestD, mLenO, mAbsO, mIxO, iOwn, sTryAs, setX, endX, mXv, mIsX, gNilM, gLift, gYield, gFrom, mListG0, mListG, List.map_cons, List.map_nil, List.length_cons, List.length_nil, List.replicate, List.cons_append, List.nil_append, List.append_nil, List.getElem?_cons_zero, List.getElem?_cons_succ, List.getElem?_nil, List.set_cons_zero, List.set_cons_succ, List.set_nil, Nat.reduceAdd, Nat.reduceSub, Nat.add_zero, Nat.zero_add, Nat.sub_self, Nat.sub_zero, Bool.not_true, Bool.not_false, if_true, if_false, decide_true, decide_false, Bool.true_and, Bool.and_true, Bool.false_and, Bool.and_false, Bool.or_true, Bool.true_or, Bool.false_or, Bool.or_false, String.reduceBEq, reduceIte, Bool.false_eq_true, true_and, and_true, Option.map_some, Option.map_none, Option.bind_some, Option.bind_none]
        exact hR.rt _ rfl k
  · exact badE h
end
end Q07
end

section
set_option Elab.async false
set_option linter.all false
set_option maxRecDepth 100000
set_option maxHeartbeats 1000000
namespace Q07
open PySem PySem.Spec PyProof.Rows L2 Evl GrO Dn
local macro_rules | `(tactic| walk_at "wps") => `(tactic| simp only [wp_ret, wp_need, wp_pick, wp_exc, wp_bad, wp_bindE, wp_trE, wp_noexE, opt_some, opt_none, toDs_nil, toDs_cons, toD_fz, toD_os, toD_ol, toD_ok, sSet, sIf, sRet, sRetV, sRetN, sExpr, sBrk, sCont, sFrz, sNil, setS, sUnp, sFldM, sRaise, sApp, sExt, sItem, popM, sPop, sPopTo, sSlice, sAug, mC, mVar, m2, m1, tVal, tTru, tAndM, tOrM, tNotM, mAnd, mOr, mNot, mIf, maNil, maCons, frz, mTup, mLst, mLstN, mSl, oNone, oSome, mRevL, mRevS, mCB, mCall, mCallB, mMeth, mFld, mProp, mMake, mChain, mLc, tYesM, lcF, gN, gAll, gT, iSeq, iRange1, iRange2, iEnumLM, iEnumTM, iZipLM, iterD, listF, wipeL, truth, flatR, unb, brw, owns, fI2, fSub, fNeg, fAdd, fMul, fEq_i, fEq_s, fEq_b, fCmp, fIsN, Dn.isNon, fIx, fSl, fLen, fList, fTuple, fInt, fStr, fAbs, fMax2, fMin2, isiD, mIsi, mFmt, mJs, mM1, mM0, fSplit, fPart, fFind, fStarts, eqK, peek, listD, seqD, nestD, mLenO, mAbsO, mIxO, iOwn, sTryAs, setX, endX, mXv, mIsX, gNilM, gLift, gYield, gFrom, mListG0, mListG, List.map_cons, List.map_nil, List.length_cons, List.length_nil, List.replicate, List.cons_append, List.nil_append, List.append_nil, List.getElem?_cons_zero, List.getElem?_cons_succ, List.getElem?_nil, List.set_cons_zero, List.set_cons_succ, List.set_nil, Nat.reduceAdd, Nat.reduceSub, Nat.add_zero, Nat.zero_add, Nat.sub_self, Nat.sub_zero, Bool.not_true, Bool.not_false, if_true, if_false, decide_true, decide_false, Bool.true_and, Bool.and_true, Bool.false_and, Bool.and_false, Bool.or_true, Bool.true_or, Bool.false_or, Bool.or_false, String.reduceBEq, reduceIte, Bool.false_eq_true, true_and, and_true, Option.map_some, Option.map_none, Option.bind_some, Option.bind_none])
noncomputable section
/-! ## an exchange held against the lines -/
structure ExOk (s : Str) (a b : Int × Str) : Prop where
  sl : s.length ≤ 900
  sg : Sgn s
  u : groupB a.2 = true
  v : groupB b.2 = true
  ul : a.2.length ≤ 100
  vl : b.2.length ≤ 100
  g0 : 0 ≤ a.1
  g1 : a.1 ≤ (s.length : Int)
  h0 : 0 ≤ b.1
  h1 : b.1 ≤ (s.length : Int) + (a.2.length : Int)
def fs_l_exchange : Fs := fun ds => match ds with
  | [.str s, .tup [.int g, .str u], .tup [.int h, .str v]] => .need (ExOk s (g, u) (h, v)) (.ret (exL (exF (g, u) (h, v))))
  | _ => .bad
theorem exchange_wp {s : Str} {a b : Int × Str} {P : LV → Prop} {E : Nat → D → Prop} (h : ExOk s a b) (q : P (exL (exF a b))) : (fs_l_exchange [.str s, jD a, jD b]).wp P E := needI h (by rw [wp_ret]; exact q)
theorem grp_ne {z : Str} (h : groupB z = true) : z ≠ "" := (group_sgn h).2
theorem two_plays {s : Str} {a b : Int × Str} (hu : groupB a.2 = true) (hv : groupB b.2 = true) (g0 : 0 ≤ a.1) (g1 : a.1 ≤ (s.length : Int)) (h0 : 0 ≤ b.1) (h1 : b.1 ≤ (s.length : Int) + (a.2.length : Int)) : ∃ w, play s [a, b] = .row w := by
  obtain ⟨g, u⟩ := a
  obtain ⟨h, v⟩ := b
  have hl := ins_len (row := s) (z := u) g0 g1
  refine ⟨insS (insS s g u) h v, ?_⟩
  rw [play_cons, if_pos ⟨g0, g1⟩, if_pos hu, play_cons, if_pos ⟨h0, by rw [hl]; simp only at h1; omega⟩, if_pos hv]
  rfl
theorem lnD_pl {x : Sg} (h : x.2.2 < 1114112) : Pl 1 (lnD x) := fun d hd => by
  simp only [List.mem_cons, List.not_mem_nil, or_false] at hd
  rcases hd with rfl | rfl | rfl
  · exact Pl.int
  · exact Pl.int
  · exact Pl.str (strOk_of fun c hc => by rw [show c = x.2.2 from by simpa using hc]; exact h)
theorem row_sgn : ∀ {js : List (Int × Str)} {s w : Str}, play s js = .row w → Sgn s → Sgn w
  | [], s, w, h, hs => by cases h; exact hs
  | (g, z) :: r, s, w, h, hs => by
    obtain ⟨h0, h1, h2, h3⟩ := play_row h
    refine row_sgn h3 fun c hc => ?_
    obtain ⟨gn, rfl⟩ := Int.eq_ofNat_of_zero_le h0
    rw [← tx_of s, ← tx_of z, insS_tx, tx_list] at hc
    unfold ins at hc
    rcases List.mem_append.mp hc with hc | hc
    · rcases List.mem_append.mp hc with hc | hc
      · exact hs c (List.mem_of_mem_take hc)
      · exact sgn_group h2 c hc
    · exact hs c (List.mem_of_mem_drop hc)
theorem line_chr_lt {s w : Str} {js : List (Int × Str)} (h : play s js = .row w) (hs : Sgn s) : ∀ x ∈ lineL s js, x.2.2 < 1114112 := by
  intro x hx
  refine row_sgn h hs _ ?_
  rw [← lineL_chr h]
  exact List.mem_map.mpr ⟨x, hx, rfl⟩
theorem line_pl {s w : Str} {js : List (Int × Str)} (h : play s js = .row w) (hs : Sgn s) : Pl 2 (.lst ((lineL s js).map lnD)) := fun d hd => by
  obtain ⟨x, hx, rfl⟩ := List.mem_map.mp hd
  exact lnD_pl (line_chr_lt h hs x hx)
/-- who a sign belongs to, the two names exchanged -/
theorem flip_lc {l : List Sg} {P : List D → Prop} {E : Nat → D → Prop} {G : D → M (Option D)} (hl : l.length ≤ 100000) (h2 : ∀ x ∈ l, x.1 ≤ 2) (hg : ∀ x ∈ l, ∀ Q : Option D → Prop, Q (some (.lst [.int (if (0 : Int) < (x.1 : Int) then 3 - (x.1 : Int) else 0), .int x.2.1, .str ⟨#[x.2.2]⟩])) → (G (lnD x)).wp Q E) (q : P ((l.map (rl flip3)).map lnD)) : (lcM G (l.map lnD) []).wp P E := by
  refine wp_mapF (fun x : Sg => D.lst [.int (if (0 : Int) < (x.1 : Int) then 3 - (x.1 : Int) else 0), .int x.2.1, .str ⟨#[x.2.2]⟩]) hl (fun x hx Q q => hg x hx Q q) ?_
  rw [List.map_map] at q
  refine (congrArg P (List.map_congr_left fun x hx => ?_)).mp q
  have := h2 x hx
  show lnD (flip3 x.1, x.2.1, x.2.2) = _
  unfold lnD flip3
  by_cases c : 0 < x.1
  · rw [if_pos c, if_pos (by omega)]
    have : ((3 - x.1 : Nat) : Int) = 3 - (x.1 : Int) := by omega
    rw [this]
  · rw [if_neg c, if_neg (by omega)]
    rfl
def m_l_exchange : Sm := (sSeq (sSet 3 (mCall 2 fs_exchanged (maCons (mVar 1) (maCons (mVar 2) maNil)))) (sSeq (sIf (tVal (mChain fLt fLt (m2 fIx (mVar 1) (mC (D.int 0))) (m2 fIx (mVar 2) (mC (D.int 0))) (m2 fAdd (m2 fIx (mVar 1) (mC (D.int 0))) (mCB fLen (maCons (m2 fIx (mVar 1) (mC (D.int 1))) maNil))))) (sRet (mIf (tVal (m2 (fIsN false) (mVar 3) (mC D.non))) (mC D.non) (mC (D.bl false)))) sNil) (sSeq (sIf (tOrM (tNotM (tVal (mIsi "tuple" (mVar 3)))) (tOrM (tVal (m2 (fEq true) (mCB fLen (maCons (mVar 3) maNil)) (mC (D.int 2)))) (tNotM (tVal (mCall 2 fs_l_is_join (maCons (m2 fIx (mVar 3) (mC (D.int 0))) (maCons (mCB fLen (maCons (mVar 0) maNil)) maNil))))))) (sRet (mC (D.bl false))) sNil) (sSeq (sIf (tNotM (tVal (mCall 2 fs_l_is_join (maCons (m2 fIx (mVar 3) (mC (D.int 1))) (maCons (m2 fAdd (mCB fLen (maCons (mVar 0) maNil)) (mCB fLen (maCons (m2 fIx (m2 fIx (mVar 3) (mC (D.int 0))) (mC (D.int 1))) maNil))) maNil))))) (sRet (mC (D.bl false))) sNil) (sSeq (sSet 4 (mCall 2 fs_l_line (maCons (mVar 0) (maCons (mLst (maCons (mVar 1) (maCons (mVar 2) maNil))) maNil)))) (sSeq (sSet 5 (mCall 2 fs_l_line (maCons (mVar 0) (maCons (mLst (maCons (m2 fIx (mVar 3) (mC (D.int 0))) (maCons (m2 fIx (mVar 3) (mC (D.int 1))) maNil))) maNil)))) (sFrz 5 (sSeq (sIf (tVal (m2 (fEq true) (mLc (iSeq (mVar 5)) (gN 6) tYesM (mLst (maCons (mIf (tVal (m2 fGt (m2 fIx (mVar 6) (mC (D.int 0))) (mC (D.int 0)))) (m2 fSub (mC (D.int 3)) (m2 fIx (mVar 6) (mC (D.int 0)))) (mC (D.int 0))) (maCons (m2 fIx (mVar 6) (mC (D.int 1))) (maCons (m2 fIx (mVar 6) (mC (D.int 2))) maNil)))) [6]) (mVar 4))) (sRet (mC (D.bl false))) sNil) (sSeq (sIf (tNotM (tVal (mCallB 2 fs_l_same (maCons (mCall 2 fs_exchanged (maCons (m2 fIx (mVar 3) (mC (D.int 0))) (maCons (m2 fIx (mVar 3) (mC (D.int 1))) maNil))) (maCons (mTup (maCons (mVar 1) (maCons (mVar 2) maNil))) maNil))))) (sRet (mC (D.bl false))) sNil) (sRetV 3))))))))))
theorem jD_dat1 {j : Int × Str} : Dat 1 (jD j) := jD_dat (js := [j]) _ List.mem_cons_self
theorem pair_dat {c d : Int × Str} : Dat 2 (.tup [jD c, jD d]) := ⟨(show 2 ≤ 100000 by decide), jD_dat (js := [c, d])⟩
theorem ref_l_exchange {ds : List D} (hl : ds.length = 3) : Ref (runB m_l_exchange 7 ds) (fs_l_exchange ds) := by
  intro P E h
  unfold fs_l_exchange at h
  split at h
  · rename_i s g u h' v
    rw [wp_need, wp_ret] at h
    obtain ⟨⟨hs, hsg, hu, hv, hul, hvl, g0, g1, h0, h1⟩, k⟩ := h
    have hu : groupB u = true := hu
    have hv : groupB v = true := hv
    have hul : u.length ≤ 100 := hul
    have hvl : v.length ≤ 100 := hvl
    have g0 : 0 ≤ g := g0
    have g1 : g ≤ (s.length : Int) := g1
    have h0 : 0 ≤ h' := h0
    have h1 : h' ≤ (s.length : Int) + (u.length : Int) := h1
    have ug := group_pos hu
    have vg := group_pos hv
    refine wp_run fun R hR => ?_
    unfold m_l_exchange
    refine wp_sq fun N hN => ?_
    walk_at "wps"
    refine exchanged_wp (a := (g, u)) (b := (h', v)) (by simp only; omega) (by simp only; omega) ?_
    have a0 : ∀ {x y : D}, atI [x, y] 0 = some x := fun {x y} => atI_get (i := 0) rfl
    have a1 : ∀ {x y : D}, atI [x, y] 1 = some y := fun {x y} => atI_get (i := 1) rfl
    cases hx : exF (g, u) (h', v) with
    | none =>
      rw [hx] at k
      obtain ⟨c1, c2⟩ := exF_none.mp hx
      simp only at c1 c2
      unfold exL
      walk_at "wps"
      refine hN.nx _ ?_
      clear hN N
      refine wp_sq fun N hN => ?_
      simp only [a0, a1, c1, wp_ret, wp_need, wp_pick, wp_exc, wp_bad, wp_bindE, wp_trE, wp_noexE, opt_some, opt_none, toDs_nil, toDs_cons, toD_fz, toD_os, toD_ol, toD_ok, sSet, sIf, sRet, sRetV, sRetN, sExpr, sBrk, sCont, sFrz, sNil, setS, sUnp, sFldM, sRaise, sApp, sExt, sItem, popM, sPop, sPopTo, sSlice, sAug, mC, mVar, m2, m1, tVal, tTru, tAndM, tOrM, tNotM, mAnd, mOr, mNot, mIf, maNil, maCons, frz, mTup, mLst, mLstN, mSl, oNone, oSome, mRevL, mRevS, mCB, mCall, mCallB, mMeth, mFld, mProp, mMake, mChain, mLc, tYesM, lcF, gN, gAll, gT, iSeq, iRange1, iRange2, iEnumLM, iEnumTM, iZipLM, iterD, listF, wipeL, truth, flatR, unb, brw, owns, fI2, fSub, fNeg, fAdd, fMul, fEq_i, fEq_s, fEq_b, fCmp, fIsN, Dn.isNon, fIx, fSl, fLen, fList, fTuple, fInt, fStr, fAbs, fMax2, fMin2, isiD, mIsi, mFmt, mJs, mM1, mM0, fSplit, fPart, fFind, fStarts, eqK, peek, listD, seqD, nestD, mLenO, mAbsO, mIxO, iOwn, sTryAs, setX, endX, mXv, mIsX, gNilM, gLift, gYield, gFrom, mListG0, mListG, List.map_cons, List.map_nil, List.length_cons, List.length_nil, List.replicate, List.cons_append, List.nil_append, List.append_nil, List.getElem?_cons_zero, List.getElem?_cons_succ, List.getElem?_nil, List.set_cons_zero, List.set_cons_succ, List.set_nil, Nat.reduceAdd, Nat.reduceSub, Nat.add_zero, Nat.zero_add, Nat.sub_self, Nat.sub_zero, Bool.not_true, Bool.not_false, if_true, if_false, decide_true, decide_false, Bool.true_and, Bool.and_true, Bool.false_and, Bool.and_false, Bool.or_true, Bool.true_or, Bool.false_or, Bool.or_false, String.reduceBEq, reduceIte, Bool.false_eq_true, true_and, and_true, Option.map_some, Option.map_none, Option.bind_some, Option.bind_none]
      refine ⟨by omega, ?_⟩
      simp only [a0, a1, c2, wp_ret, wp_need, wp_pick, wp_exc, wp_bad, wp_bindE, wp_trE, wp_noexE, opt_some, opt_none, toDs_nil, toDs_cons, toD_fz, toD_os, toD_ol, toD_ok, sSet, sIf, sRet, sRetV, sRetN, sExpr, sBrk, sCont, sFrz, sNil, setS, sUnp, sFldM, sRaise, sApp, sExt, sItem, popM, sPop, sPopTo, sSlice, sAug, mC, mVar, m2, m1, tVal, tTru, tAndM, tOrM, tNotM, mAnd, mOr, mNot, mIf, maNil, maCons, frz, mTup, mLst, mLstN, mSl, oNone, oSome, mRevL, mRevS, mCB, mCall, mCallB, mMeth, mFld, mProp, mMake, mChain, mLc, tYesM, lcF, gN, gAll, gT, iSeq, iRange1, iRange2, iEnumLM, iEnumTM, iZipLM, iterD, listF, wipeL, truth, flatR, unb, brw, owns, fI2, fSub, fNeg, fAdd, fMul, fEq_i, fEq_s, fEq_b, fCmp, fIsN, Dn.isNon, fIx, fSl, fLen, fList, fTuple, fInt, fStr, fAbs, fMax2, fMin2, isiD, mIsi, mFmt, mJs, mM1, mM0, fSplit, fPart, fFind, fStarts, eqK, peek, listD, seqD, nestD, mLenO, mAbsO, mIxO, iOwn, sTryAs, setX, endX, mXv, mIsX, gNilM, gLift, gYield, gFrom, mListG0, mListG, List.map_cons, List.map_nil, List.length_cons, List.length_nil, List.replicate, List.cons_append, List.nil_append, List.append_nil, List.getElem?_cons_zero, List.getElem?_cons_succ, List.getElem?_nil, List.set_cons_zero, List.set_cons_succ, List.set_nil, Nat.reduceAdd, Nat.reduceSub, Nat.add_zero, Nat.zero_add, Nat.sub_self, Nat.sub_zero, Bool.not_true, Bool.not_false, if_true, if_false, decide_true, decide_false, Bool.true_and, Bool.and_true, Bool.false_and, Bool.and_false, Bool.or_true, Bool.true_or, Bool.false_or, Bool.or_false, String.reduceBEq, reduceIte, Bool.false_eq_true, true_and, and_true, Option.map_some, Option.map_none, Option.bind_some, Option.bind_none]
      exact hN.rt _ (hR.rt _ rfl k)
    | some p =>
      obtain ⟨⟨cg, cz⟩, dg, dz⟩ := p
      rw [hx] at k
      have hne : ¬ (g < h' ∧ h' < g + (u.length : Int)) := fun e => by
        have := exF_none (a := (g, u)) (b := (h', v)) |>.mpr e
        rw [hx] at this
        cases this
      obtain ⟨e1, e2, e3, e4, e5, e6, e7⟩ := exF_line hx g0 g1 h0 h1 ug vg
      have eb := exF_back hx ug vg
      have e2 : 0 ≤ cg := e2
      have e3 : cg ≤ (s.length : Int) := e3
      have e4 : 0 ≤ dg := e4
      have e5 : dg ≤ (s.length : Int) + (cz.length : Int) := e5
      have e6 : cz = v := e6
      have e7 : dz = u := e7
      subst e6 e7
      obtain ⟨w1, hw1⟩ := two_plays (a := (g, dz)) (b := (h', cz)) hu hv g0 g1 h0 h1
      obtain ⟨w2, hw2⟩ := two_plays (a := (cg, cz)) (b := (dg, dz)) hv hu e2 e3 e4 e5
      have sm1 : Small s [(g, dz), (h', cz)] := ⟨by omega, (show 2 ≤ 40 by decide), fun j hj => by
        simp only [List.mem_cons, List.not_mem_nil, or_false] at hj
        rcases hj with rfl | rfl
        · exact hul
        · exact hvl⟩
      have sm2 : Small s [(cg, cz), (dg, dz)] := ⟨by omega, (show 2 ≤ 40 by decide), fun j hj => by
        simp only [List.mem_cons, List.not_mem_nil, or_false] at hj
        rcases hj with rfl | rfl
        · exact hvl
        · exact hul⟩
      have q1 := sm1.sum
      have q2 := sm2.sum
      have l2 := lineL_len hw2
      have r2 := sm2.row hw2
      unfold exL
      walk_at "wps"
      refine hN.nx _ ?_
      clear hN N
      refine wp_sq fun N hN => ?_
      have go : N (.next [.fz (.str s), .fz (.tup [.int g, .str dz]), .fz (.tup [.int h', .str cz]), .fz (.tup [.tup [.int cg, .str cz], .tup [.int dg, .str dz]]), .un, .un, .un]) := by
        refine hN.nx _ ?_
        clear hN N
        refine wp_sq fun N hN => ?_
        simp only [a0, a1, show decide (((2 : Nat) : Int) = 2) = true from rfl, wp_ret, wp_need, wp_pick, wp_exc, wp_bad, wp_bindE, wp_trE, wp_noexE, opt_some, opt_none, toDs_nil, toDs_cons, toD_fz, toD_os, toD_ol, toD_ok, sSet, sIf, sRet, sRetV, sRetN, sExpr, sBrk, sCont, sFrz, sNil, setS, sUnp, sFldM, sRaise, sApp, sExt, sItem, popM, sPop, sPopTo, sSlice, sAug, mC, mVar, m2, m1, tVal, tTru, tAndM, tOrM, tNotM, mAnd, mOr, mNot, mIf, maNil, maCons, frz, mTup, mLst, mLstN, mSl, oNone, oSome, mRevL, mRevS, mCB, mCall, mCallB, mMeth, mFld, mProp, mMake, mChain, mLc, tYesM, lcF, gN, gAll, gT, iSeq, iRange1, iRange2, iEnumLM, iEnumTM, iZipLM, iterD, listF, wipeL, truth, flatR, unb, brw, owns, fI2, fSub, fNeg, fAdd, fMul, fEq_i, fEq_s, fEq_b, fCmp, fIsN, Dn.isNon, fIx, fSl, fLen, fList, fTuple, fInt, fStr, fAbs, fMax2, fMin2, isiD, mIsi, mFmt, mJs, mM1, mM0, fSplit, fPart, fFind, fStarts, eqK, peek, listD, seqD, nestD, mLenO, mAbsO, mIxO, iOwn, sTryAs, setX, endX, mXv, mIsX, gNilM, gLift, gYield, gFrom, mListG0, mListG, List.map_cons, List.map_nil, List.length_cons, List.length_nil, List.replicate, List.cons_append, List.nil_append, List.append_nil, List.getElem?_cons_zero, List.getElem?_cons_succ, List.getElem?_nil, List.set_cons_zero, List.set_cons_succ, List.set_nil, Nat.reduceAdd, Nat.reduceSub, Nat.add_zero, Nat.zero_add, Nat.sub_self, Nat.sub_zero, Bool.not_true, Bool.not_false, if_true, if_false, decide_true, decide_false, Bool.true_and, Bool.and_true, Bool.false_and, Bool.and_false, Bool.or_true, Bool.true_or, Bool.false_or, Bool.or_false, String.reduceBEq, reduceIte, Bool.false_eq_true, true_and, and_true, Option.map_some, Option.map_none, Option.bind_some, Option.bind_none]
        refine ⟨by omega, is_join_wp (j := (cg, cz)) (grp_ne hv) e2 e3 ?_⟩
        walk_at "wps"
        refine hN.nx _ ?_
        clear hN N
        refine wp_sq fun N hN => ?_
        simp only [a0, a1, wp_ret, wp_need, wp_pick, wp_exc, wp_bad, wp_bindE, wp_trE, wp_noexE, opt_some, opt_none, toDs_nil, toDs_cons, toD_fz, toD_os, toD_ol, toD_ok, sSet, sIf, sRet, sRetV, sRetN, sExpr, sBrk, sCont, sFrz, sNil, setS, sUnp, sFldM, sRaise, sApp, sExt, sItem, popM, sPop, sPopTo, sSlice, sAug, mC, mVar, m2, m1, tVal, tTru, tAndM, tOrM, tNotM, mAnd, mOr, mNot, mIf, maNil, maCons, frz, mTup, mLst, mLstN, mSl, oNone, oSome, mRevL, mRevS, mCB, mCall, mCallB, mMeth, mFld, mProp, mMake, mChain, mLc, tYesM, lcF, gN, gAll, gT, iSeq, iRange1, iRange2, iEnumLM, iEnumTM, iZipLM, iterD, listF, wipeL, truth, flatR, unb, brw, owns, fI2, fSub, fNeg, fAdd, fMul, fEq_i, fEq_s, fEq_b, fCmp, fIsN, Dn.isNon, fIx, fSl, fLen, fList, fTuple, fInt, fStr, fAbs, fMax2, fMin2, isiD, mIsi, mFmt, mJs, mM1, mM0, fSplit, fPart, fFind, fStarts, eqK, peek, listD, seqD, nestD, mLenO, mAbsO, mIxO, iOwn, sTryAs, setX, endX, mXv, mIsX, gNilM, gLift, gYield, gFrom, mListG0, mListG, List.map_cons, List.map_nil, List.length_cons, List.length_nil, List.replicate, List.cons_append, List.nil_append, List.append_nil, List.getElem?_cons_zero, List.getElem?_cons_succ, List.getElem?_nil, List.set_cons_zero, List.set_cons_succ, List.set_nil, Nat.reduceAdd, Nat.reduceSub, Nat.add_zero, Nat.zero_add, Nat.sub_self, Nat.sub_zero, Bool.not_true, Bool.not_false, if_true, if_false, decide_true, decide_false, Bool.true_and, Bool.and_true, Bool.false_and, Bool.and_false, Bool.or_true, Bool.true_or, Bool.false_or, Bool.or_false, String.reduceBEq, reduceIte, Bool.false_eq_true, true_and, and_true, Option.map_some, Option.map_none, Option.bind_some, Option.bind_none]
        refine ⟨by omega, by omega, is_join_wp (j := (dg, dz)) (grp_ne hu) e4 (by simp only; omega) ?_⟩
        walk_at "wps"
        refine hN.nx _ ?_
        clear hN N
        refine wp_sq fun N hN => ?_
        walk_at "wps"
        refine ⟨by decide, line_wp (js := [(g, dz), (h', cz)]) (sm1.plays hw1) (by omega) ?_⟩
        walk_at "wps"
        refine hN.nx _ ?_
        clear hN N
        refine wp_sq fun N hN => ?_
        simp only [a0, a1, wp_ret, wp_need, wp_pick, wp_exc, wp_bad, wp_bindE, wp_trE, wp_noexE, opt_some, opt_none, toDs_nil, toDs_cons, toD_fz, toD_os, toD_ol, toD_ok, sSet, sIf, sRet, sRetV, sRetN, sExpr, sBrk, sCont, sFrz, sNil, setS, sUnp, sFldM, sRaise, sApp, sExt, sItem, popM, sPop, sPopTo, sSlice, sAug, mC, mVar, m2, m1, tVal, tTru, tAndM, tOrM, tNotM, mAnd, mOr, mNot, mIf, maNil, maCons, frz, mTup, mLst, mLstN, mSl, oNone, oSome, mRevL, mRevS, mCB, mCall, mCallB, mMeth, mFld, mProp, mMake, mChain, mLc, tYesM, lcF, gN, gAll, gT, iSeq, iRange1, iRange2, iEnumLM, iEnumTM, iZipLM, iterD, listF, wipeL, truth, flatR, unb, brw, owns, fI2, fSub, fNeg, fAdd, fMul, fEq_i, fEq_s, fEq_b, fCmp, fIsN, Dn.isNon, fIx, fSl, fLen, fList, fTuple, fInt, fStr, fAbs, fMax2, fMin2, isiD, mIsi, mFmt, mJs, mM1, mM0, fSplit, fPart, fFind, fStarts, eqK, peek, listD, seqD, nestD, mLenO, mAbsO, mIxO, iOwn, sTryAs, setX, endX, mXv, mIsX, gNilM, gLift, gYield, gFrom, mListG0, mListG, List.map_cons, List.map_nil, List.length_cons, List.length_nil, List.replicate, List.cons_append, List.nil_append, List.append_nil, List.getElem?_cons_zero, List.getElem?_cons_succ, List.getElem?_nil, List.set_cons_zero, List.set_cons_succ, List.set_nil, Nat.reduceAdd, Nat.reduceSub, Nat.add_zero, Nat.zero_add, Nat.sub_self, Nat.sub_zero, Bool.not_true, Bool.not_false, if_true, if_false, decide_true, decide_false, Bool.true_and, Bool.and_true, Bool.false_and, Bool.and_false, Bool.or_true, Bool.true_or, Bool.false_or, Bool.or_false, String.reduceBEq, reduceIte, Bool.false_eq_true, true_and, and_true, Option.map_some, Option.map_none, Option.bind_some, Option.bind_none]
        refine ⟨by decide, line_wp (js := [(cg, cz), (dg, dz)]) (sm2.plays hw2) (by omega) ?_⟩
        walk_at "wps"
        refine hN.nx _ ?_
        clear hN N
        walk_at "wps"
        refine wp_sq fun N hN => ?_
        walk_at "wps"
        refine flip_lc (by omega) (fun x hx => lineL_own x hx) (fun x hx Q q => ?_) ?_
        · have b0 : ∀ {x y z : D}, atI [x, y, z] 0 = some x := fun {x y z} => atI_get (i := 0) rfl
          have b1 : ∀ {x y z : D}, atI [x, y, z] 1 = some y := fun {x y z} => atI_get (i := 1) rfl
          have b2 : ∀ {x y z : D}, atI [x, y, z] 2 = some z := fun {x y z} => atI_get (i := 2) rfl
          unfold lnD
          walk_at "wps"
          by_cases c : (0 : Int) < (x.1 : Int)
          · rw [if_pos c] at q
            simp only [b0, b1, b2, c, wp_ret, wp_need, wp_pick, wp_exc, wp_bad, wp_bindE, wp_trE, wp_noexE, opt_some, opt_none, toDs_nil, toDs_cons, toD_fz, toD_os, toD_ol, toD_ok, sSet, sIf, sRet, sRetV, sRetN, sExpr, sBrk, sCont, sFrz, sNil, setS, sUnp, sFldM, sRaise, sApp, sExt, sItem, popM, sPop, sPopTo, sSlice, sAug, mC, mVar, m2, m1, tVal, tTru, tAndM, tOrM, tNotM, mAnd, mOr, mNot, mIf, maNil, maCons, frz, mTup, mLst, mLstN, mSl, oNone, oSome, mRevL, mRevS, mCB, mCall, mCallB, mMeth, mFld, mProp, mMake, mChain, mLc, tYesM, lcF, gN, gAll, gT, iSeq, iRange1, iRange2, iEnumLM, iEnumTM, iZipLM, iterD, listF, wipeL, truth, flatR, unb, brw, owns, fI2, fSub, fNeg, fAdd, fMul, fEq_i, fEq_s, fEq_b, fCmp, fIsN, Dn.isNon, fIx, fSl, fLen, fList, fTuple, fInt, fStr, fAbs, fMax2, fMin2, isiD, mIsi, mFmt, mJs, mM1, mM0, fSplit, fPart, fFind, fStarts, eqK, peek, listD, seqD, nestD, mLenO, mAbsO, mIxO, iOwn, sTryAs, setX, endX, mXv, mIsX, gNilM, gLift, gYield, gFrom, mListG0, mListG, List.map_cons, List.map_nil, List.length_cons, List.length_nil, List.replicate, List.cons_append, List.nil_append, List.append_nil, List.getElem?_cons_zero, List.getElem?_cons_succ, List.getElem?_nil, List.set_cons_zero, List.set_cons_succ, List.set_nil, Nat.reduceAdd, Nat.reduceSub, Nat.add_zero, Nat.zero_add, Nat.sub_self, Nat.sub_zero, Bool.not_true, Bool.not_false, if_true, if_false, decide_true, decide_false, Bool.true_and, Bool.and_true, Bool.false_and, Bool.and_false, Bool.or_true, Bool.true_or, Bool.false_or, Bool.or_false, String.reduceBEq, reduceIte, Bool.false_eq_true, true_and, and_true, Option.map_some, Option.map_none, Option.bind_some, Option.bind_none]
            exact ⟨by decide, q⟩
          · rw [if_neg c] at q
            simp only [b0, b1, b2, c, wp_ret, wp_need, wp_pick, wp_exc, wp_bad, wp_bindE, wp_trE, wp_noexE, opt_some, opt_none, toDs_nil, toDs_cons, toD_fz, toD_os, toD_ol, toD_ok, sSet, sIf, sRet, sRetV, sRetN, sExpr, sBrk, sCont, sFrz, sNil, setS, sUnp, sFldM, sRaise, sApp, sExt, sItem, popM, sPop, sPopTo, sSlice, sAug, mC, mVar, m2, m1, tVal, tTru, tAndM, tOrM, tNotM, mAnd, mOr, mNot, mIf, maNil, maCons, frz, mTup, mLst, mLstN, mSl, oNone, oSome, mRevL, mRevS, mCB, mCall, mCallB, mMeth, mFld, mProp, mMake, mChain, mLc, tYesM, lcF, gN, gAll, gT, iSeq, iRange1, iRange2, iEnumLM, iEnumTM, iZipLM, iterD, listF, wipeL, truth, flatR, unb, brw, owns, fI2, fSub, fNeg, fAdd, fMul, fEq_i, fEq_s, fEq_b, fCmp, fIsN, Dn.isNon, fIx, fSl, fLen, fList, fTuple, fInt, fStr, fAbs, fMax2, fMin2, isiD, mIsi, mFmt, mJs, mM1, mM0, fSplit, fPart, fFind, fStarts, eqK, peek, listD, seqD, nestD, mLenO, mAbsO, mIxO, iOwn, sTryAs, setX, endX, mXv, mIsX, gNilM, gLift, gYield, gFrom, mListG0, mListG, List.map_cons, List.map_nil, List.length_cons, List.length_nil, List.replicate, List.cons_append, List.nil_append, List.append_nil, List.getElem?_cons_zero, List.getElem?_cons_succ, List.getElem?_nil, List.set_cons_zero, List.set_cons_succ, List.set_nil, Nat.reduceAdd, Nat.reduceSub, Nat.add_zero, Nat.zero_add, Nat.sub_self, Nat.sub_zero, Bool.not_true, Bool.not_false, if_true, if_false, decide_true, decide_false, Bool.true_and, Bool.and_true, Bool.false_and, Bool.and_false, Bool.or_true, Bool.true_or, Bool.false_or, Bool.or_false, String.reduceBEq, reduceIte, Bool.false_eq_true, true_and, and_true, Option.map_some, Option.map_none, Option.bind_some, Option.bind_none]
            exact ⟨by decide, q⟩
        · rw [e1]
          refine fEq_wp (n := 2) (m := 2) rfl rfl (line_pl hw1 hsg) (line_pl hw1 hsg) (by decide) (by decide) ?_
          rw [decide_eq_true rfl]
          walk_at "wps"
          refine hN.nx _ ?_
          clear hN N
          refine wp_sq fun N hN => ?_
          simp only [a0, a1, wp_ret, wp_need, wp_pick, wp_exc, wp_bad, wp_bindE, wp_trE, wp_noexE, opt_some, opt_none, toDs_nil, toDs_cons, toD_fz, toD_os, toD_ol, toD_ok, sSet, sIf, sRet, sRetV, sRetN, sExpr, sBrk, sCont, sFrz, sNil, setS, sUnp, sFldM, sRaise, sApp, sExt, sItem, popM, sPop, sPopTo, sSlice, sAug, mC, mVar, m2, m1, tVal, tTru, tAndM, tOrM, tNotM, mAnd, mOr, mNot, mIf, maNil, maCons, frz, mTup, mLst, mLstN, mSl, oNone, oSome, mRevL, mRevS, mCB, mCall, mCallB, mMeth, mFld, mProp, mMake, mChain, mLc, tYesM, lcF, gN, gAll, gT, iSeq, iRange1, iRange2, iEnumLM, iEnumTM, iZipLM, iterD, listF, wipeL, truth, flatR, unb, brw, owns, fI2, fSub, fNeg, fAdd, fMul, fEq_i, fEq_s, fEq_b, fCmp, fIsN, Dn.isNon, fIx, fSl, fLen, fList, fTuple, fInt, fStr, fAbs, fMax2, fMin2, isiD, mIsi, mFmt, mJs, mM1, mM0, fSplit, fPart, fFind, fStarts, eqK, peek, listD, seqD, nestD, mLenO, mAbsO, mIxO, iOwn, sTryAs, setX, endX, mXv, mIsX, gNilM, gLift, gYield, gFrom, mListG0, mListG, List.map_cons, List.map_nil, List.length_cons, List.length_nil, List.replicate, List.cons_append, List.nil_append, List.append_nil, List.getElem?_cons_zero, List.getElem?_cons_succ, List.getElem?_nil, List.set_cons_zero, List.set_cons_succ, List.set_nil, Nat.reduceAdd, Nat.reduceSub, Nat.add_zero, Nat.zero_add, Nat.sub_self, Nat.sub_zero, Bool.not_true, Bool.not_false, if_true, if_false, decide_true, decide_false, Bool.true_and, Bool.and_true, Bool.false_and, Bool.and_false, Bool.or_true, Bool.true_or, Bool.false_or, Bool.or_false, String.reduceBEq, reduceIte, Bool.false_eq_true, true_and, and_true, Option.map_some, Option.map_none, Option.bind_some, Option.bind_none]
          refine exchanged_wp (a := (cg, cz)) (b := (dg, dz)) (by simp only; omega) (by simp only; omega) ?_
          rw [eb]
          unfold exL
          walk_at "wps"
          refine ⟨by decide, tru_wp (n := 2) (pair_dat (c := (g, dz)) (d := (h', cz))) (by decide) ?_⟩
          walk_at "wps"
          refine hN.nx _ ?_
          clear hN N
          walk_at "wps"
          exact hR.rt _ rfl k
      by_cases c1 : g < h'
      · have c2 : ¬ h' < g + (dz.length : Int) := fun e => hne ⟨c1, e⟩
        simp only [a0, a1, c1, wp_ret, wp_need, wp_pick, wp_exc, wp_bad, wp_bindE, wp_trE, wp_noexE, opt_some, opt_none, toDs_nil, toDs_cons, toD_fz, toD_os, toD_ol, toD_ok, sSet, sIf, sRet, sRetV, sRetN, sExpr, sBrk, sCont, sFrz, sNil, setS, sUnp, sFldM, sRaise, sApp, sExt, sItem, popM, sPop, sPopTo, sSlice, sAug, mC, mVar, m2, m1, tVal, tTru, tAndM, tOrM, tNotM, mAnd, mOr, mNot, mIf, maNil, maCons, frz, mTup, mLst, mLstN, mSl, oNone, oSome, mRevL, mRevS, mCB, mCall, mCallB, mMeth, mFld, mProp, mMake, mChain, mLc, tYesM, lcF, gN, gAll, gT, iSeq, iRange1, iRange2, iEnumLM, iEnumTM, iZipLM, iterD, listF, wipeL, truth, flatR, unb, brw, owns, fI2, fSub, fNeg, fAdd, fMul, fEq_i, fEq_s, fEq_b, fCmp, fIsN, Dn.isNon, fIx, fSl, fLen, fList, fTuple, fInt, fStr, fAbs, fMax2, fMin2, isiD, mIsi, mFmt, mJs, mM1, mM0, fSplit, fPart, fFind, fStarts, eqK, peek, listD, seqD, nestD, mLenO, mAbsO, mIxO, iOwn, sTryAs, setX, endX, mXv, mIsX, gNilM, gLift, gYield, gFrom, mListG0, mListG, List.map_cons, List.map_nil, List.length_cons, List.length_nil, List.replicate, List.cons_append, List.nil_append, List.append_nil, List.getElem?_cons_zero, List.getElem?_cons_succ, List.getElem?_nil, List.set_cons_zero, List.set_cons_succ, List.set_nil, Nat.reduceAdd, Nat.reduceSub, Nat.add_zero, Nat.zero_add, Nat.sub_self, Nat.sub_zero, Bool.not_true, Bool.not_false, if_true, if_false, decide_true, decide_false, Bool.true_and, Bool.and_true, Bool.false_and, Bool.and_false, Bool.or_true, Bool.true_or, Bool.false_or, Bool.or_false, String.reduceBEq, reduceIte, Bool.false_eq_true, true_and, and_true, Option.map_some, Option.map_none, Option.bind_some, Option.bind_none]
        refine ⟨by omega, ?_⟩
        simp only [a0, a1, c2, wp_ret, wp_need, wp_pick, wp_exc, wp_bad, wp_bindE, wp_trE, wp_noexE, opt_some, opt_none, toDs_nil, toDs_cons, toD_fz, toD_os, toD_ol, toD_ok, sSet, sIf, sRet, sRetV, sRetN, sExpr, sBrk, sCont, sFrz, sNil, setS, sUnp, sFldM, sRaise, sApp, sExt, sItem, popM, sPop, sPopTo, sSlice, sAug, mC, mVar, m2, m1, tVal, tTru, tAndM, tOrM, tNotM, mAnd, mOr, mNot, mIf, maNil, maCons, frz, mTup, mLst, mLstN, mSl, oNone, oSome, mRevL, mRevS, mCB, mCall, mCallB, mMeth, mFld, mProp, mMake, mChain, mLc, tYesM, lcF, gN, gAll, gT, iSeq, iRange1, iRange2, iEnumLM, iEnumTM, iZipLM, iterD, listF, wipeL, truth, flatR, unb, brw, owns, fI2, fSub, fNeg, fAdd, fMul, fEq_i, fEq_s, fEq_b, fCmp, fIsN, Dn.isNon, fIx, fSl, fLen, fList, fTuple, fInt, fStr, fAbs, fMax2, fMin2, isiD, mIsi, mFmt, mJs, mM1, mM0, fSplit, fPart, fFind, fStarts, eqK, peek, listD, seqD, nestD, mLenO, mAbsO, mIxO, iOwn, sTryAs, setX, endX, mXv, mIsX, gNilM, gLift, gYield, gFrom, mListG0, mListG, List.map_cons, List.map_nil, List.length_cons, List.length_nil, List.replicate, List.cons_append, List.nil_append, List.append_nil, List.getElem?_cons_zero, List.getElem?_cons_succ, List.getElem?_nil, List.set_cons_zero, List.set_cons_succ, List.set_nil, Nat.reduceAdd, Nat.reduceSub, Nat.add_zero, Nat.zero_add, Nat.sub_self, Nat.sub_zero, Bool.not_true, Bool.not_false, if_true, if_false, decide_true, decide_false, Bool.true_and, Bool.and_true, Bool.false_and, Bool.and_false, Bool.or_true, Bool.true_or, Bool.false_or, Bool.or_false, String.reduceBEq, reduceIte, Bool.false_eq_true, true_and, and_true, Option.map_some, Option.map_none, Option.bind_some, Option.bind_none]
        exact go
      · simp only [a0, a1, c1, wp_ret, wp_need, wp_pick, wp_exc, wp_bad, wp_bindE, wp_trE, wp_noexE, opt_some, opt_none, toDs_nil, toDs_cons, toD_fz, toD_os, toD_ol, toD_ok, sSet, sIf, sRet, sRetV, sRetN, sExpr, sBrk, sCont, sFrz, sNil, setS, sUnp, sFldM, sRaise, sApp, sExt, sItem, popM, sPop, sPopTo, sSlice, sAug, mC, mVar, m2, m1, tVal, tTru, tAndM, tOrM, tNotM, mAnd, mOr, mNot, mIf, maNil, maCons, frz, mTup, mLst, mLstN, mSl, oNone, oSome, mRevL, mRevS, mCB, mCall, mCallB, mMeth, mFld, mProp, mMake, mChain, mLc, tYesM, lcF, gN, gAll, gT, iSeq, iRange1, iRange2, iEnumLM, iEnumTM, iZipLM, iterD, listF, wipeL, truth, flatR, unb, brw, owns, fI2, fSub, fNeg, fAdd, fMul, fEq_i, fEq_s, fEq_b, fCmp, fIsN, Dn.isNon, fIx, fSl, fLen, fList, fTuple, fInt, fStr, fAbs, fMax2, fMin2, isiD, mIsi, mFmt, mJs, mM1, mM0, fSplit, fPart, fFind, fStarts, eqK, peek, listD, seqD, nestD, mLenO, mAbsO, mIxO, iOwn, sTryAs, setX, endX, mXv, mIsX, gNilM, gLift, gYield, gFrom, mListG0, mListG, List.map_cons, List.map_nil, List.length_cons, List.length_nil, List.replicate, List.cons_append, List.nil_append, List.append_nil, List.getElem?_cons_zero, List.getElem?_cons_succ, List.getElem?_nil, List.set_cons_zero, List.set_cons_succ, List.set_nil, Nat.reduceAdd, Nat.reduceSub, Nat.add_zero, Nat.zero_add, Nat.sub_self, Nat.sub_zero, Bool.not_true, Bool.not_false, if_true, if_false, decide_true, decide_false, Bool.true_and, Bool.and_true, Bool.false_and, Bool.and_false, Bool.or_true, Bool.true_or, Bool.false_or, Bool.or_false, String.reduceBEq, reduceIte, Bool.false_eq_true, true_and, and_true, Option.map_some, Option.map_none, Option.bind_some, Option.bind_none]
        exact go
  · exact badE h
end
end Q07
end

section
set_option Elab.async false
set_option linter.all false
set_option maxRecDepth 100000
set_option maxHeartbeats 1000000
namespace Q07
open PySem PySem.Spec PyProof.Rows L2 Evl GrO Dn
local macro_rules | `(tactic| walk_at "wps") => `(tactic| simp only [wp_ret, wp_need, wp_pick, wp_exc, wp_bad, wp_bindE, wp_trE, wp_noexE, opt_some, opt_none, toDs_nil, toDs_cons, toD_fz, toD_os, toD_ol, toD_ok, sSet, sIf, sRet, sRetV, sRetN, sExpr, sBrk, sCont, sFrz, sNil, setS, sUnp, sFldM, sRaise, sApp, sExt, sItem, popM, sPop, sPopTo, sSlice, sAug, mC, mVar, m2, m1, tVal, tTru, tAndM, tOrM, tNotM, mAnd, mOr, mNot, mIf, maNil, maCons, frz, mTup, mLst, mLstN, mSl, oNone, oSome, mRevL, mRevS, mCB, mCall, mCallB, mMeth, mFld, mProp, mMake, mChain, mLc, tYesM, lcF, gN, gAll, gT, iSeq, iRange1, iRange2, iEnumLM, iEnumTM, iZipLM, iterD, listF, wipeL, truth, flatR, unb, brw, owns, fI2, fSub, fNeg, fAdd, fMul, fEq_i, fEq_s, fEq_b, fCmp, fIsN, Dn.isNon, fIx, fSl, fLen, fList, fTuple, fInt, fStr, fAbs, fMax2, fMin2, isiD, mIsi, mFmt, mJs, mM1, mM0, fSplit, fPart, fFind, fStarts, eqK, peek, listD, seqD, nestD, mLenO, mAbsO, mIxO, iOwn, sTryAs, setX, endX, mXv, mIsX, gNilM, gLift, gYield, gFrom, mListG0, mListG, List.map_cons, List.map_nil, List.length_cons, List.length_nil, List.replicate, List.cons_append, List.nil_append, List.append_nil, List.getElem?_cons_zero, List.getElem?_cons_succ, List.getElem?_nil, List.set_cons_zero, List.set_cons_succ, List.set_nil, Nat.reduceAdd, Nat.reduceSub, Nat.add_zero, Nat.zero_add, Nat.sub_self, Nat.sub_zero, Bool.not_true, Bool.not_false, if_true, if_false, decide_true, decide_false, Bool.true_and, Bool.and_true, Bool.false_and, Bool.and_false, Bool.or_true, Bool.true_or, Bool.false_or, Bool.or_false, String.reduceBEq, reduceIte, Bool.false_eq_true, true_and, and_true, Option.map_some, Option.map_none, Option.bind_some, Option.bind_none])
noncomputable section
theorem headP_len : ∀ {l : List (Nat × Nat)} {k : Nat}, (headP k l).length ≤ l.length
  | [], _ => Nat.le_refl _
  | (o, p) :: r, k => by
    have := headP_len (l := r) (k := k + 1)
    unfold headP
    split
    · rw [List.length_cons, List.length_cons]; omega
    · rw [List.length_cons]; omega
theorem grp_mem {js : List (Int × Str)} {o : Nat} (h : 1 ≤ o) (h2 : o ≤ js.length) : ∃ j, js[o - 1]? = some j ∧ j.2 = grp js o ∧ j ∈ js := by
  have hi : o - 1 < js.length := by omega
  refine ⟨js[o - 1], List.getElem?_eq_getElem hi, ?_, List.getElem_mem hi⟩
  unfold grp
  rw [List.getD_eq_getElem?_getD, List.getElem?_eq_getElem hi]
  rfl
theorem due_small {s w : Str} {js : List (Int × Str)} (h : Small s js) (hp : play s js = .row w) : Small s (due s js) := by
  refine ⟨h.s, by rw [due_len hp]; exact h.n, fun j hj => ?_⟩
  obtain ⟨T, b, ha⟩ := due_ex hp
  rw [b.due hp ha] at hj
  obtain ⟨t, ht, rfl⟩ := List.mem_map.mp hj
  obtain ⟨h1, h2, h3⟩ := b.grp ht
  obtain ⟨j, _, e, hm⟩ := grp_mem h1 h2
  show (tx t.2.1).length ≤ 100
  rw [h3, ← e]
  exact h.z j hm
def fs_in_order : Fs := fun ds => match ds with
  | [.obj c [.str s, .tup ds, .str z]] => M.opt (joinsD ds) fun js => .need (c = 0 ∧ play s js = .row z ∧ Small s js) (.ret (.fz (.obj 0 [.str s, .tup ((due s js).map jD), .str z])))
  | _ => .bad
theorem in_order_wp {s z : Str} {js : List (Int × Str)} {P : LV → Prop} {E : Nat → D → Prop} (h1 : play s js = .row z) (h2 : Small s js) (q : P (.fz (.obj 0 [.str s, .tup ((due s js).map jD), .str z]))) : (fs_in_order [.obj 0 [.str s, .tup (js.map jD), .str z]]).wp P E := by
  unfold fs_in_order
  simp only
  rw [joinsD_map, opt_some]
  exact needI ⟨by simp, h1, h2⟩ (by rw [wp_ret]; exact q)
def m_in_order : Sm := (sSeq (sSet 1 (mLst maNil)) (sSeq (sFor (iEnumLM (mMeth 0 1 fs_Growth_owners (mVar 0) maNil)) (gT 2 [gN 2, gT 2 [gN 3, gN 4]]) (sIf (tAndM (tVal (m2 fGt (mVar 3) (mC (D.int 0)))) (tVal (m2 (fEq false) (mVar 4) (mC (D.int 1))))) (sApp 1 (mTup (maCons (mVar 2) (maCons (m2 fIx (m2 fIx (mFld 0 1 (mVar 0)) (m2 fSub (mVar 3) (mC (D.int 1)))) (mC (D.int 1))) maNil)))) sNil)) (sFrz 1 (sRet (mMake 0 2 fs_Growth_init [] (maCons (mFld 0 0 (mVar 0)) (maCons (mVar 1) maNil)))))))
theorem ref_in_order {ds : List D} (hl : ds.length = 1) : Ref (runB m_in_order 5 ds) (fs_in_order ds) := by
  intro P E h
  unfold fs_in_order at h
  split at h
  · rename_i c s ds w
    obtain ⟨js, hj, k⟩ := M.wp_opt.mp h
    clear h
    obtain rfl := joinsD_of hj
    rw [wp_need, wp_ret] at k
    obtain ⟨⟨rfl, hw, hs⟩, k⟩ := k
    have hsum := hs.sum
    have hrow := hs.row hw
    have hol : (ownL s js).length = w.length := own_len hw spanL_len
    refine wp_run fun R hR => ?_
    unfold m_in_order
    refine wp_sq fun N hN => ?_
    walk_at "wps"
    refine ⟨by decide, hN.nx _ ?_⟩
    clear hN N
    refine wp_sq fun N hN => ?_
    refine wp_for (l := (ownL s js).zipIdx) (d := fun p => .tup [.int (p.2 : Int), prD p.1]) (fun i ρ => ∃ x2 x3 x4, ρ = [.fz (.obj 0 [.str s, .tup (js.map jD), .str w]), .os (((headP 0 ((ownL s js).take i)).map fun q => ((q.1 : Int), grp js q.2)).map jD), x2, x3, x4])
      (fun Q q => ?_) ⟨_, _, _, rfl⟩ ?_ ?_
    · walk_at "wps"
      refine owners_wp (hs.plays hw) (by omega) ?_
      walk_at "wps"
      unfold enumD
      rw [List.zipIdx_map, List.map_map]
      exact q
    · rintro i ⟨⟨o, p⟩, i'⟩ ρ hj' ⟨x2, x3, x4, rfl⟩ F hF
      have hj : (ownL s js)[i]? = some (o, p) ∧ i' = i := by
        rw [List.getElem?_zipIdx] at hj'
        cases q : (ownL s js)[i]? with
        | none => rw [q] at hj'; cases hj'
        | some a =>
          rw [q] at hj'
          simp only [Option.map_some, Option.some.injEq, Prod.mk.injEq] at hj'
          exact ⟨by rw [hj'.1], by omega⟩
      obtain ⟨hj, rfl⟩ := hj
      have hil := (List.getElem?_eq_some_iff.mp hj).1
      have hown := ownL_own _ (List.mem_of_getElem? hj)
      have htk : (ownL s js).take (i' + 1) = (ownL s js).take i' ++ [(o, p)] := by rw [List.take_add_one, hj]; rfl
      have htl : ((ownL s js).take i').length = i' := by rw [List.length_take]; omega
      have hsn := headP_snoc (l := (ownL s js).take i') (k := 0) (x := (o, p))
      rw [← htk, htl, Nat.zero_add] at hsn
      have hle := headP_len (l := (ownL s js).take i') (k := 0)
      unfold Dn.prD
      walk_at "wps"
      by_cases c1 : 0 < o
      · have c1' : (0 : Int) < (o : Int) := by omega
        simp only [c1', wp_ret, wp_need, wp_pick, wp_exc, wp_bad, wp_bindE, wp_trE, wp_noexE, opt_some, opt_none, toDs_nil, toDs_cons, toD_fz, toD_os, toD_ol, toD_ok, sSet, sIf, sRet, sRetV, sRetN, sExpr, sBrk, sCont, sFrz, sNil, setS, sUnp, sFldM, sRaise, sApp, sExt, sItem, popM, sPop, sPopTo, sSlice, sAug, mC, mVar, m2, m1, tVal, tTru, tAndM, tOrM, tNotM, mAnd, mOr, mNot, mIf, maNil, maCons, frz, mTup, mLst, mLstN, mSl, oNone, oSome, mRevL, mRevS, mCB, mCall, mCallB, mMeth, mFld, mProp, mMake, mChain, mLc, tYesM, lcF, gN, gAll, gT, iSeq, iRange1, iRange2, iEnumLM, iEnumTM, iZipLM, iterD, listF, wipeL, truth, flatR, unb, brw, owns, fI2, fSub, fNeg, fAdd, fMul, fEq_i, fEq_s, fEq_b, fCmp, fIsN, Dn.isNon, fIx, fSl, fLen, fList, fTuple, fInt, fStr, fAbs, fMax2, fMin2, isiD, mIsi, mFmt, mJs, mM1, mM0, fSplit, fPart, fFind, fStarts, eqK, peek, listD, seqD, nestD, mLenO, mAbsO, mIxO, iOwn, sTryAs, setX, endX, mXv, mIsX, gNilM, gLift, gYield, gFrom, mListG0, mListG, List.map_cons, List.map_nil, List.length_cons, List.length_nil, List.replicate, List.cons_append, List.nil_append, List.append_nil, List.getElem?_cons_zero, List.getElem?_cons_succ, List.getElem?_nil, List.set_cons_zero, List.set_cons_succ, List.set_nil, Nat.reduceAdd, Nat.reduceSub, Nat.add_zero, Nat.zero_add, Nat.sub_self, Nat.sub_zero, Bool.not_true, Bool.not_false, if_true, if_false, decide_true, decide_false, Bool.true_and, Bool.and_true, Bool.false_and, Bool.and_false, Bool.or_true, Bool.true_or, Bool.false_or, Bool.or_false, String.reduceBEq, reduceIte, Bool.false_eq_true, true_and, and_true, Option.map_some, Option.map_none, Option.bind_some, Option.bind_none]
        by_cases c2 : p = 1
        · subst c2
          obtain ⟨j, h1, h2, _⟩ := grp_mem (js := js) (o := o) (by omega) hown
          have e1 : (o : Int) - 1 = ((o - 1 : Nat) : Int) := by omega
          simp only [e1, show decide (((1 : Nat) : Int) = 1) = true from rfl, atI_get (show (js.map jD)[o - 1]? = some (.tup [.int j.1, .str j.2]) from by rw [List.getElem?_map, h1]; rfl), show atI [D.int j.1, D.str j.2] 1 = some (.str j.2) from atI_get (i := 1) rfl, wp_ret, wp_need, wp_pick, wp_exc, wp_bad, wp_bindE, wp_trE, wp_noexE, opt_some, opt_none, toDs_nil, toDs_cons, toD_fz, toD_os, toD_ol, toD_ok, sSet, sIf, sRet, sRetV, sRetN, sExpr, sBrk, sCont, sFrz, sNil, setS, sUnp, sFldM, sRaise, sApp, sExt, sItem, popM, sPop, sPopTo, sSlice, sAug, mC, mVar, m2, m1, tVal, tTru, tAndM, tOrM, tNotM, mAnd, mOr, mNot, mIf, maNil, maCons, frz, mTup, mLst, mLstN, mSl, oNone, oSome, mRevL, mRevS, mCB, mCall, mCallB, mMeth, mFld, mProp, mMake, mChain, mLc, tYesM, lcF, gN, gAll, gT, iSeq, iRange1, iRange2, iEnumLM, iEnumTM, iZipLM, iterD, listF, wipeL, truth, flatR, unb, brw, owns, fI2, fSub, fNeg, fAdd, fMul, fEq_i, fEq_s, fEq_b, fCmp, fIsN, Dn.isNon, fIx, fSl, fLen, fList, fTuple, fInt, fStr, fAbs, fMax2, fMin2, isiD, mIsi, mFmt, mJs, mM1, mM0, fSplit, fPart, fFind, fStarts, eqK, peek, listD, seqD, nestD, mLenO, mAbsO, mIxO, iOwn, sTryAs, setX, endX, mXv, mIsX, gNilM, gLift, gYield, gFrom, mListG0, mListG, List.map_cons, List.map_nil, List.length_cons, List.length_nil, List.replicate, List.cons_append, List.nil_append, List.append_nil, List.getElem?_cons_zero, List.getElem?_cons_succ, List.getElem?_nil, List.set_cons_zero, List.set_cons_succ, List.set_nil, Nat.reduceAdd, Nat.reduceSub, Nat.add_zero, Nat.zero_add, Nat.sub_self, Nat.sub_zero, Bool.not_true, Bool.not_false, if_true, if_false, decide_true, decide_false, Bool.true_and, Bool.and_true, Bool.false_and, Bool.and_false, Bool.or_true, Bool.true_or, Bool.false_or, Bool.or_false, String.reduceBEq, reduceIte, Bool.false_eq_true, true_and, and_true, Option.map_some, Option.map_none, Option.bind_some, Option.bind_none]
          rw [if_pos ⟨c1, rfl⟩] at hsn
          refine ⟨by decide, by rw [List.length_map, List.length_map]; omega, ?_⟩
          have e : ((headP 0 ((ownL s js).take (i' + 1))).map fun q => ((q.1 : Int), grp js q.2)).map jD = ((headP 0 ((ownL s js).take i')).map fun q => ((q.1 : Int), grp js q.2)).map jD ++ [D.tup [D.int (i' : Int), D.str j.2]] := by
            rw [hsn, List.map_append, List.map_append, h2]
            rfl
          rw [← e]
          exact hF.nx _ ⟨_, _, _, rfl⟩
        · have c2' : decide ((p : Int) = 1) = false := decide_eq_false (by omega)
          simp only [c2', wp_ret, wp_need, wp_pick, wp_exc, wp_bad, wp_bindE, wp_trE, wp_noexE, opt_some, opt_none, toDs_nil, toDs_cons, toD_fz, toD_os, toD_ol, toD_ok, sSet, sIf, sRet, sRetV, sRetN, sExpr, sBrk, sCont, sFrz, sNil, setS, sUnp, sFldM, sRaise, sApp, sExt, sItem, popM, sPop, sPopTo, sSlice, sAug, mC, mVar, m2, m1, tVal, tTru, tAndM, tOrM, tNotM, mAnd, mOr, mNot, mIf, maNil, maCons, frz, mTup, mLst, mLstN, mSl, oNone, oSome, mRevL, mRevS, mCB, mCall, mCallB, mMeth, mFld, mProp, mMake, mChain, mLc, tYesM, lcF, gN, gAll, gT, iSeq, iRange1, iRange2, iEnumLM, iEnumTM, iZipLM, iterD, listF, wipeL, truth, flatR, unb, brw, owns, fI2, fSub, fNeg, fAdd, fMul, fEq_i, fEq_s, fEq_b, fCmp, fIsN, Dn.isNon, fIx, fSl, fLen, fList, fTuple, fInt, fStr, fAbs, fMax2, fMin2, isiD, mIsi, mFmt, mJs, mM1, mM0, fSplit, fPart, fFind, fStarts, eqK, peek, listD, seqD, nestD, mLenO, mAbsO, mIxO, iOwn, sTryAs, setX, endX, mXv, mIsX, gNilM, gLift, gYield, gFrom, mListG0, mListG, List.map_cons, List.map_nil, List.length_cons, List.length_nil, List.replicate, List.cons_append, List.nil_append, List.append_nil, List.getElem?_cons_zero, List.getElem?_cons_succ, List.getElem?_nil, List.set_cons_zero, List.set_cons_succ, List.set_nil, Nat.reduceAdd, Nat.reduceSub, Nat.add_zero, Nat.zero_add, Nat.sub_self, Nat.sub_zero, Bool.not_true, Bool.not_false, if_true, if_false, decide_true, decide_false, Bool.true_and, Bool.and_true, Bool.false_and, Bool.and_false, Bool.or_true, Bool.true_or, Bool.false_or, Bool.or_false, String.reduceBEq, reduceIte, Bool.false_eq_true, true_and, and_true, Option.map_some, Option.map_none, Option.bind_some, Option.bind_none]
          rw [if_neg (fun e => c2 e.2)] at hsn
          rw [List.append_nil] at hsn
          rw [← hsn]
          exact hF.nx _ ⟨_, _, _, rfl⟩
      · have c1' : ¬ (0 : Int) < (o : Int) := by omega
        simp only [c1', wp_ret, wp_need, wp_pick, wp_exc, wp_bad, wp_bindE, wp_trE, wp_noexE, opt_some, opt_none, toDs_nil, toDs_cons, toD_fz, toD_os, toD_ol, toD_ok, sSet, sIf, sRet, sRetV, sRetN, sExpr, sBrk, sCont, sFrz, sNil, setS, sUnp, sFldM, sRaise, sApp, sExt, sItem, popM, sPop, sPopTo, sSlice, sAug, mC, mVar, m2, m1, tVal, tTru, tAndM, tOrM, tNotM, mAnd, mOr, mNot, mIf, maNil, maCons, frz, mTup, mLst, mLstN, mSl, oNone, oSome, mRevL, mRevS, mCB, mCall, mCallB, mMeth, mFld, mProp, mMake, mChain, mLc, tYesM, lcF, gN, gAll, gT, iSeq, iRange1, iRange2, iEnumLM, iEnumTM, iZipLM, iterD, listF, wipeL, truth, flatR, unb, brw, owns, fI2, fSub, fNeg, fAdd, fMul, fEq_i, fEq_s, fEq_b, fCmp, fIsN, Dn.isNon, fIx, fSl, fLen, fList, fTuple, fInt, fStr, fAbs, fMax2, fMin2, isiD, mIsi, mFmt, mJs, mM1, mM0, fSplit, fPart, fFind, fStarts, eqK, peek, listD, seqD, nestD, mLenO, mAbsO, mIxO, iOwn, sTryAs, setX, endX, mXv, mIsX, gNilM, gLift, gYield, gFrom, mListG0, mListG, List.map_cons, List.map_nil, List.length_cons, List.length_nil, List.replicate, List.cons_append, List.nil_append, List.append_nil, List.getElem?_cons_zero, List.getElem?_cons_succ, List.getElem?_nil, List.set_cons_zero, List.set_cons_succ, List.set_nil, Nat.reduceAdd, Nat.reduceSub, Nat.add_zero, Nat.zero_add, Nat.sub_self, Nat.sub_zero, Bool.not_true, Bool.not_false, if_true, if_false, decide_true, decide_false, Bool.true_and, Bool.and_true, Bool.false_and, Bool.and_false, Bool.or_true, Bool.true_or, Bool.false_or, Bool.or_false, String.reduceBEq, reduceIte, Bool.false_eq_true, true_and, and_true, Option.map_some, Option.map_none, Option.bind_some, Option.bind_none]
        rw [if_neg (fun e => c1 e.1)] at hsn
        rw [List.append_nil] at hsn
        rw [← hsn]
        exact hF.nx _ ⟨_, _, _, rfl⟩
    · rintro ρ ⟨x2, x3, x4, rfl⟩
      rw [List.length_zipIdx, List.take_length, show (headP 0 (ownL s js)).map (fun q => ((q.1 : Int), grp js q.2)) = due s js from rfl]
      refine hN.nx _ ?_
      walk_at "wps"
      have hd := due_row hw
      refine init_wp (.inl rfl) ((due_small hs hw).bnd hd) (fun x hx => ?_) (fun x hx => by rw [hd] at hx; cases hx) (fun x hx => by rw [hd] at hx; cases hx)
      rw [hd] at hx
      cases hx
      try walk_at "wps"
      exact hR.rt _ rfl k
  · exact badE h
end
end Q07
end

section
set_option Elab.async false
set_option linter.all false
set_option maxRecDepth 100000
set_option maxHeartbeats 1000000
namespace Q07
open PySem PySem.Spec PyProof.Rows L2 Evl GrO Dn
local macro_rules | `(tactic| walk_at "wps") => `(tactic| simp only [wp_ret, wp_need, wp_pick, wp_exc, wp_bad, wp_bindE, wp_trE, wp_noexE, opt_some, opt_none, toDs_nil, toDs_cons, toD_fz, toD_os, toD_ol, toD_ok, sSet, sIf, sRet, sRetV, sRetN, sExpr, sBrk, sCont, sFrz, sNil, setS, sUnp, sFldM, sRaise, sApp, sExt, sItem, popM, sPop, sPopTo, sSlice, sAug, mC, mVar, m2, m1, tVal, tTru, tAndM, tOrM, tNotM, mAnd, mOr, mNot, mIf, maNil, maCons, frz, mTup, mLst, mLstN, mSl, oNone, oSome, mRevL, mRevS, mCB, mCall, mCallB, mMeth, mFld, mProp, mMake, mChain, mLc, tYesM, lcF, gN, gAll, gT, iSeq, iRange1, iRange2, iEnumLM, iEnumTM, iZipLM, iterD, listF, wipeL, truth, flatR, unb, brw, owns, fI2, fSub, fNeg, fAdd, fMul, fEq_i, fEq_s, fEq_b, fCmp, fIsN, Dn.isNon, fIx, fSl, fLen, fList, fTuple, fInt, fStr, fAbs, fMax2, fMin2, isiD, mIsi, mFmt, mJs, mM1, mM0, fSplit, fPart, fFind, fStarts, eqK, peek, listD, seqD, nestD, mLenO, mAbsO, mIxO, iOwn, sTryAs, setX, endX, mXv, mIsX, gNilM, gLift, gYield, gFrom, mListG0, mListG, List.map_cons, List.map_nil, List.length_cons, List.length_nil, List.replicate, List.cons_append, List.nil_append, List.append_nil, List.getElem?_cons_zero, List.getElem?_cons_succ, List.getElem?_nil, List.set_cons_zero, List.set_cons_succ, List.set_nil, Nat.reduceAdd, Nat.reduceSub, Nat.add_zero, Nat.zero_add, Nat.sub_self, Nat.sub_zero, Bool.not_true, Bool.not_false, if_true, if_false, decide_true, decide_false, Bool.true_and, Bool.and_true, Bool.false_and, Bool.and_false, Bool.or_true, Bool.true_or, Bool.false_or, Bool.or_false, String.reduceBEq, reduceIte, Bool.false_eq_true, true_and, and_true, Option.map_some, Option.map_none, Option.bind_some, Option.bind_none])
noncomputable section
theorem rows_sgn : ∀ {js : List (Int × Str)} {s w : Str}, play s js = .row w → Sgn s → ∀ r ∈ rowsOf s js, Sgn r
  | [], s, w, h, hs, r, hr => by
    rw [List.mem_singleton.mp hr]
    exact hs
  | (g, z) :: js, s, w, h, hs, r, hr => by
    obtain ⟨h0, h1, h2, h3⟩ := play_row h
    rcases List.mem_cons.mp hr with rfl | hr
    · exact hs
    · refine rows_sgn h3 (row_sgn (js := [(g, z)]) (s := s) (w := insS s g z) ?_ hs) r hr
      rw [play_cons, if_pos ⟨h0, h1⟩, if_pos h2]
      rfl
structure BubOk (s w : Str) (js : List (Int × Str)) : Prop where
  p : play s js = .row w
  sm : Small s js
  n : js.length ≤ 10
  wl : w.length ≤ 900
  sg : Sgn s
def fs_l_bubbled : Fs := fun ds => match ds with
  | [.str s, .lst ds] => M.opt (joinsD ds) fun js => .need (∃ w, BubOk s w js) (.ret (.os ((due s js).map jD)))
  | _ => .bad
theorem bubbled_wp {s w : Str} {js : List (Int × Str)} {P : LV → Prop} {E : Nat → D → Prop} (h : BubOk s w js) (q : P (.os ((due s js).map jD))) : (fs_l_bubbled [.str s, .lst (js.map jD)]).wp P E := by
  unfold fs_l_bubbled
  simp only
  rw [joinsD_map, opt_some]
  exact needI ⟨w, h⟩ (by rw [wp_ret]; exact q)
theorem bub_small {s w : Str} {js : List (Int × Str)} (h : Small s js) {T : List NJ} (b : Bub (tagF 0 js) T) : Small s (T.map jOf) := by
  refine ⟨h.s, by rw [List.length_map, b.len, tag_len]; exact h.n, fun j hj => ?_⟩
  obtain ⟨t, ht, rfl⟩ := List.mem_map.mp hj
  obtain ⟨h1, h2, h3⟩ := b.grp ht
  obtain ⟨j, _, e, hm⟩ := grp_mem h1 h2
  show (tx t.2.1).length ≤ 100
  rw [h3, ← e]
  exact h.z j hm
theorem jD_mk {a : Int} {b : Str} : jD (a, b) = D.tup [D.int a, D.str b] := rfl
theorem swap_jOf {T : List NJ} {k : Nat} {x y : NJ} : ((swapAt T k x y).map jOf) = (T.map jOf).take k ++ [((y.1 : Int), tx y.2.1), ((x.1 : Int) + ((tx y.2.1).length : Int), tx x.2.1)] ++ (T.map jOf).drop (k + 2) := by
  unfold swapAt
  rw [List.map_append, List.map_append, List.map_take, List.map_drop, tx_len]
  rfl
def m_l_bubbled : Sm := (sSeq (sSet 2 (mCB fList (maCons (mVar 1) maNil))) (sSeq (sFor (iRange1 (mC (D.int 60))) (gN 3) (sSeq (sSet 4 (m1 fNeg (mC (D.int 1)))) (sSeq (sFor (iRange1 (m2 fSub (mCB fLen (maCons (mVar 2) maNil)) (mC (D.int 1)))) (gN 5) (sIf (tAndM (tVal (m2 fLt (mVar 4) (mC (D.int 0)))) (tVal (m2 fLe (m2 fIx (m2 fIx (mVar 2) (m2 fAdd (mVar 5) (mC (D.int 1)))) (mC (D.int 0))) (m2 fIx (m2 fIx (mVar 2) (mVar 5)) (mC (D.int 0)))))) (sSet 4 (mVar 5)) sNil)) (sSeq (sIf (tVal (m2 fLt (mVar 4) (mC (D.int 0)))) (sRetV 2) sNil) (sFrz 2 (sSeq (sSet 6 (mCall 3 fs_l_exchange (maCons (m2 fIx (mCall 2 fs_l_played (maCons (mVar 0) (maCons (mVar 2) maNil))) (mVar 4)) (maCons (m2 fIx (mVar 2) (mVar 4)) (maCons (m2 fIx (mVar 2) (m2 fAdd (mVar 4) (mC (D.int 1)))) maNil))))) (sSeq (sIf (tOrM (tVal (m2 (fIsN false) (mVar 6) (mC D.non))) (tVal (m2 (fIsB false) (mVar 6) (mC (D.bl false))))) (sRet (mC D.non)) sNil) (sSet 2 (m2 fAdd (m2 fAdd (mSl fSl (mVar 2) oNone (oSome (mVar 4))) (mLst (maCons (m2 fIx (mVar 6) (mC (D.int 0))) (maCons (m2 fIx (mVar 6) (mC (D.int 1))) maNil)))) (mSl fSl (mVar 2) (oSome (m2 fAdd (mVar 4) (mC (D.int 2)))) oNone)))))))))) (sRet (mC D.non))))
theorem ref_l_bubbled {ds : List D} (hl : ds.length = 2) : Ref (runB m_l_bubbled 7 ds) (fs_l_bubbled ds) := by
  intro P E h
  unfold fs_l_bubbled at h
  split at h
  · rename_i s ds
    obtain ⟨js, hj, k⟩ := M.wp_opt.mp h
    clear h
    obtain rfl := joinsD_of hj
    rw [wp_need, wp_ret] at k
    obtain ⟨⟨w, hp, hs, hn, hwl, hsg⟩, k⟩ := k
    refine wp_run fun R hR => ?_
    unfold m_l_bubbled
    refine wp_sq fun N hN => ?_
    walk_at "wps"
    refine hN.nx _ ?_
    clear hN N
    refine wp_sq fun N hN => ?_
    refine wp_forA ?_
    walk_at "wps"
    refine ⟨⟨by decide, by decide⟩, ?_⟩
    have hok := span_okN hp
    refine wp_loopN (fun i ρ => ∃ T x3 x4 x5 x6, ρ = [.fz (.str s), .fz (.lst (js.map jD)), .os ((T.map jOf).map jD), x3, x4, x5, x6] ∧ Bub (tagF 0 js) T ∧ invs ((hd T).map fun t => t.1) + i ≤ 45) ⟨tagF 0 js, .un, .un, .un, .un, ?_, .nil _, ?_⟩ ?_ ?_
    · rw [tag_jOf fun j hj => (play_gap hp j hj).1]
    · have h1 := invs_tri (l := (hd (tagF 0 js)).map fun t => t.1)
      rw [List.length_map, hd_len, tag_len] at h1
      have := tri_45 hn
      omega
    · rintro i ρ hi ⟨T, x3, x4, x5, x6, rfl, b, hinv⟩ F hF
      have hT : T.length = js.length := by rw [b.len, tag_len]
      have tj : ∀ {m : Nat} (h : m < T.length), ((T.map jOf).map jD)[m]? = some (.tup [.int (T[m].1 : Int), .str (tx T[m].2.1)]) := fun h => by
        rw [List.getElem?_map, List.getElem?_map, List.getElem?_eq_getElem h]
        rfl
      have a0 : ∀ {x y : D}, atI [x, y] 0 = some x := fun {x y} => atI_get (i := 0) rfl
      have a1 : ∀ {x y : D}, atI [x, y] 1 = some y := fun {x y} => atI_get (i := 1) rfl
      walk_at "wps"
      refine wp_sq fun N2 hN2 => ?_
      walk_at "wps"
      refine hN2.nx _ ?_
      clear hN2 N2
      refine wp_sq fun N2 hN2 => ?_
      refine wp_forA ?_
      walk_at "wps"
      rw [List.length_map, List.length_map]
      refine ⟨⟨by omega, by omega⟩, ?_⟩
      refine wp_loopN (fun k ρ => ∃ (at' : Int) (x5 : LV), ρ = [.fz (.str s), .fz (.lst (js.map jD)), .os ((T.map jOf).map jD), .fz (.int (0 + (i : Int))), .fz (.int at'), x5, x6] ∧ ((at' = -1 ∧ ∀ m, m < k → ∀ h : m + 1 < T.length, T[m].1 < T[m + 1].1) ∨ ∃ m : Nat, at' = (m : Int) ∧ ∃ h : m + 1 < T.length, T[m + 1].1 ≤ T[m].1)) ⟨-1, _, rfl, Or.inl ⟨rfl, fun m hm => absurd hm (Nat.not_lt_zero _)⟩⟩ ?_ ?_
      · rintro q ρ hq ⟨at', x5, rfl, hat⟩ G hG
        have hq1 : q + 1 < T.length := by omega
        walk_at "wps"
        rcases hat with ⟨rfl, hat⟩ | ⟨m, rfl, hm, hat⟩
        · simp only [show decide ((-1 : Int) < 0) = true from rfl, show (0 : Int) + (q : Int) = (q : Int) by omega, show (q : Int) + 1 = ((q + 1 : Nat) : Int) by omega, atI_get (tj hq1), atI_get (tj (show q < T.length by omega)), a0, wp_ret, wp_need, wp_pick, wp_exc, wp_bad, wp_bindE, wp_trE, wp_noexE, opt_some, opt_none, toDs_nil, toDs_cons, toD_fz, toD_os, toD_ol, toD_ok, sSet, sIf, sRet, sRetV, sRetN, sExpr, sBrk, sCont, sFrz, sNil, setS, sUnp, sFldM, sRaise, sApp, sExt, sItem, popM, sPop, sPopTo, sSlice, sAug, mC, mVar, m2, m1, tVal, tTru, tAndM, tOrM, tNotM, mAnd, mOr, mNot, mIf, maNil, maCons, frz, mTup, mLst, mLstN, mSl, oNone, oSome, mRevL, mRevS, mCB, mCall, mCallB, mMeth, mFld, mProp, mMake, mChain, mLc, tYesM, lcF, gN, gAll, gT, iSeq, iRange1, iRange2, iEnumLM, iEnumTM, iZipLM, iterD, listF, wipeL, truth, flatR, unb, brw, owns, fI2, fSub, fNeg, fAdd, fMul, fEq_i, fEq_s, fEq_b, fCmp, fIsN, Dn.isNon, fIx, fSl, fLen, fList, fTuple, fInt, fStr, fAbs, fMax2, fMin2, isiD, mIsi, mFmt, mJs, mM1, mM0, fSplit, fPart, fFind, fStarts, eqK, peek, listD, seqD, nestD, mLenO, mAbsO, mIxO, iOwn, sTryAs, setX, endX, mXv, mIsX, gNilM, gLift, gYield, gFrom, mListG0, mListG, List.map_cons, List.map_nil, List.length_cons, List.length_nil, List.replicate, List.cons_append, List.nil_append, List.append_nil, List.getElem?_cons_zero, List.getElem?_cons_succ, List.getElem?_nil, List.set_cons_zero, List.set_cons_succ, List.set_nil, Nat.reduceAdd, Nat.reduceSub, Nat.add_zero, Nat.zero_add, Nat.sub_self, Nat.sub_zero, Bool.not_true, Bool.not_false, if_true, if_false, decide_true, decide_false, Bool.true_and, Bool.and_true, Bool.false_and, Bool.and_false, Bool.or_true, Bool.true_or, Bool.false_or, Bool.or_false, String.reduceBEq, reduceIte, Bool.false_eq_true, true_and, and_true, Option.map_some, Option.map_none, Option.bind_some, Option.bind_none]
          by_cases c : T[q + 1].1 ≤ T[q].1
          · have c' : ((T[q + 1].1 : Nat) : Int) ≤ ((T[q].1 : Nat) : Int) := by omega
            simp only [c', wp_ret, wp_need, wp_pick, wp_exc, wp_bad, wp_bindE, wp_trE, wp_noexE, opt_some, opt_none, toDs_nil, toDs_cons, toD_fz, toD_os, toD_ol, toD_ok, sSet, sIf, sRet, sRetV, sRetN, sExpr, sBrk, sCont, sFrz, sNil, setS, sUnp, sFldM, sRaise, sApp, sExt, sItem, popM, sPop, sPopTo, sSlice, sAug, mC, mVar, m2, m1, tVal, tTru, tAndM, tOrM, tNotM, mAnd, mOr, mNot, mIf, maNil, maCons, frz, mTup, mLst, mLstN, mSl, oNone, oSome, mRevL, mRevS, mCB, mCall, mCallB, mMeth, mFld, mProp, mMake, mChain, mLc, tYesM, lcF, gN, gAll, gT, iSeq, iRange1, iRange2, iEnumLM, iEnumTM, iZipLM, iterD, listF, wipeL, truth, flatR, unb, brw, owns, fI2, fSub, fNeg, fAdd, fMul, fEq_i, fEq_s, fEq_b, fCmp, fIsN, Dn.isNon, fIx, fSl, fLen, fList, fTuple, fInt, fStr, fAbs, fMax2, fMin2, isiD, mIsi, mFmt, mJs, mM1, mM0, fSplit, fPart, fFind, fStarts, eqK, peek, listD, seqD, nestD, mLenO, mAbsO, mIxO, iOwn, sTryAs, setX, endX, mXv, mIsX, gNilM, gLift, gYield, gFrom, mListG0, mListG, List.map_cons, List.map_nil, List.length_cons, List.length_nil, List.replicate, List.cons_append, List.nil_append, List.append_nil, List.getElem?_cons_zero, List.getElem?_cons_succ, List.getElem?_nil, List.set_cons_zero, List.set_cons_succ, List.set_nil, Nat.reduceAdd, Nat.reduceSub, Nat.add_zero, Nat.zero_add, Nat.sub_self, Nat.sub_zero, Bool.not_true, Bool.not_false, if_true, if_false, decide_true, decide_false, Bool.true_and, Bool.and_true, Bool.false_and, Bool.and_false, Bool.or_true, Bool.true_or, Bool.false_or, Bool.or_false, String.reduceBEq, reduceIte, Bool.false_eq_true, true_and, and_true, Option.map_some, Option.map_none, Option.bind_some, Option.bind_none]
            exact hG.nx _ ⟨_, _, rfl, Or.inr ⟨q, rfl, hq1, c⟩⟩
          · have c' : ¬ ((T[q + 1].1 : Nat) : Int) ≤ ((T[q].1 : Nat) : Int) := by omega
            simp only [c', wp_ret, wp_need, wp_pick, wp_exc, wp_bad, wp_bindE, wp_trE, wp_noexE, opt_some, opt_none, toDs_nil, toDs_cons, toD_fz, toD_os, toD_ol, toD_ok, sSet, sIf, sRet, sRetV, sRetN, sExpr, sBrk, sCont, sFrz, sNil, setS, sUnp, sFldM, sRaise, sApp, sExt, sItem, popM, sPop, sPopTo, sSlice, sAug, mC, mVar, m2, m1, tVal, tTru, tAndM, tOrM, tNotM, mAnd, mOr, mNot, mIf, maNil, maCons, frz, mTup, mLst, mLstN, mSl, oNone, oSome, mRevL, mRevS, mCB, mCall, mCallB, mMeth, mFld, mProp, mMake, mChain, mLc, tYesM, lcF, gN, gAll, gT, iSeq, iRange1, iRange2, iEnumLM, iEnumTM, iZipLM, iterD, listF, wipeL, truth, flatR, unb, brw, owns, fI2, fSub, fNeg, fAdd, fMul, fEq_i, fEq_s, fEq_b, fCmp, fIsN, Dn.isNon, fIx, fSl, fLen, fList, fTuple, fInt, fStr, fAbs, fMax2, fMin2, isiD, mIsi, mFmt, mJs, mM1, mM0, fSplit, fPart, fFind, fStarts, eqK, peek, listD, seqD, nestD, mLenO, mAbsO, mIxO, iOwn, sTryAs, setX, endX, mXv, mIsX, gNilM, gLift, gYield, gFrom, mListG0, mListG, List.map_cons, List.map_nil, List.length_cons, List.length_nil, List.replicate, List.cons_append, List.nil_append, List.append_nil, List.getElem?_cons_zero, List.getElem?_cons_succ, List.getElem?_nil, List.set_cons_zero, List.set_cons_succ, List.set_nil, Nat.reduceAdd, Nat.reduceSub, Nat.add_zero, Nat.zero_add, Nat.sub_self, Nat.sub_zero, Bool.not_true, Bool.not_false, if_true, if_false, decide_true, decide_false, Bool.true_and, Bool.and_true, Bool.false_and, Bool.and_false, Bool.or_true, Bool.true_or, Bool.false_or, Bool.or_false, String.reduceBEq, reduceIte, Bool.false_eq_true, true_and, and_true, Option.map_some, Option.map_none, Option.bind_some, Option.bind_none]
            refine hG.nx _ ⟨_, _, rfl, Or.inl ⟨rfl, fun m hm h => ?_⟩⟩
            by_cases e : m = q
            · subst e
              omega
            · exact hat m (by omega) h
        · have c : ¬ ((m : Int) < 0) := by omega
          simp only [c, wp_ret, wp_need, wp_pick, wp_exc, wp_bad, wp_bindE, wp_trE, wp_noexE, opt_some, opt_none, toDs_nil, toDs_cons, toD_fz, toD_os, toD_ol, toD_ok, sSet, sIf, sRet, sRetV, sRetN, sExpr, sBrk, sCont, sFrz, sNil, setS, sUnp, sFldM, sRaise, sApp, sExt, sItem, popM, sPop, sPopTo, sSlice, sAug, mC, mVar, m2, m1, tVal, tTru, tAndM, tOrM, tNotM, mAnd, mOr, mNot, mIf, maNil, maCons, frz, mTup, mLst, mLstN, mSl, oNone, oSome, mRevL, mRevS, mCB, mCall, mCallB, mMeth, mFld, mProp, mMake, mChain, mLc, tYesM, lcF, gN, gAll, gT, iSeq, iRange1, iRange2, iEnumLM, iEnumTM, iZipLM, iterD, listF, wipeL, truth, flatR, unb, brw, owns, fI2, fSub, fNeg, fAdd, fMul, fEq_i, fEq_s, fEq_b, fCmp, fIsN, Dn.isNon, fIx, fSl, fLen, fList, fTuple, fInt, fStr, fAbs, fMax2, fMin2, isiD, mIsi, mFmt, mJs, mM1, mM0, fSplit, fPart, fFind, fStarts, eqK, peek, listD, seqD, nestD, mLenO, mAbsO, mIxO, iOwn, sTryAs, setX, endX, mXv, mIsX, gNilM, gLift, gYield, gFrom, mListG0, mListG, List.map_cons, List.map_nil, List.length_cons, List.length_nil, List.replicate, List.cons_append, List.nil_append, List.append_nil, List.getElem?_cons_zero, List.getElem?_cons_succ, List.getElem?_nil, List.set_cons_zero, List.set_cons_succ, List.set_nil, Nat.reduceAdd, Nat.reduceSub, Nat.add_zero, Nat.zero_add, Nat.sub_self, Nat.sub_zero, Bool.not_true, Bool.not_false, if_true, if_false, decide_true, decide_false, Bool.true_and, Bool.and_true, Bool.false_and, Bool.and_false, Bool.or_true, Bool.true_or, Bool.false_or, Bool.or_false, String.reduceBEq, reduceIte, Bool.false_eq_true, true_and, and_true, Option.map_some, Option.map_none, Option.bind_some, Option.bind_none]
          exact hG.nx _ ⟨_, _, rfl, Or.inr ⟨m, rfl, hm, hat⟩⟩
      · rintro ρ ⟨at', x5, rfl, hat⟩
        refine hN2.nx _ ?_
        clear hN2 N2
        refine wp_sq fun N2 hN2 => ?_
        rcases hat with ⟨rfl, hat⟩ | ⟨m, rfl, hm, hat⟩
        · simp only [show decide ((-1 : Int) < 0) = true from rfl, wp_ret, wp_need, wp_pick, wp_exc, wp_bad, wp_bindE, wp_trE, wp_noexE, opt_some, opt_none, toDs_nil, toDs_cons, toD_fz, toD_os, toD_ol, toD_ok, sSet, sIf, sRet, sRetV, sRetN, sExpr, sBrk, sCont, sFrz, sNil, setS, sUnp, sFldM, sRaise, sApp, sExt, sItem, popM, sPop, sPopTo, sSlice, sAug, mC, mVar, m2, m1, tVal, tTru, tAndM, tOrM, tNotM, mAnd, mOr, mNot, mIf, maNil, maCons, frz, mTup, mLst, mLstN, mSl, oNone, oSome, mRevL, mRevS, mCB, mCall, mCallB, mMeth, mFld, mProp, mMake, mChain, mLc, tYesM, lcF, gN, gAll, gT, iSeq, iRange1, iRange2, iEnumLM, iEnumTM, iZipLM, iterD, listF, wipeL, truth, flatR, unb, brw, owns, fI2, fSub, fNeg, fAdd, fMul, fEq_i, fEq_s, fEq_b, fCmp, fIsN, Dn.isNon, fIx, fSl, fLen, fList, fTuple, fInt, fStr, fAbs, fMax2, fMin2, isiD, mIsi, mFmt, mJs, mM1, mM0, fSplit, fPart, fFind, fStarts, eqK, peek, listD, seqD, nestD, mLenO, mAbsO, mIxO, iOwn, sTryAs, setX, endX, mXv, mIsX, gNilM, gLift, gYield, gFrom, mListG0, mListG, List.map_cons, List.map_nil, List.length_cons, List.length_nil, List.replicate, List.cons_append, List.nil_append, List.append_nil, List.getElem?_cons_zero, List.getElem?_cons_succ, List.getElem?_nil, List.set_cons_zero, List.set_cons_succ, List.set_nil, Nat.reduceAdd, Nat.reduceSub, Nat.add_zero, Nat.zero_add, Nat.sub_self, Nat.sub_zero, Bool.not_true, Bool.not_false, if_true, if_false, decide_true, decide_false, Bool.true_and, Bool.and_true, Bool.false_and, Bool.and_false, Bool.or_true, Bool.true_or, Bool.false_or, Bool.or_false, String.reduceBEq, reduceIte, Bool.false_eq_true, true_and, and_true, Option.map_some, Option.map_none, Option.bind_some, Option.bind_none]
          have hasc : Asc T := asc_of fun m h => hat m (by omega) h
          rw [b.due hp hasc] at k
          exact hN2.rt _ (hF.rt _ (hN.rt _ (hR.rt _ rfl k)))
        · have c : ¬ ((m : Int) < 0) := by omega
          simp only [c, wp_ret, wp_need, wp_pick, wp_exc, wp_bad, wp_bindE, wp_trE, wp_noexE, opt_some, opt_none, toDs_nil, toDs_cons, toD_fz, toD_os, toD_ol, toD_ok, sSet, sIf, sRet, sRetV, sRetN, sExpr, sBrk, sCont, sFrz, sNil, setS, sUnp, sFldM, sRaise, sApp, sExt, sItem, popM, sPop, sPopTo, sSlice, sAug, mC, mVar, m2, m1, tVal, tTru, tAndM, tOrM, tNotM, mAnd, mOr, mNot, mIf, maNil, maCons, frz, mTup, mLst, mLstN, mSl, oNone, oSome, mRevL, mRevS, mCB, mCall, mCallB, mMeth, mFld, mProp, mMake, mChain, mLc, tYesM, lcF, gN, gAll, gT, iSeq, iRange1, iRange2, iEnumLM, iEnumTM, iZipLM, iterD, listF, wipeL, truth, flatR, unb, brw, owns, fI2, fSub, fNeg, fAdd, fMul, fEq_i, fEq_s, fEq_b, fCmp, fIsN, Dn.isNon, fIx, fSl, fLen, fList, fTuple, fInt, fStr, fAbs, fMax2, fMin2, isiD, mIsi, mFmt, mJs, mM1, mM0, fSplit, fPart, fFind, fStarts, eqK, peek, listD, seqD, nestD, mLenO, mAbsO, mIxO, iOwn, sTryAs, setX, endX, mXv, mIsX, gNilM, gLift, gYield, gFrom, mListG0, mListG, List.map_cons, List.map_nil, List.length_cons, List.length_nil, List.replicate, List.cons_append, List.nil_append, List.append_nil, List.getElem?_cons_zero, List.getElem?_cons_succ, List.getElem?_nil, List.set_cons_zero, List.set_cons_succ, List.set_nil, Nat.reduceAdd, Nat.reduceSub, Nat.add_zero, Nat.zero_add, Nat.sub_self, Nat.sub_zero, Bool.not_true, Bool.not_false, if_true, if_false, decide_true, decide_false, Bool.true_and, Bool.and_true, Bool.false_and, Bool.and_false, Bool.or_true, Bool.true_or, Bool.false_or, Bool.or_false, String.reduceBEq, reduceIte, Bool.false_eq_true, true_and, and_true, Option.map_some, Option.map_none, Option.bind_some, Option.bind_none]
          refine hN2.nx _ ?_
          clear hN2 N2
          walk_at "wps"
          have hpT := b.row hp
          have sT := bub_small hs b (w := w)
          obtain ⟨row, r1, r2, r3⟩ := rowsOf_get hpT (i := m) (by rw [List.length_map]; omega)
          have r4 := rows_sgn hpT hsg row (List.mem_of_getElem? r1)
          have hd1 : (T.map jOf).drop m = jOf T[m] :: jOf T[m + 1] :: (T.map jOf).drop (m + 2) := by
            rw [List.drop_eq_getElem_cons (by rw [List.length_map]; omega), List.drop_eq_getElem_cons (by rw [List.length_map]; omega), List.getElem_map, List.getElem_map]
          rw [hd1] at r2
          unfold jOf at r2
          obtain ⟨g0, g1, gu, r2⟩ := play_row r2
          obtain ⟨h0, h1, gv, r2⟩ := play_row r2
          rw [ins_len g0 g1] at h1
          refine wp_sq fun N2 hN2 => ?_
          walk_at "wps"
          refine played_wp hpT sT ?_
          simp only [atI_get (show ((rowsOf s (T.map jOf)).map D.str)[m]? = some (.str row) from by rw [List.getElem?_map, r1]; rfl), atI_get (tj (show m < T.length by omega)), show (m : Int) + 1 = ((m + 1 : Nat) : Int) by omega, atI_get (tj hm), wp_ret, wp_need, wp_pick, wp_exc, wp_bad, wp_bindE, wp_trE, wp_noexE, opt_some, opt_none, toDs_nil, toDs_cons, toD_fz, toD_os, toD_ol, toD_ok, sSet, sIf, sRet, sRetV, sRetN, sExpr, sBrk, sCont, sFrz, sNil, setS, sUnp, sFldM, sRaise, sApp, sExt, sItem, popM, sPop, sPopTo, sSlice, sAug, mC, mVar, m2, m1, tVal, tTru, tAndM, tOrM, tNotM, mAnd, mOr, mNot, mIf, maNil, maCons, frz, mTup, mLst, mLstN, mSl, oNone, oSome, mRevL, mRevS, mCB, mCall, mCallB, mMeth, mFld, mProp, mMake, mChain, mLc, tYesM, lcF, gN, gAll, gT, iSeq, iRange1, iRange2, iEnumLM, iEnumTM, iZipLM, iterD, listF, wipeL, truth, flatR, unb, brw, owns, fI2, fSub, fNeg, fAdd, fMul, fEq_i, fEq_s, fEq_b, fCmp, fIsN, Dn.isNon, fIx, fSl, fLen, fList, fTuple, fInt, fStr, fAbs, fMax2, fMin2, isiD, mIsi, mFmt, mJs, mM1, mM0, fSplit, fPart, fFind, fStarts, eqK, peek, listD, seqD, nestD, mLenO, mAbsO, mIxO, iOwn, sTryAs, setX, endX, mXv, mIsX, gNilM, gLift, gYield, gFrom, mListG0, mListG, List.map_cons, List.map_nil, List.length_cons, List.length_nil, List.replicate, List.cons_append, List.nil_append, List.append_nil, List.getElem?_cons_zero, List.getElem?_cons_succ, List.getElem?_nil, List.set_cons_zero, List.set_cons_succ, List.set_nil, Nat.reduceAdd, Nat.reduceSub, Nat.add_zero, Nat.zero_add, Nat.sub_self, Nat.sub_zero, Bool.not_true, Bool.not_false, if_true, if_false, decide_true, decide_false, Bool.true_and, Bool.and_true, Bool.false_and, Bool.and_false, Bool.or_true, Bool.true_or, Bool.false_or, Bool.or_false, String.reduceBEq, reduceIte, Bool.false_eq_true, true_and, and_true, Option.map_some, Option.map_none, Option.bind_some, Option.bind_none]
          refine exchange_wp (a := ((T[m].1 : Int), tx T[m].2.1)) (b := ((T[m + 1].1 : Int), tx T[m + 1].2.1)) ⟨by omega, r4, gu, gv, sT.z _ (List.mem_map.mpr ⟨_, List.getElem_mem (show m < T.length by omega), rfl⟩), sT.z _ (List.mem_map.mpr ⟨_, List.getElem_mem hm, rfl⟩), g0, g1, h0, by simp only; omega⟩ ?_
          unfold exF
          rw [if_pos (by simp only; omega)]
          unfold exL
          walk_at "wps"
          refine hN2.nx _ ?_
          clear hN2 N2
          refine wp_sq fun N2 hN2 => ?_
          walk_at "wps"
          refine fIsB_none rfl ?_
          walk_at "wps"
          refine hN2.nx _ ?_
          clear hN2 N2
          simp only [jD_mk, a0, a1, show (m : Int) + 2 = ((m + 2 : Nat) : Int) by omega, cutD_to, cutD_from, wp_ret, wp_need, wp_pick, wp_exc, wp_bad, wp_bindE, wp_trE, wp_noexE, opt_some, opt_none, toDs_nil, toDs_cons, toD_fz, toD_os, toD_ol, toD_ok, sSet, sIf, sRet, sRetV, sRetN, sExpr, sBrk, sCont, sFrz, sNil, setS, sUnp, sFldM, sRaise, sApp, sExt, sItem, popM, sPop, sPopTo, sSlice, sAug, mC, mVar, m2, m1, tVal, tTru, tAndM, tOrM, tNotM, mAnd, mOr, mNot, mIf, maNil, maCons, frz, mTup, mLst, mLstN, mSl, oNone, oSome, mRevL, mRevS, mCB, mCall, mCallB, mMeth, mFld, mProp, mMake, mChain, mLc, tYesM, lcF, gN, gAll, gT, iSeq, iRange1, iRange2, iEnumLM, iEnumTM, iZipLM, iterD, listF, wipeL, truth, flatR, unb, brw, owns, fI2, fSub, fNeg, fAdd, fMul, fEq_i, fEq_s, fEq_b, fCmp, fIsN, Dn.isNon, fIx, fSl, fLen, fList, fTuple, fInt, fStr, fAbs, fMax2, fMin2, isiD, mIsi, mFmt, mJs, mM1, mM0, fSplit, fPart, fFind, fStarts, eqK, peek, listD, seqD, nestD, mLenO, mAbsO, mIxO, iOwn, sTryAs, setX, endX, mXv, mIsX, gNilM, gLift, gYield, gFrom, mListG0, mListG, List.map_cons, List.map_nil, List.length_cons, List.length_nil, List.replicate, List.cons_append, List.nil_append, List.append_nil, List.getElem?_cons_zero, List.getElem?_cons_succ, List.getElem?_nil, List.set_cons_zero, List.set_cons_succ, List.set_nil, Nat.reduceAdd, Nat.reduceSub, Nat.add_zero, Nat.zero_add, Nat.sub_self, Nat.sub_zero, Bool.not_true, Bool.not_false, if_true, if_false, decide_true, decide_false, Bool.true_and, Bool.and_true, Bool.false_and, Bool.and_false, Bool.or_true, Bool.true_or, Bool.false_or, Bool.or_false, String.reduceBEq, reduceIte, Bool.false_eq_true, true_and, and_true, Option.map_some, Option.map_none, Option.bind_some, Option.bind_none]
          have st := stp_at hm hat
          have e1 : ((T.map jOf).map jD).take m ++ [D.tup [D.int (T[m + 1].1 : Int), D.str (tx T[m + 1].2.1)], D.tup [D.int ((T[m].1 : Int) + ((tx T[m + 1].2.1).length : Int)), D.str (tx T[m].2.1)]] ++ ((T.map jOf).map jD).drop (m + 2) = ((swapAt T m T[m] T[m + 1]).map jOf).map jD := by
            rw [swap_jOf, List.map_append, List.map_append, List.map_take, List.map_drop]
            rfl
          have e2 := st.invs (b.ok hok)
          rw [e1]
          simp only [List.length_take, List.length_append, List.length_drop, List.length_map, List.length_cons, List.length_nil]
          exact ⟨by decide, by omega, by omega, hF.nx _ ⟨swapAt T m T[m] T[m + 1], _, _, _, _, rfl, .snoc b st, by omega⟩⟩
    · rintro ρ ⟨T, x3, x4, x5, x6, rfl, b, hinv⟩
      omega
  · exact badE h
end
end Q07
end

section
set_option Elab.async false
set_option linter.all false
set_option maxRecDepth 100000
set_option maxHeartbeats 1000000
namespace Q07
open PySem PySem.Spec PyProof.Rows L2 Evl GrO Dn
local macro_rules | `(tactic| walk_at "wps") => `(tactic| simp only [wp_ret, wp_need, wp_pick, wp_exc, wp_bad, wp_bindE, wp_trE, wp_noexE, opt_some, opt_none, toDs_nil, toDs_cons, toD_fz, toD_os, toD_ol, toD_ok, sSet, sIf, sRet, sRetV, sRetN, sExpr, sBrk, sCont, sFrz, sNil, setS, sUnp, sFldM, sRaise, sApp, sExt, sItem, popM, sPop, sPopTo, sSlice, sAug, mC, mVar, m2, m1, tVal, tTru, tAndM, tOrM, tNotM, mAnd, mOr, mNot, mIf, maNil, maCons, frz, mTup, mLst, mLstN, mSl, oNone, oSome, mRevL, mRevS, mCB, mCall, mCallB, mMeth, mFld, mProp, mMake, mChain, mLc, tYesM, lcF, gN, gAll, gT, iSeq, iRange1, iRange2, iEnumLM, iEnumTM, iZipLM, iterD, listF, wipeL, truth, flatR, unb, brw, owns, fI2, fSub, fNeg, fAdd, fMul, fEq_i, fEq_s, fEq_b, fCmp, fIsN, Dn.isNon, fIx, fSl, fLen, fList, fTuple, fInt, fStr, fAbs, fMax2, fMin2, isiD, mIsi, mFmt, mJs, mM1, mM0, fSplit, fPart, fFind, fStarts, eqK, peek, listD, seqD, nestD, mLenO, mAbsO, mIxO, iOwn, sTryAs, setX, endX, mXv, mIsX, gNilM, gLift, gYield, gFrom, mListG0, mListG, List.map_cons, List.map_nil, List.length_cons, List.length_nil, List.replicate, List.cons_append, List.nil_append, List.append_nil, List.getElem?_cons_zero, List.getElem?_cons_succ, List.getElem?_nil, List.set_cons_zero, List.set_cons_succ, List.set_nil, Nat.reduceAdd, Nat.reduceSub, Nat.add_zero, Nat.zero_add, Nat.sub_self, Nat.sub_zero, Bool.not_true, Bool.not_false, if_true, if_false, decide_true, decide_false, Bool.true_and, Bool.and_true, Bool.false_and, Bool.and_false, Bool.or_true, Bool.true_or, Bool.false_or, Bool.or_false, String.reduceBEq, reduceIte, Bool.false_eq_true, true_and, and_true, Option.map_some, Option.map_none, Option.bind_some, Option.bind_none])
noncomputable section
theorem join_one {l : List Nat} : Txt.join (Str.ofString "") (l.map fun c => (⟨#[c]⟩ : Str)) = tx l := by
  refine str_ext ?_
  have h := TL.tl_join (Str.ofString "") (l.map fun c => (⟨#[c]⟩ : Str))
  rw [← TL.join_eq] at h
  have go : ∀ l : List Nat, TL.joinL [] (l.map fun c => [c]) = l := by
    intro l
    induction l with
    | nil => rfl
    | cons a r ih =>
      cases r with
      | nil => rfl
      | cons b r =>
        show [a] ++ ([] ++ TL.joinL [] ((b :: r).map fun c => [c])) = _
        rw [ih]
        rfl
  rw [List.map_map] at h
  exact h.trans (go l)
theorem headP_range {l : List (Nat × Nat)} {G : D → M (Option D)} {P : List D → Prop} {E : Nat → D → Prop} (hl : l.length ≤ 90000) (hg : ∀ (i : Nat) (x : Nat × Nat), l[i]? = some x → ∀ Q : Option D → Prop, Q (if 0 < x.1 ∧ x.2 = 1 then some (.int (i : Int)) else none) → (G (.int (0 + (i : Int)))).wp Q E) (q : P ((headP 0 l).map fun x => .int (x.1 : Int))) : (lcM G (rangeD 0 l.length) []).wp P E := by
  refine wp_lcM (fun i out => out = (headP 0 (l.take i)).map fun x => D.int (x.1 : Int)) rfl (fun out h => ?_) (fun i d out hd h => ?_)
  · subst h
    unfold rangeD
    rw [List.length_map, List.length_range, List.take_length]
    exact q
  · unfold rangeD at hd
    rw [List.getElem?_map] at hd
    obtain ⟨k, hk, rfl⟩ := Option.map_eq_some_iff.mp hd
    have hi := (List.getElem?_eq_some_iff.mp hk).1
    rw [List.length_range] at hi
    rw [List.getElem?_range hi] at hk
    cases hk
    have hx := List.getElem?_eq_getElem hi
    refine hg i _ hx _ ?_
    have htk : l.take (i + 1) = l.take i ++ [l[i]] := by rw [List.take_add_one, hx]; rfl
    have htl : (l.take i).length = i := by rw [List.length_take]; omega
    have hsn := headP_snoc (l := l.take i) (k := 0) (x := l[i])
    rw [← htk, htl, Nat.zero_add] at hsn
    have hle := headP_len (l := l.take i) (k := 0)
    subst h
    by_cases c : 0 < l[i].1 ∧ l[i].2 = 1
    · rw [if_pos c] at hsn ⊢
      refine ⟨by rw [List.length_map]; omega, ?_⟩
      rw [hsn, List.map_append]
      rfl
    · rw [if_neg c] at hsn ⊢
      show _ = _
      rw [hsn, List.append_nil]
theorem heads_nodup {s w : Str} {js : List (Int × Str)} (h : play s js = .row w) : ((heads s js).map fun q => q.2).Nodup := by
  obtain ⟨T, b, ha⟩ := due_ex h
  rw [b.heads h ha, List.map_map]
  have h1 : (T.map fun t => t.2.2).Perm ((tagF 0 js).map fun t => t.2.2) := by
    have := b.tl.map (fun t => t.2)
    rw [List.map_map, List.map_map] at this
    exact this
  have h2 : ((tagF 0 js).map fun t => t.2.2).Nodup := by
    rw [tag_names]
    unfold List.Nodup
    rw [List.pairwise_map]
    exact List.Pairwise.imp (fun {a b} (h : a < b) => by omega) List.pairwise_lt_range
  exact h1.nodup_iff.mpr h2
theorem heads_at {s w : Str} {js : List (Int × Str)} (h : play s js = .row w) {k : Nat} {q : Nat × Nat} (hk : (heads s js)[k]? = some q) : 1 ≤ q.2 ∧ q.2 ≤ js.length ∧ ∃ c, (lineL s js)[q.1]? = some (q.2, 1, c) := by
  obtain ⟨p, o⟩ := q
  have := List.mem_of_getElem? hk
  unfold heads at this
  obtain ⟨h0, i, h1, h2⟩ := headP_mem.mp this
  rw [Nat.zero_add] at h2
  subst h2
  rw [← lineL_pr, List.getElem?_map] at h1
  obtain ⟨⟨a, b, c⟩, h3, h4⟩ := Option.map_eq_some_iff.mp h1
  unfold prOf at h4
  injection h4 with e1 e2
  simp only at e1 e2
  subst e1 e2
  exact ⟨h0, lineL_own _ (List.mem_of_getElem? h3), c, h3⟩
theorem heads_len {s w : Str} {js : List (Int × Str)} (h : play s js = .row w) : (heads s js).length = js.length := by
  have := due_len h
  unfold due at this
  rwa [List.length_map] at this
theorem due_asc {s w : Str} {js : List (Int × Str)} (h : play s js = .row w) : (due s js).Pairwise fun a b => a.1 < b.1 := by
  unfold due
  rw [List.pairwise_map]
  exact List.Pairwise.imp (fun {a b} (h : a.1 < b.1) => by show (a.1 : Int) < (b.1 : Int); omega) headP_asc
theorem due_pos {s : Str} {js : List (Int × Str)} : ∀ j ∈ due s js, 0 ≤ j.1 := fun j hj => by
  obtain ⟨q, _, rfl⟩ := List.mem_map.mp hj
  show (0 : Int) ≤ (q.1 : Int)
  omega
theorem jD_pl {j : Int × Str} (h : Sgn j.2) : Pl 1 (jD j) := fun d hd => by
  simp only [List.mem_cons, List.not_mem_nil, or_false] at hd
  rcases hd with rfl | rfl
  · exact Pl.int
  · exact Pl.str (strOk_of h)
theorem joins_pl {s w : Str} {js : List (Int × Str)} (h : play s js = .row w) : Pl 2 (.lst (js.map jD)) := fun d hd => by
  obtain ⟨j, hj, rfl⟩ := List.mem_map.mp hd
  exact jD_pl (sgn_group (play_gap h j hj).2.2)
def fs_l_ordered : Fs := fun ds => match ds with
  | [.str s, .lst ds] => M.opt (joinsD ds) fun js => .need (∃ w, BubOk s w js) (.ret (.fz (.bl true)))
  | _ => .bad
theorem ordered_wp {s w : Str} {js : List (Int × Str)} {P : LV → Prop} {E : Nat → D → Prop} (h : BubOk s w js) (q : P (.fz (.bl true))) : (fs_l_ordered [.str s, .lst (js.map jD)]).wp P E := by
  unfold fs_l_ordered
  simp only
  rw [joinsD_map, opt_some]
  exact needI ⟨w, h⟩ (by rw [wp_ret]; exact q)
def m_l_ordered (kc : Nat → Option Bool) : Sm := (sSeq (sSet 2 (mMake 0 2 fs_Growth_init [] (maCons (mVar 0) (maCons (mCB fList (maCons (mVar 1) maNil)) maNil)))) (sSeq (sSet 3 (mCall 2 fs_l_line (maCons (mVar 0) (maCons (mVar 1) maNil)))) (sSeq (sSet 5 (mLc (iRange1 (mCB fLen (maCons (mVar 3) maNil))) (gN 4) (tAndM (tVal (m2 fGt (m2 fIx (m2 fIx (mVar 3) (mVar 4)) (mC (D.int 0))) (mC (D.int 0)))) (tVal (m2 (fEq false) (m2 fIx (m2 fIx (mVar 3) (mVar 4)) (mC (D.int 1))) (mC (D.int 1))))) (mVar 4) [4])) (sFrz 5 (sSeq (sSet 6 (mLc (iSeq (mVar 5)) (gN 4) tYesM (mTup (maCons (mVar 4) (maCons (m2 fIx (m2 fIx (mVar 1) (m2 fSub (m2 fIx (m2 fIx (mVar 3) (mVar 4)) (mC (D.int 0))) (mC (D.int 1)))) (mC (D.int 1))) maNil))) [4])) (sSeq (sSet 7 (mCall 1 fs_in_order (maCons (mVar 2) maNil))) (sSeq (sIf (tOrM (tNotM (tVal (mIsC kc (mVar 7)))) (tNotM (tVal (mCallB 2 fs_l_same (maCons (mTup (maCons (mFld 0 0 (mVar 7)) (maCons (mFld 0 1 (mVar 7)) maNil))) (maCons (mTup (maCons (mVar 0) (maCons (mCB fTuple (maCons (mVar 6) maNil)) maNil))) maNil)))))) (sRet (mC (D.bl false))) sNil) (sFrz 3 (sSeq (sIf (tOrM (tNotM (tVal (mCallB 2 fs_l_same (maCons (mProp 0 fs_Growth_row (mVar 7)) (maCons (mProp 0 fs_Growth_row (mVar 2)) maNil))))) (tNotM (tVal (mCallB 2 fs_l_same (maCons (mProp 0 fs_Growth_row (mVar 7)) (maCons (mM1 fJoin (mC (D.str (Str.ofString ""))) (mLc (iSeq (mVar 3)) (gN 10) tYesM (m2 fIx (mVar 10) (mC (D.int 2))) [10])) maNil)))))) (sRet (mC (D.bl false))) sNil) (sSeq (sIf (tOrM (tVal (m2 (fEq true) (mCall 2 fs_l_bubbled (maCons (mVar 0) (maCons (mVar 1) maNil))) (mVar 6))) (tNotM (tVal (mCall 1 fs_l_in_order (maCons (mVar 7) maNil))))) (sRet (mC (D.bl false))) sNil) (sSeq (sSet 8 (m2 fAdd (mLst (maCons (mC (D.int 0)) maNil)) (mLc (iSeq (mVar 1)) (gN 11) tYesM (mC (D.int 0)) [11]))) (sSeq (sFor (iRange1 (mCB fLen (maCons (mVar 5) maNil))) (gN 4) (sItem 8 (m2 fIx (m2 fIx (mVar 3) (m2 fIx (mVar 5) (mVar 4))) (mC (D.int 0))) (m2 fAdd (mVar 4) (mC (D.int 1))))) (sFrz 3 (sSeq (sSet 9 (mLc (iSeq (mVar 3)) (gN 10) tYesM (mTup (maCons (m2 fIx (mVar 8) (m2 fIx (mVar 10) (mC (D.int 0)))) (maCons (m2 fIx (mVar 10) (mC (D.int 1))) maNil))) [10])) (sSeq (sIf (tOrM (tNotM (tVal (mCallB 2 fs_l_same (maCons (mMeth 0 1 fs_Growth_owners (mVar 7) maNil) (maCons (mVar 9) maNil))))) (tNotM (tVal (mCallB 2 fs_l_same (maCons (mFld 0 1 (mCall 1 fs_in_order (maCons (mVar 7) maNil))) (maCons (mCB fTuple (maCons (mVar 6) maNil)) maNil)))))) (sRet (mC (D.bl false))) sNil) (sRet (mCallB 2 fs_l_same (maCons (mTup (maCons (mFld 0 0 (mVar 2)) (maCons (mFld 0 1 (mVar 2)) maNil))) (maCons (mTup (maCons (mVar 0) (maCons (mCB fTuple (maCons (mVar 1) maNil)) maNil))) maNil)))))))))))))))))))
theorem ref_l_ordered {kc : Nat → Option Bool} (hkc : kc 0 = some true) {ds : List D} (hl : ds.length = 2) : Ref (runB (m_l_ordered kc) 12 ds) (fs_l_ordered ds) := by
  intro P E h
  unfold fs_l_ordered at h
  split at h
  · rename_i s ds
    obtain ⟨js, hj, k⟩ := M.wp_opt.mp h
    clear h
    obtain rfl := joinsD_of hj
    rw [wp_need, wp_ret] at k
    obtain ⟨⟨w, hB⟩, k⟩ := k
    have hB2 := hB
    obtain ⟨hp, hs, hn, hwl, hsg⟩ := hB2
    have hsum := hs.sum
    have hd := due_row hp
    have hds := due_small hs hp
    have hdl := due_len hp
    have hll := lineL_len hp
    have a0 : ∀ {x y : D}, atI [x, y] 0 = some x := fun {x y} => atI_get (i := 0) rfl
    have a1 : ∀ {x y : D}, atI [x, y] 1 = some y := fun {x y} => atI_get (i := 1) rfl
    have b0 : ∀ {x y z : D}, atI [x, y, z] 0 = some x := fun {x y z} => atI_get (i := 0) rfl
    have b1 : ∀ {x y z : D}, atI [x, y, z] 1 = some y := fun {x y z} => atI_get (i := 1) rfl
    have b2 : ∀ {x y z : D}, atI [x, y, z] 2 = some z := fun {x y z} => atI_get (i := 2) rfl
    have ln : ∀ {i : Nat} {x : Sg}, (lineL s js)[i]? = some x → atI ((lineL s js).map lnD) (i : Int) = some (.lst [.int (x.1 : Int), .int (x.2.1 : Int), .str ⟨#[x.2.2]⟩]) := fun h => atI_get (by rw [List.getElem?_map, h]; rfl)
    have td : ∀ {js : List (Int × Str)}, js.length ≤ 40 → Dat 3 (.tup [.str s, .tup (js.map jD)]) := fun h => ⟨(show 2 ≤ 100000 by decide), fun d hd => by
      simp only [List.mem_cons, List.not_mem_nil, or_false] at hd
      rcases hd with rfl | rfl
      · exact Dat.str
      · exact ⟨by rw [List.length_map]; omega, jD_dat⟩⟩
    refine wp_run fun R hR => ?_
    unfold m_l_ordered
    refine wp_sq fun N hN => ?_
    walk_at "wps"
    refine init_wp (.inl rfl) (hs.bnd hp) (fun x hx => ?_) (fun x hx => by rw [hp] at hx; cases hx) (fun x hx => by rw [hp] at hx; cases hx)
    have ex : w = x := by
      rw [hp] at hx
      exact Fate.row.inj hx
    subst ex
    try walk_at "wps"
    refine hN.nx _ ?_
    clear hN N
    refine wp_sq fun N hN => ?_
    walk_at "wps"
    refine line_wp (hs.plays hp) (by omega) ?_
    walk_at "wps"
    refine hN.nx _ ?_
    clear hN N
    -- the heads
    refine wp_sq fun N hN => ?_
    walk_at "wps"
    rw [List.length_map, show (lineL s js).length = (ownL s js).length from by rw [← lineL_pr, List.length_map]]
    have hol : (ownL s js).length = w.length := by rw [← lineL_pr, List.length_map, hll]
    refine ⟨⟨by omega, by omega⟩, ?_⟩
    rw [Int.toNat_natCast]
    refine headP_range (by omega) (fun i x hx Q q => ?_) ?_
    · rw [← lineL_pr, List.getElem?_map] at hx
      obtain ⟨⟨a, b, c⟩, h3, rfl⟩ := Option.map_eq_some_iff.mp hx
      unfold prOf at q
      simp only [show (0 : Int) + (i : Int) = (i : Int) by omega, ln h3, b0, b1, wp_ret, wp_need, wp_pick, wp_exc, wp_bad, wp_bindE, wp_trE, wp_noexE, opt_some, opt_none, toDs_nil, toDs_cons, toD_fz, toD_os, toD_ol, toD_ok, sSet, sIf, sRet, sRetV, sRetN, sExpr, sBrk, sCont, sFrz, sNil, setS, sUnp, sFldM, sRaise, sApp, sExt, sItem, popM, sPop, sPopTo, sSlice, sAug, mC, mVar, m2, m1, tVal, tTru, tAndM, tOrM, tNotM, mAnd, mOr, mNot, mIf, maNil, maCons, frz, mTup, mLst, mLstN, mSl, oNone, oSome, mRevL, mRevS, mCB, mCall, mCallB, mMeth, mFld, mProp, mMake, mChain, mLc, tYesM, lcF, gN, gAll, gT, iSeq, iRange1, iRange2, iEnumLM, iEnumTM, iZipLM, iterD, listF, wipeL, truth, flatR, unb, brw, owns, fI2, fSub, fNeg, fAdd, fMul, fEq_i, fEq_s, fEq_b, fCmp, fIsN, Dn.isNon, fIx, fSl, fLen, fList, fTuple, fInt, fStr, fAbs, fMax2, fMin2, isiD, mIsi, mFmt, mJs, mM1, mM0, fSplit, fPart, fFind, fStarts, eqK, peek, listD, seqD, nestD, mLenO, mAbsO, mIxO, iOwn, sTryAs, setX, endX, mXv, mIsX, gNilM, gLift, gYield, gFrom, mListG0, mListG, List.map_cons, List.map_nil, List.length_cons, List.length_nil, List.replicate, List.cons_append, List.nil_append, List.append_nil, List.getElem?_cons_zero, List.getElem?_cons_succ, List.getElem?_nil, List.set_cons_zero, List.set_cons_succ, List.set_nil, Nat.reduceAdd, Nat.reduceSub, Nat.add_zero, Nat.zero_add, Nat.sub_self, Nat.sub_zero, Bool.not_true, Bool.not_false, if_true, if_false, decide_true, decide_false, Bool.true_and, Bool.and_true, Bool.false_and, Bool.and_false, Bool.or_true, Bool.true_or, Bool.false_or, Bool.or_false, String.reduceBEq, reduceIte, Bool.false_eq_true, true_and, and_true, Option.map_some, Option.map_none, Option.bind_some, Option.bind_none]
      by_cases c1 : 0 < a
      · have c1' : (0 : Int) < (a : Int) := by omega
        simp only [c1', ln h3, b0, b1, wp_ret, wp_need, wp_pick, wp_exc, wp_bad, wp_bindE, wp_trE, wp_noexE, opt_some, opt_none, toDs_nil, toDs_cons, toD_fz, toD_os, toD_ol, toD_ok, sSet, sIf, sRet, sRetV, sRetN, sExpr, sBrk, sCont, sFrz, sNil, setS, sUnp, sFldM, sRaise, sApp, sExt, sItem, popM, sPop, sPopTo, sSlice, sAug, mC, mVar, m2, m1, tVal, tTru, tAndM, tOrM, tNotM, mAnd, mOr, mNot, mIf, maNil, maCons, frz, mTup, mLst, mLstN, mSl, oNone, oSome, mRevL, mRevS, mCB, mCall, mCallB, mMeth, mFld, mProp, mMake, mChain, mLc, tYesM, lcF, gN, gAll, gT, iSeq, iRange1, iRange2, iEnumLM, iEnumTM, iZipLM, iterD, listF, wipeL, truth, flatR, unb, brw, owns, fI2, fSub, fNeg, fAdd, fMul, fEq_i, fEq_s, fEq_b, fCmp, fIsN, Dn.isNon, fIx, fSl, fLen, fList, fTuple, fInt, fStr, fAbs, fMax2, fMin2, isiD, mIsi, mFmt, mJs, mM1, mM0, fSplit, fPart, fFind, fStarts, eqK, peek, listD, seqD, nestD, mLenO, mAbsO, mIxO, iOwn, sTryAs, setX, endX, mXv, mIsX, gNilM, gLift, gYield, gFrom, mListG0, mListG, List.map_cons, List.map_nil, List.length_cons, List.length_nil, List.replicate, List.cons_append, List.nil_append, List.append_nil, List.getElem?_cons_zero, List.getElem?_cons_succ, List.getElem?_nil, List.set_cons_zero, List.set_cons_succ, List.set_nil, Nat.reduceAdd, Nat.reduceSub, Nat.add_zero, Nat.zero_add, Nat.sub_self, Nat.sub_zero, Bool.not_true, Bool.not_false, if_true, if_false, decide_true, decide_false, Bool.true_and, Bool.and_true, Bool.false_and, Bool.and_false, Bool.or_true, Bool.true_or, Bool.false_or, Bool.or_false, String.reduceBEq, reduceIte, Bool.false_eq_true, true_and, and_true, Option.map_some, Option.map_none, Option.bind_some, Option.bind_none]
        by_cases c2 : b = 1
        · rw [if_pos ⟨c1, c2⟩] at q
          have c2' : decide ((b : Int) = 1) = true := decide_eq_true (by omega)
          simp only [c2', wp_ret, wp_need, wp_pick, wp_exc, wp_bad, wp_bindE, wp_trE, wp_noexE, opt_some, opt_none, toDs_nil, toDs_cons, toD_fz, toD_os, toD_ol, toD_ok, sSet, sIf, sRet, sRetV, sRetN, sExpr, sBrk, sCont, sFrz, sNil, setS, sUnp, sFldM, sRaise, sApp, sExt, sItem, popM, sPop, sPopTo, sSlice, sAug, mC, mVar, m2, m1, tVal, tTru, tAndM, tOrM, tNotM, mAnd, mOr, mNot, mIf, maNil, maCons, frz, mTup, mLst, mLstN, mSl, oNone, oSome, mRevL, mRevS, mCB, mCall, mCallB, mMeth, mFld, mProp, mMake, mChain, mLc, tYesM, lcF, gN, gAll, gT, iSeq, iRange1, iRange2, iEnumLM, iEnumTM, iZipLM, iterD, listF, wipeL, truth, flatR, unb, brw, owns, fI2, fSub, fNeg, fAdd, fMul, fEq_i, fEq_s, fEq_b, fCmp, fIsN, Dn.isNon, fIx, fSl, fLen, fList, fTuple, fInt, fStr, fAbs, fMax2, fMin2, isiD, mIsi, mFmt, mJs, mM1, mM0, fSplit, fPart, fFind, fStarts, eqK, peek, listD, seqD, nestD, mLenO, mAbsO, mIxO, iOwn, sTryAs, setX, endX, mXv, mIsX, gNilM, gLift, gYield, gFrom, mListG0, mListG, List.map_cons, List.map_nil, List.length_cons, List.length_nil, List.replicate, List.cons_append, List.nil_append, List.append_nil, List.getElem?_cons_zero, List.getElem?_cons_succ, List.getElem?_nil, List.set_cons_zero, List.set_cons_succ, List.set_nil, Nat.reduceAdd, Nat.reduceSub, Nat.add_zero, Nat.zero_add, Nat.sub_self, Nat.sub_zero, Bool.not_true, Bool.not_false, if_true, if_false, decide_true, decide_false, Bool.true_and, Bool.and_true, Bool.false_and, Bool.and_false, Bool.or_true, Bool.true_or, Bool.false_or, Bool.or_false, String.reduceBEq, reduceIte, Bool.false_eq_true, true_and, and_true, Option.map_some, Option.map_none, Option.bind_some, Option.bind_none]
          exact q
        · rw [if_neg (fun e => c2 e.2)] at q
          have c2' : decide ((b : Int) = 1) = false := decide_eq_false (by omega)
          simp only [c2', wp_ret, wp_need, wp_pick, wp_exc, wp_bad, wp_bindE, wp_trE, wp_noexE, opt_some, opt_none, toDs_nil, toDs_cons, toD_fz, toD_os, toD_ol, toD_ok, sSet, sIf, sRet, sRetV, sRetN, sExpr, sBrk, sCont, sFrz, sNil, setS, sUnp, sFldM, sRaise, sApp, sExt, sItem, popM, sPop, sPopTo, sSlice, sAug, mC, mVar, m2, m1, tVal, tTru, tAndM, tOrM, tNotM, mAnd, mOr, mNot, mIf, maNil, maCons, frz, mTup, mLst, mLstN, mSl, oNone, oSome, mRevL, mRevS, mCB, mCall, mCallB, mMeth, mFld, mProp, mMake, mChain, mLc, tYesM, lcF, gN, gAll, gT, iSeq, iRange1, iRange2, iEnumLM, iEnumTM, iZipLM, iterD, listF, wipeL, truth, flatR, unb, brw, owns, fI2, fSub, fNeg, fAdd, fMul, fEq_i, fEq_s, fEq_b, fCmp, fIsN, Dn.isNon, fIx, fSl, fLen, fList, fTuple, fInt, fStr, fAbs, fMax2, fMin2, isiD, mIsi, mFmt, mJs, mM1, mM0, fSplit, fPart, fFind, fStarts, eqK, peek, listD, seqD, nestD, mLenO, mAbsO, mIxO, iOwn, sTryAs, setX, endX, mXv, mIsX, gNilM, gLift, gYield, gFrom, mListG0, mListG, List.map_cons, List.map_nil, List.length_cons, List.length_nil, List.replicate, List.cons_append, List.nil_append, List.append_nil, List.getElem?_cons_zero, List.getElem?_cons_succ, List.getElem?_nil, List.set_cons_zero, List.set_cons_succ, List.set_nil, Nat.reduceAdd, Nat.reduceSub, Nat.add_zero, Nat.zero_add, Nat.sub_self, Nat.sub_zero, Bool.not_true, Bool.not_false, if_true, if_false, decide_true, decide_false, Bool.true_and, Bool.and_true, Bool.false_and, Bool.and_false, Bool.or_true, Bool.true_or, Bool.false_or, Bool.or_false, String.reduceBEq, reduceIte, Bool.false_eq_true, true_and, and_true, Option.map_some, Option.map_none, Option.bind_some, Option.bind_none]
          exact q
      · rw [if_neg (fun e => c1 e.1)] at q
        have c1' : ¬ (0 : Int) < (a : Int) := by omega
        simp only [c1', wp_ret, wp_need, wp_pick, wp_exc, wp_bad, wp_bindE, wp_trE, wp_noexE, opt_some, opt_none, toDs_nil, toDs_cons, toD_fz, toD_os, toD_ol, toD_ok, sSet, sIf, sRet, sRetV, sRetN, sExpr, sBrk, sCont, sFrz, sNil, setS, sUnp, sFldM, sRaise, sApp, sExt, sItem, popM, sPop, sPopTo, sSlice, sAug, mC, mVar, m2, m1, tVal, tTru, tAndM, tOrM, tNotM, mAnd, mOr, mNot, mIf, maNil, maCons, frz, mTup, mLst, mLstN, mSl, oNone, oSome, mRevL, mRevS, mCB, mCall, mCallB, mMeth, mFld, mProp, mMake, mChain, mLc, tYesM, lcF, gN, gAll, gT, iSeq, iRange1, iRange2, iEnumLM, iEnumTM, iZipLM, iterD, listF, wipeL, truth, flatR, unb, brw, owns, fI2, fSub, fNeg, fAdd, fMul, fEq_i, fEq_s, fEq_b, fCmp, fIsN, Dn.isNon, fIx, fSl, fLen, fList, fTuple, fInt, fStr, fAbs, fMax2, fMin2, isiD, mIsi, mFmt, mJs, mM1, mM0, fSplit, fPart, fFind, fStarts, eqK, peek, listD, seqD, nestD, mLenO, mAbsO, mIxO, iOwn, sTryAs, setX, endX, mXv, mIsX, gNilM, gLift, gYield, gFrom, mListG0, mListG, List.map_cons, List.map_nil, List.length_cons, List.length_nil, List.replicate, List.cons_append, List.nil_append, List.append_nil, List.getElem?_cons_zero, List.getElem?_cons_succ, List.getElem?_nil, List.set_cons_zero, List.set_cons_succ, List.set_nil, Nat.reduceAdd, Nat.reduceSub, Nat.add_zero, Nat.zero_add, Nat.sub_self, Nat.sub_zero, Bool.not_true, Bool.not_false, if_true, if_false, decide_true, decide_false, Bool.true_and, Bool.and_true, Bool.false_and, Bool.and_false, Bool.or_true, Bool.true_or, Bool.false_or, Bool.or_false, String.reduceBEq, reduceIte, Bool.false_eq_true, true_and, and_true, Option.map_some, Option.map_none, Option.bind_some, Option.bind_none]
        exact q
    refine hN.nx _ ?_
    clear hN N
    walk_at "wps"
    -- what is due
    refine wp_sq fun N hN => ?_
    walk_at "wps"
    refine wp_mapF (fun q : Nat × Nat => jD ((q.1 : Int), grp js q.2)) (by show (heads s js).length ≤ _; rw [heads_len hp]; omega) (fun q hq Q z => ?_) ?_
    · obtain ⟨p, o⟩ := q
      obtain ⟨i, hi, e⟩ := List.mem_iff_getElem.mp hq
      obtain ⟨h1, h2, c, h3⟩ := heads_at hp (show (heads s js)[i]? = some (p, o) from by rw [← e]; exact List.getElem?_eq_getElem hi)
      obtain ⟨j, h4, h5, _⟩ := grp_mem h1 h2
      have e1 : (o : Int) - 1 = ((o - 1 : Nat) : Int) := by simp only at h1; omega
      walk_at "wps"
      simp only [ln h3, b0, e1, atI_get (show (js.map jD)[o - 1]? = some (.tup [.int j.1, .str j.2]) from by rw [List.getElem?_map, h4]; rfl), a1, wp_ret, wp_need, wp_pick, wp_exc, wp_bad, wp_bindE, wp_trE, wp_noexE, opt_some, opt_none, toDs_nil, toDs_cons, toD_fz, toD_os, toD_ol, toD_ok, sSet, sIf, sRet, sRetV, sRetN, sExpr, sBrk, sCont, sFrz, sNil, setS, sUnp, sFldM, sRaise, sApp, sExt, sItem, popM, sPop, sPopTo, sSlice, sAug, mC, mVar, m2, m1, tVal, tTru, tAndM, tOrM, tNotM, mAnd, mOr, mNot, mIf, maNil, maCons, frz, mTup, mLst, mLstN, mSl, oNone, oSome, mRevL, mRevS, mCB, mCall, mCallB, mMeth, mFld, mProp, mMake, mChain, mLc, tYesM, lcF, gN, gAll, gT, iSeq, iRange1, iRange2, iEnumLM, iEnumTM, iZipLM, iterD, listF, wipeL, truth, flatR, unb, brw, owns, fI2, fSub, fNeg, fAdd, fMul, fEq_i, fEq_s, fEq_b, fCmp, fIsN, Dn.isNon, fIx, fSl, fLen, fList, fTuple, fInt, fStr, fAbs, fMax2, fMin2, isiD, mIsi, mFmt, mJs, mM1, mM0, fSplit, fPart, fFind, fStarts, eqK, peek, listD, seqD, nestD, mLenO, mAbsO, mIxO, iOwn, sTryAs, setX, endX, mXv, mIsX, gNilM, gLift, gYield, gFrom, mListG0, mListG, List.map_cons, List.map_nil, List.length_cons, List.length_nil, List.replicate, List.cons_append, List.nil_append, List.append_nil, List.getElem?_cons_zero, List.getElem?_cons_succ, List.getElem?_nil, List.set_cons_zero, List.set_cons_succ, List.set_nil, Nat.reduceAdd, Nat.reduceSub, Nat.add_zero, Nat.zero_add, Nat.sub_self, Nat.sub_zero, Bool.not_true, Bool.not_false, if_true, if_false, decide_true, decide_false, Bool.true_and, Bool.and_true, Bool.false_and, Bool.and_false, Bool.or_true, Bool.true_or, Bool.false_or, Bool.or_false, String.reduceBEq, reduceIte, Bool.false_eq_true, true_and, and_true, Option.map_some, Option.map_none, Option.bind_some, Option.bind_none]
      rw [h5]
      exact ⟨by decide, z⟩
    rw [show (headP 0 (ownL s js)).map (fun q : Nat × Nat => jD ((q.1 : Int), grp js q.2)) = (due s js).map jD from by unfold due heads; rw [List.map_map]; rfl]
    refine hN.nx _ ?_
    clear hN N
    -- in order
    refine wp_sq fun N hN => ?_
    walk_at "wps"
    refine in_order_wp hp hs ?_
    walk_at "wps"
    refine hN.nx _ ?_
    clear hN N
    refine wp_sq fun N hN => ?_
    simp only [mIsC, isiC, hkc, wp_ret, wp_need, wp_pick, wp_exc, wp_bad, wp_bindE, wp_trE, wp_noexE, opt_some, opt_none, toDs_nil, toDs_cons, toD_fz, toD_os, toD_ol, toD_ok, sSet, sIf, sRet, sRetV, sRetN, sExpr, sBrk, sCont, sFrz, sNil, setS, sUnp, sFldM, sRaise, sApp, sExt, sItem, popM, sPop, sPopTo, sSlice, sAug, mC, mVar, m2, m1, tVal, tTru, tAndM, tOrM, tNotM, mAnd, mOr, mNot, mIf, maNil, maCons, frz, mTup, mLst, mLstN, mSl, oNone, oSome, mRevL, mRevS, mCB, mCall, mCallB, mMeth, mFld, mProp, mMake, mChain, mLc, tYesM, lcF, gN, gAll, gT, iSeq, iRange1, iRange2, iEnumLM, iEnumTM, iZipLM, iterD, listF, wipeL, truth, flatR, unb, brw, owns, fI2, fSub, fNeg, fAdd, fMul, fEq_i, fEq_s, fEq_b, fCmp, fIsN, Dn.isNon, fIx, fSl, fLen, fList, fTuple, fInt, fStr, fAbs, fMax2, fMin2, isiD, mIsi, mFmt, mJs, mM1, mM0, fSplit, fPart, fFind, fStarts, eqK, peek, listD, seqD, nestD, mLenO, mAbsO, mIxO, iOwn, sTryAs, setX, endX, mXv, mIsX, gNilM, gLift, gYield, gFrom, mListG0, mListG, List.map_cons, List.map_nil, List.length_cons, List.length_nil, List.replicate, List.cons_append, List.nil_append, List.append_nil, List.getElem?_cons_zero, List.getElem?_cons_succ, List.getElem?_nil, List.set_cons_zero, List.set_cons_succ, List.set_nil, Nat.reduceAdd, Nat.reduceSub, Nat.add_zero, Nat.zero_add, Nat.sub_self, Nat.sub_zero, Bool.not_true, Bool.not_false, if_true, if_false, decide_true, decide_false, Bool.true_and, Bool.and_true, Bool.false_and, Bool.and_false, Bool.or_true, Bool.true_or, Bool.false_or, Bool.or_false, String.reduceBEq, reduceIte, Bool.false_eq_true, true_and, and_true, Option.map_some, Option.map_none, Option.bind_some, Option.bind_none]
    refine ⟨by decide, by decide, tru_wp (td (by rw [hdl]; exact hs.n)) (by decide) ?_⟩
    walk_at "wps"
    refine hN.nx _ ?_
    clear hN N
    walk_at "wps"
    -- the rows
    refine wp_sq fun N hN => ?_
    walk_at "wps"
    refine row_wp ?_
    walk_at "wps"
    refine row_wp ?_
    walk_at "wps"
    refine tru_wp (n := 0) Dat.str (by decide) ?_
    walk_at "wps"
    refine row_wp ?_
    walk_at "wps"
    refine wp_mapF (fun x : Sg => D.str ⟨#[x.2.2]⟩) (by omega) (fun x hx Q z => ?_) ?_
    · unfold lnD
      walk_at "wps"
      simp only [b2, wp_ret, wp_need, wp_pick, wp_exc, wp_bad, wp_bindE, wp_trE, wp_noexE, opt_some, opt_none, toDs_nil, toDs_cons, toD_fz, toD_os, toD_ol, toD_ok, sSet, sIf, sRet, sRetV, sRetN, sExpr, sBrk, sCont, sFrz, sNil, setS, sUnp, sFldM, sRaise, sApp, sExt, sItem, popM, sPop, sPopTo, sSlice, sAug, mC, mVar, m2, m1, tVal, tTru, tAndM, tOrM, tNotM, mAnd, mOr, mNot, mIf, maNil, maCons, frz, mTup, mLst, mLstN, mSl, oNone, oSome, mRevL, mRevS, mCB, mCall, mCallB, mMeth, mFld, mProp, mMake, mChain, mLc, tYesM, lcF, gN, gAll, gT, iSeq, iRange1, iRange2, iEnumLM, iEnumTM, iZipLM, iterD, listF, wipeL, truth, flatR, unb, brw, owns, fI2, fSub, fNeg, fAdd, fMul, fEq_i, fEq_s, fEq_b, fCmp, fIsN, Dn.isNon, fIx, fSl, fLen, fList, fTuple, fInt, fStr, fAbs, fMax2, fMin2, isiD, mIsi, mFmt, mJs, mM1, mM0, fSplit, fPart, fFind, fStarts, eqK, peek, listD, seqD, nestD, mLenO, mAbsO, mIxO, iOwn, sTryAs, setX, endX, mXv, mIsX, gNilM, gLift, gYield, gFrom, mListG0, mListG, List.map_cons, List.map_nil, List.length_cons, List.length_nil, List.replicate, List.cons_append, List.nil_append, List.append_nil, List.getElem?_cons_zero, List.getElem?_cons_succ, List.getElem?_nil, List.set_cons_zero, List.set_cons_succ, List.set_nil, Nat.reduceAdd, Nat.reduceSub, Nat.add_zero, Nat.zero_add, Nat.sub_self, Nat.sub_zero, Bool.not_true, Bool.not_false, if_true, if_false, decide_true, decide_false, Bool.true_and, Bool.and_true, Bool.false_and, Bool.and_false, Bool.or_true, Bool.true_or, Bool.false_or, Bool.or_false, String.reduceBEq, reduceIte, Bool.false_eq_true, true_and, and_true, Option.map_some, Option.map_none, Option.bind_some, Option.bind_none]
      exact z
    have hjn : Txt.join (Str.ofString "") ((lineL s js).map fun x => (⟨#[x.2.2]⟩ : Str)) = w := by
      have := join_one (l := chrs (lineL s js))
      unfold chrs at this
      rw [List.map_map] at this
      refine this.trans ?_
      show tx (chrs (lineL s js)) = w
      rw [lineL_chr hp, tx_of]
    have hjs := sum_bnd (l := (lineL s js).map fun x => (⟨#[x.2.2]⟩ : Str)) (f := fun z : Str => z.length) (b := 1) (fun z hz => by
      obtain ⟨x, _, rfl⟩ := List.mem_map.mp hz
      exact Nat.le_refl _)
    rw [List.length_map, hll] at hjs
    simp only [fJoin, strsD_mapF (f := fun x : Sg => (⟨#[x.2.2]⟩ : Str)) (l := lineL s js), hjn, wp_ret, wp_need, wp_pick, wp_exc, wp_bad, wp_bindE, wp_trE, wp_noexE, opt_some, opt_none, toDs_nil, toDs_cons, toD_fz, toD_os, toD_ol, toD_ok, sSet, sIf, sRet, sRetV, sRetN, sExpr, sBrk, sCont, sFrz, sNil, setS, sUnp, sFldM, sRaise, sApp, sExt, sItem, popM, sPop, sPopTo, sSlice, sAug, mC, mVar, m2, m1, tVal, tTru, tAndM, tOrM, tNotM, mAnd, mOr, mNot, mIf, maNil, maCons, frz, mTup, mLst, mLstN, mSl, oNone, oSome, mRevL, mRevS, mCB, mCall, mCallB, mMeth, mFld, mProp, mMake, mChain, mLc, tYesM, lcF, gN, gAll, gT, iSeq, iRange1, iRange2, iEnumLM, iEnumTM, iZipLM, iterD, listF, wipeL, truth, flatR, unb, brw, owns, fI2, fSub, fNeg, fAdd, fMul, fEq_i, fEq_s, fEq_b, fCmp, fIsN, Dn.isNon, fIx, fSl, fLen, fList, fTuple, fInt, fStr, fAbs, fMax2, fMin2, isiD, mIsi, mFmt, mJs, mM1, mM0, fSplit, fPart, fFind, fStarts, eqK, peek, listD, seqD, nestD, mLenO, mAbsO, mIxO, iOwn, sTryAs, setX, endX, mXv, mIsX, gNilM, gLift, gYield, gFrom, mListG0, mListG, List.map_cons, List.map_nil, List.length_cons, List.length_nil, List.replicate, List.cons_append, List.nil_append, List.append_nil, List.getElem?_cons_zero, List.getElem?_cons_succ, List.getElem?_nil, List.set_cons_zero, List.set_cons_succ, List.set_nil, Nat.reduceAdd, Nat.reduceSub, Nat.add_zero, Nat.zero_add, Nat.sub_self, Nat.sub_zero, Bool.not_true, Bool.not_false, if_true, if_false, decide_true, decide_false, Bool.true_and, Bool.and_true, Bool.false_and, Bool.and_false, Bool.or_true, Bool.true_or, Bool.false_or, Bool.or_false, String.reduceBEq, reduceIte, Bool.false_eq_true, true_and, and_true, Option.map_some, Option.map_none, Option.bind_some, Option.bind_none]
    rw [List.length_map, hll]
    refine ⟨by rw [show (Str.ofString "").length = 0 from rfl]; exact Nat.le_trans (Nat.add_le_add_right hjs _) (by omega), tru_wp (n := 0) Dat.str (by decide) ?_⟩
    walk_at "wps"
    refine hN.nx _ ?_
    clear hN N
    -- bubbled, and in order
    refine wp_sq fun N hN => ?_
    walk_at "wps"
    refine bubbled_wp hB ?_
    try walk_at "wps"
    refine fEq_wp (n := 2) (m := 2) rfl rfl (joins_pl hd) (joins_pl hd) (by decide) (by decide) ?_
    rw [decide_eq_true rfl]
    walk_at "wps"
    refine l_in_order_wp (by omega) due_pos (due_asc hp) ?_
    walk_at "wps"
    refine hN.nx _ ?_
    clear hN N
    -- the ranks
    refine wp_sq fun N hN => ?_
    walk_at "wps"
    refine ⟨by decide, wp_mapF (fun _ : Int × Str => D.int 0) (by omega) (fun j hj Q z => ?_) ?_⟩
    · walk_at "wps"
      exact z
    rw [List.length_map]
    refine ⟨by omega, hN.nx _ ?_⟩
    clear hN N
    refine wp_sq fun N hN => ?_
    refine wp_forA ?_
    walk_at "wps"
    have hhl := heads_len hp
    have hnd := heads_nodup hp
    rw [List.length_map, show (headP 0 (ownL s js)).length = js.length from hhl, Int.toNat_natCast]
    refine ⟨⟨by omega, by omega⟩, ?_⟩
    rw [show D.int 0 :: js.map (fun _ => D.int 0) = ((0 :: js.map fun _ => 0 : List Nat)).map (fun x : Nat => D.int x) from by rw [List.map_cons, List.map_map]; rfl]
    refine wp_loopN (fun i ρ => ∃ (R : List Nat) (x4 : LV), ρ = [.fz (.str s), .fz (.lst (js.map jD)), .fz (.obj 0 [.str s, .tup (js.map jD), .str w]), .fz (.lst ((lineL s js).map lnD)), x4, .fz (.lst ((headP 0 (ownL s js)).map fun x => D.int x.1)), .os ((due s js).map jD), .fz (.obj 0 [.str s, .tup ((due s js).map jD), .str w]), .os (R.map fun x : Nat => D.int x), .un, .un, .un] ∧ R.length = js.length + 1 ∧ R[0]? = some 0 ∧ ∀ k q, k < i → (heads s js)[k]? = some q → R[q.2]? = some (k + 1)) ⟨0 :: js.map fun _ => 0, _, rfl, by rw [List.length_cons, List.length_map], rfl, fun k q hk => absurd hk (Nat.not_lt_zero _)⟩ ?_ ?_
    · rintro i ρ hi ⟨R, x4, rfl, hRl, hR0, hRk⟩ F hF
      obtain ⟨q, hq⟩ : ∃ q, (heads s js)[i]? = some q := ⟨_, List.getElem?_eq_getElem (by omega)⟩
      obtain ⟨h1, h2, c, h3⟩ := heads_at hp hq
      walk_at "wps"
      simp only [show (0 : Int) + (i : Int) = (i : Int) by omega, atI_get (show ((headP 0 (ownL s js)).map fun x => D.int (x.1 : Int))[i]? = some (.int (q.1 : Int)) from by rw [List.getElem?_map, show (headP 0 (ownL s js))[i]? = some q from hq]; rfl), ln h3, b0, wp_ret, wp_need, wp_pick, wp_exc, wp_bad, wp_bindE, wp_trE, wp_noexE, opt_some, opt_none, toDs_nil, toDs_cons, toD_fz, toD_os, toD_ol, toD_ok, sSet, sIf, sRet, sRetV, sRetN, sExpr, sBrk, sCont, sFrz, sNil, setS, sUnp, sFldM, sRaise, sApp, sExt, sItem, popM, sPop, sPopTo, sSlice, sAug, mC, mVar, m2, m1, tVal, tTru, tAndM, tOrM, tNotM, mAnd, mOr, mNot, mIf, maNil, maCons, frz, mTup, mLst, mLstN, mSl, oNone, oSome, mRevL, mRevS, mCB, mCall, mCallB, mMeth, mFld, mProp, mMake, mChain, mLc, tYesM, lcF, gN, gAll, gT, iSeq, iRange1, iRange2, iEnumLM, iEnumTM, iZipLM, iterD, listF, wipeL, truth, flatR, unb, brw, owns, fI2, fSub, fNeg, fAdd, fMul, fEq_i, fEq_s, fEq_b, fCmp, fIsN, Dn.isNon, fIx, fSl, fLen, fList, fTuple, fInt, fStr, fAbs, fMax2, fMin2, isiD, mIsi, mFmt, mJs, mM1, mM0, fSplit, fPart, fFind, fStarts, eqK, peek, listD, seqD, nestD, mLenO, mAbsO, mIxO, iOwn, sTryAs, setX, endX, mXv, mIsX, gNilM, gLift, gYield, gFrom, mListG0, mListG, List.map_cons, List.map_nil, List.length_cons, List.length_nil, List.replicate, List.cons_append, List.nil_append, List.append_nil, List.getElem?_cons_zero, List.getElem?_cons_succ, List.getElem?_nil, List.set_cons_zero, List.set_cons_succ, List.set_nil, Nat.reduceAdd, Nat.reduceSub, Nat.add_zero, Nat.zero_add, Nat.sub_self, Nat.sub_zero, Bool.not_true, Bool.not_false, if_true, if_false, decide_true, decide_false, Bool.true_and, Bool.and_true, Bool.false_and, Bool.and_false, Bool.or_true, Bool.true_or, Bool.false_or, Bool.or_false, String.reduceBEq, reduceIte, Bool.false_eq_true, true_and, and_true, Option.map_some, Option.map_none, Option.bind_some, Option.bind_none]
      have hix : ixN (R.map fun x : Nat => D.int x).length (q.2 : Int) = some q.2 := by
        unfold ixN
        rw [List.length_map, if_pos (by omega), if_pos (by omega), Int.toNat_natCast]
      rw [hix]
      walk_at "wps"
      rw [show (R.map fun x : Nat => D.int x).set q.2 (.int ((i : Int) + 1)) = (R.set q.2 (i + 1)).map fun x : Nat => D.int x from by rw [List.map_set]; rfl]
      refine hF.nx _ ⟨R.set q.2 (i + 1), _, rfl, by rw [List.length_set, hRl], by rw [List.getElem?_set_ne (by omega), hR0], fun k q2 hk h => ?_⟩
      by_cases e : k = i
      · subst e
        rw [hq] at h
        cases h
        rw [List.getElem?_set_self (by omega)]
      · rw [List.getElem?_set_ne, hRk k q2 (by omega) h]
        intro e2
        have n1 : ((heads s js).map fun q => q.2)[i]? = some q.2 := by rw [List.getElem?_map, hq]; rfl
        have n2 : ((heads s js).map fun q => q.2)[k]? = some q.2 := by rw [List.getElem?_map, h]; show some q2.2 = _; rw [e2]
        have := (List.getElem?_inj (i := i) (j := k) (by rw [List.length_map]; omega) hnd).mp (n1.trans n2.symm)
        omega
    · rintro ρ ⟨R, x4, rfl, hRl, hR0, hRk⟩
      refine hN.nx _ ?_
      clear hN N
      walk_at "wps"
      refine wp_sq fun N hN => ?_
      walk_at "wps"
      have hRg : ∀ {k q}, (heads s js)[k]? = some q → R.getD q.2 0 = k + 1 := fun {k q} h => by
        have hk := (List.getElem?_eq_some_iff.mp h).1
        rw [hhl] at hk
        rw [List.getD_eq_getElem?_getD, hRk k q hk h]
        rfl
      have hdl2 := due_line hp (f := fun o => R.getD o 0) (by rw [List.getD_eq_getElem?_getD, hR0]; rfl) (fun k q h => hRg h)
      refine wp_mapF (fun x : Sg => Dn.prD (R.getD x.1 0, x.2.1)) (by omega) (fun x hx Q z => ?_) ?_
      · have hxl := lineL_own x hx
        have e1 : (R.map fun x : Nat => D.int x)[x.1]? = some (.int (R.getD x.1 0 : Nat)) := by
          rw [List.getElem?_map, List.getD_eq_getElem?_getD, List.getElem?_eq_getElem (by omega)]
          rfl
        unfold lnD
        walk_at "wps"
        simp only [b0, b1, atI_get e1, wp_ret, wp_need, wp_pick, wp_exc, wp_bad, wp_bindE, wp_trE, wp_noexE, opt_some, opt_none, toDs_nil, toDs_cons, toD_fz, toD_os, toD_ol, toD_ok, sSet, sIf, sRet, sRetV, sRetN, sExpr, sBrk, sCont, sFrz, sNil, setS, sUnp, sFldM, sRaise, sApp, sExt, sItem, popM, sPop, sPopTo, sSlice, sAug, mC, mVar, m2, m1, tVal, tTru, tAndM, tOrM, tNotM, mAnd, mOr, mNot, mIf, maNil, maCons, frz, mTup, mLst, mLstN, mSl, oNone, oSome, mRevL, mRevS, mCB, mCall, mCallB, mMeth, mFld, mProp, mMake, mChain, mLc, tYesM, lcF, gN, gAll, gT, iSeq, iRange1, iRange2, iEnumLM, iEnumTM, iZipLM, iterD, listF, wipeL, truth, flatR, unb, brw, owns, fI2, fSub, fNeg, fAdd, fMul, fEq_i, fEq_s, fEq_b, fCmp, fIsN, Dn.isNon, fIx, fSl, fLen, fList, fTuple, fInt, fStr, fAbs, fMax2, fMin2, isiD, mIsi, mFmt, mJs, mM1, mM0, fSplit, fPart, fFind, fStarts, eqK, peek, listD, seqD, nestD, mLenO, mAbsO, mIxO, iOwn, sTryAs, setX, endX, mXv, mIsX, gNilM, gLift, gYield, gFrom, mListG0, mListG, List.map_cons, List.map_nil, List.length_cons, List.length_nil, List.replicate, List.cons_append, List.nil_append, List.append_nil, List.getElem?_cons_zero, List.getElem?_cons_succ, List.getElem?_nil, List.set_cons_zero, List.set_cons_succ, List.set_nil, Nat.reduceAdd, Nat.reduceSub, Nat.add_zero, Nat.zero_add, Nat.sub_self, Nat.sub_zero, Bool.not_true, Bool.not_false, if_true, if_false, decide_true, decide_false, Bool.true_and, Bool.and_true, Bool.false_and, Bool.and_false, Bool.or_true, Bool.true_or, Bool.false_or, Bool.or_false, String.reduceBEq, reduceIte, Bool.false_eq_true, true_and, and_true, Option.map_some, Option.map_none, Option.bind_some, Option.bind_none]
        exact ⟨by decide, z⟩
      rw [show (lineL s js).map (fun x : Sg => Dn.prD (R.getD x.1 0, x.2.1)) = (ownL s (due s js)).map Dn.prD from by
        rw [← lineL_pr, hdl2, List.map_map, List.map_map]
        rfl]
      refine hN.nx _ ?_
      clear hN N
      refine wp_sq fun N hN => ?_
      walk_at "wps"
      refine owners_wp (hds.plays hd) (by have := hds.sum; omega) ?_
      have hol2 : (ownL s (due s js)).length = w.length := own_len hd spanL_len
      have dow : Dat 2 (.lst ((ownL s (due s js)).map Dn.prD)) := ⟨by rw [List.length_map, hol2]; omega, fun d hd => by
        obtain ⟨x, _, rfl⟩ := List.mem_map.mp hd
        exact ⟨(show 2 ≤ 100000 by decide), fun y hy => by
          simp only [List.mem_cons, List.not_mem_nil, or_false] at hy
          rcases hy with rfl | rfl <;> exact trivial⟩⟩
      walk_at "wps"
      refine tru_wp dow (by decide) ?_
      walk_at "wps"
      refine in_order_wp hd hds ?_
      rw [due_due hp]
      walk_at "wps"
      refine tru_wp (n := 2) (show Dat 2 (.tup ((due s js).map jD)) from ⟨by rw [List.length_map]; omega, jD_dat⟩) (by decide) ?_
      walk_at "wps"
      refine hN.nx _ ?_
      clear hN N
      walk_at "wps"
      refine ⟨by decide, by decide, tru_wp (td hs.n) (by decide) ?_⟩
      walk_at "wps"
      exact hR.rt _ rfl k
  · exact badE h
end
end Q07
end

section
set_option Elab.async false
set_option linter.all false
set_option maxRecDepth 100000
set_option maxHeartbeats 1000000
namespace Q07
open PySem PySem.Spec PyProof.Rows L2 Evl GrO Dn
local macro_rules | `(tactic| walk_at "wps") => `(tactic| simp only [wp_ret, wp_need, wp_pick, wp_exc, wp_bad, wp_bindE, wp_trE, wp_noexE, opt_some, opt_none, toDs_nil, toDs_cons, toD_fz, toD_os, toD_ol, toD_ok, sSet, sIf, sRet, sRetV, sRetN, sExpr, sBrk, sCont, sFrz, sNil, setS, sUnp, sFldM, sRaise, sApp, sExt, sItem, popM, sPop, sPopTo, sSlice, sAug, mC, mVar, m2, m1, tVal, tTru, tAndM, tOrM, tNotM, mAnd, mOr, mNot, mIf, maNil, maCons, frz, mTup, mLst, mLstN, mSl, oNone, oSome, mRevL, mRevS, mCB, mCall, mCallB, mMeth, mFld, mProp, mMake, mChain, mLc, tYesM, lcF, gN, gAll, gT, iSeq, iRange1, iRange2, iEnumLM, iEnumTM, iZipLM, iterD, listF, wipeL, truth, flatR, unb, brw, owns, fI2, fSub, fNeg, fAdd, fMul, fEq_i, fEq_s, fEq_b, fCmp, fIsN, Dn.isNon, fIx, fSl, fLen, fList, fTuple, fInt, fStr, fAbs, fMax2, fMin2, isiD, mIsi, mFmt, mJs, mM1, mM0, fSplit, fPart, fFind, fStarts, eqK, peek, listD, seqD, nestD, mLenO, mAbsO, mIxO, iOwn, sTryAs, setX, endX, mXv, mIsX, gNilM, gLift, gYield, gFrom, mListG0, mListG, List.map_cons, List.map_nil, List.length_cons, List.length_nil, List.replicate, List.cons_append, List.nil_append, List.append_nil, List.getElem?_cons_zero, List.getElem?_cons_succ, List.getElem?_nil, List.set_cons_zero, List.set_cons_succ, List.set_nil, Nat.reduceAdd, Nat.reduceSub, Nat.add_zero, Nat.zero_add, Nat.sub_self, Nat.sub_zero, Bool.not_true, Bool.not_false, if_true, if_false, decide_true, decide_false, Bool.true_and, Bool.and_true, Bool.false_and, Bool.and_false, Bool.or_true, Bool.true_or, Bool.false_or, Bool.or_false, String.reduceBEq, reduceIte, Bool.false_eq_true, true_and, and_true, Option.map_some, Option.map_none, Option.bind_some, Option.bind_none])
noncomputable section
theorem isBl_ex {r : Option ((Int × Str) × (Int × Str))} {k : Bool} : isBl k (exL r) = some false := by
  cases r with
  | none => rfl
  | some p => rfl
def PairsOk (s u v : Str) : Prop := (s.length ≤ 500 ∧ Sgn s) ∧ (groupB u = true ∧ u.length ≤ 100) ∧ groupB v = true ∧ v.length ≤ 100
def fs_l_all_pairs : Fs := fun ds => match ds with
  | [.str s, .str u, .str v] => .need (PairsOk s u v) (.ret (.fz (.bl true)))
  | _ => .bad
theorem pairs_wp {s u v : Str} {P : LV → Prop} {E : Nat → D → Prop} (h : PairsOk s u v) (q : P (.fz (.bl true))) : (fs_l_all_pairs [.str s, .str u, .str v]).wp P E := needI h (by rw [wp_ret]; exact q)
def m_l_all_pairs : Sm := (sSeq (sFor (iRange1 (m2 fAdd (mCB fLen (maCons (mVar 0) maNil)) (mC (D.int 1)))) (gN 3) (sFor (iRange1 (m2 fAdd (m2 fAdd (mCB fLen (maCons (mVar 0) maNil)) (mCB fLen (maCons (mVar 1) maNil))) (mC (D.int 1)))) (gN 4) (sIf (tVal (m2 (fIsB false) (mCall 3 fs_l_exchange (maCons (mVar 0) (maCons (mTup (maCons (mVar 3) (maCons (mVar 1) maNil))) (maCons (mTup (maCons (mVar 4) (maCons (mVar 2) maNil))) maNil)))) (mC (D.bl false)))) (sRet (mC (D.bl false))) sNil))) (sRet (mC (D.bl true))))
theorem ref_l_all_pairs {ds : List D} (hl : ds.length = 3) : Ref (runB m_l_all_pairs 5 ds) (fs_l_all_pairs ds) := by
  intro P E h
  unfold fs_l_all_pairs at h
  split at h
  · rename_i s u v
    rw [wp_need, wp_ret] at h
    obtain ⟨⟨⟨h1, h2⟩, ⟨h3, h4⟩, h5, h6⟩, k⟩ := h
    refine wp_run fun R hR => ?_
    unfold m_l_all_pairs
    refine wp_sq fun N hN => ?_
    refine wp_forA ?_
    walk_at "wps"
    refine ⟨by omega, ⟨by omega, by omega⟩, ?_⟩
    refine wp_loopN (fun i ρ => ∃ x3 x4, ρ = [.fz (.str s), .fz (.str u), .fz (.str v), x3, x4]) ⟨_, _, rfl⟩ ?_ ?_
    · rintro i ρ hi ⟨x3, x4, rfl⟩ F hF
      walk_at "wps"
      refine wp_forA ?_
      walk_at "wps"
      refine ⟨by omega, by omega, ⟨by omega, by omega⟩, ?_⟩
      refine wp_loopN (fun j ρ => ∃ x4, ρ = [.fz (.str s), .fz (.str u), .fz (.str v), .fz (.int (0 + (i : Int))), x4]) ⟨_, rfl⟩ ?_ ?_
      · rintro j ρ hj ⟨x4, rfl⟩ G hG
        walk_at "wps"
        refine ⟨by decide, by decide, exchange_wp (a := (0 + (i : Int), u)) (b := (0 + (j : Int), v)) ⟨by omega, h2, h3, h5, h4, h6, by simp only; omega, by simp only; omega, by simp only; omega, by simp only; omega⟩ ?_⟩
        refine fIsB_none isBl_ex ?_
        walk_at "wps"
        exact hG.nx _ ⟨_, rfl⟩
      · rintro ρ ⟨x4, rfl⟩
        exact hF.nx _ ⟨_, _, rfl⟩
    · rintro ρ ⟨x3, x4, rfl⟩
      refine hN.nx _ ?_
      walk_at "wps"
      exact hR.rt _ rfl k
  · exact badE h
theorem ord_ok {s w : Str} {js : List (Int × Str)} (hp : play s js = .row w) (h1 : s.length ≤ 10) (h2 : js.length ≤ 10) (h3 : ∀ j ∈ js, j.2.length ≤ 6) (hs : Sgn s) : BubOk s w js := by
  have h4 := sum_bnd (l := js) (f := fun j => j.2.length) (b := 6) h3
  have h5 := play_len hp
  exact ⟨hp, ⟨by omega, by omega, fun j hj => by have := h3 j hj; omega⟩, h2, by omega, hs⟩
def m_law : Sm := sSeq (sSet 2 (m2 fIx (mLst (maCons (mC (D.str (Str.ofString "ab"))) (maCons (mC (D.str (Str.ofString "abcdefghijklmnopqrstuvwxyz"))) maNil))) (mCall 2 fs_l_draw (maCons (mVar 1) (maCons (mC (D.int 2)) maNil))))) (sSeq (sSet 3 (mCall 4 fs_l_word (maCons (mVar 1) (maCons (mVar 2) (maCons (mC (D.int 0)) (maCons (mC (D.int 5)) maNil)))))) (sSeq (sSet 4 (m2 fAdd (mLst (maCons (mCall 4 fs_l_word (maCons (mVar 1) (maCons (mVar 2) (maCons (mC (D.int 1)) (maCons (mC (D.int 3)) maNil))))) maNil)) (mCall 4 fs_l_groups (maCons (mVar 1) (maCons (mVar 2) (maCons (mC (D.int 3)) (maCons (mC (D.int 3)) maNil))))))) (sFrz 4 (sSeq (sSet 5 (mCall 4 fs_l_joins (maCons (mVar 1) (maCons (mVar 3) (maCons (mVar 4) (maCons (mC (D.int 7)) maNil)))))) (sSeq (sSet 6 (m2 fDiv (mCB fLen (maCons (m2 fIx (mVar 5) (mC (D.int 1))) maNil)) (mC (D.int 2)))) (sSeq (sSet 7 (m2 fAdd (m2 fIx (mVar 5) (mC (D.int 0))) (mLst (maCons (mTup (maCons (mVar 6) (maCons (mC (D.str (Str.ofString "abc"))) maNil))) (maCons (mTup (maCons (m2 fAdd (mVar 6) (mC (D.int 1))) (maCons (mC (D.str (Str.ofString "d"))) maNil))) (maCons (mTup (maCons (mVar 6) (maCons (mC (D.str (Str.ofString "b"))) maNil))) maNil)))))) (sFrz 7 (sSeq (sIf (tOrM (tNotM (tVal (mCall 2 fs_l_ordered (maCons (mVar 3) (maCons (mVar 7) maNil))))) (tOrM (tNotM (tVal (mCall 2 fs_l_ordered (maCons (mVar 3) (maCons (m2 fIx (mVar 5) (mC (D.int 0))) maNil))))) (tNotM (tVal (mCall 2 fs_l_ordered (maCons (mVar 3) (maCons (mLst maNil) maNil))))))) (sRet (mC (D.bl false))) sNil) (sSeq (sIf (tNotM (tVal (mCall 2 fs_l_ordered (maCons (mVar 3) (maCons (mLst (maCons (mTup (maCons (mC (D.int 0)) (maCons (mC (D.str (Str.ofString "ab"))) maNil))) (maCons (mTup (maCons (mC (D.int 0)) (maCons (mC (D.str (Str.ofString "a"))) maNil))) (maCons (mTup (maCons (mC (D.int 1)) (maCons (mC (D.str (Str.ofString "ba"))) maNil))) maNil)))) maNil))))) (sRet (mC (D.bl false))) sNil) (sSeq (sIf (tNotM (tVal (mCall 2 fs_l_ordered (maCons (mC (D.str (Str.ofString "a"))) (maCons (mLst (maCons (mTup (maCons (mC (D.int 1)) (maCons (mC (D.str (Str.ofString "ab"))) maNil))) (maCons (mTup (maCons (mC (D.int 1)) (maCons (mC (D.str (Str.ofString "ab"))) maNil))) (maCons (mTup (maCons (mC (D.int 0)) (maCons (mC (D.str (Str.ofString "c"))) maNil))) (maCons (mTup (maCons (mC (D.int 3)) (maCons (mC (D.str (Str.ofString "cd"))) maNil))) (maCons (mTup (maCons (mC (D.int 4)) (maCons (mC (D.str (Str.ofString "ef"))) maNil))) (maCons (mTup (maCons (mC (D.int 2)) (maCons (mC (D.str (Str.ofString "a"))) maNil))) maNil))))))) maNil))))) (sRet (mC (D.bl false))) sNil) (sFrz 7 (sSeq (sSet 8 (mCall 2 fs_l_played (maCons (mVar 3) (maCons (mVar 7) maNil)))) (sSeq (sFor (iRange1 (m2 fSub (mCB fLen (maCons (mVar 7) maNil)) (mC (D.int 1)))) (gN 9) (sIf (tVal (m2 (fIsB false) (mCall 3 fs_l_exchange (maCons (m2 fIx (mVar 8) (mVar 9)) (maCons (m2 fIx (mVar 7) (mVar 9)) (maCons (m2 fIx (mVar 7) (m2 fAdd (mVar 9) (mC (D.int 1)))) maNil)))) (mC (D.bl false)))) (sRet (mC (D.bl false))) sNil)) (sSeq (sSet 10 (mCall 4 fs_l_word (maCons (mVar 1) (maCons (mVar 2) (maCons (mC (D.int 1)) (maCons (mC (D.int 6)) maNil)))))) (sSeq (sIf (tOrM (tNotM (tVal (mCall 3 fs_l_all_pairs (maCons (mSl fSl (mVar 3) oNone (oSome (mC (D.int 3)))) (maCons (mVar 10) (maCons (m2 fIx (mVar 4) (mC (D.int 0))) maNil)))))) (tNotM (tVal (mCall 3 fs_l_all_pairs (maCons (mC (D.str (Str.ofString "xy"))) (maCons (mC (D.str (Str.ofString "abc"))) (maCons (mC (D.str (Str.ofString "ab"))) maNil))))))) (sRet (mC (D.bl false))) sNil) (sSeq (sSet 11 (m2 fAdd (mVar 3) (m2 fMul (mC (D.str (Str.ofString "z"))) (mCall 2 fs_l_draw (maCons (mVar 1) (maCons (mC (D.int 150)) maNil)))))) (sSeq (sSet 12 (mCall 2 fs_l_draw (maCons (mVar 1) (maCons (m2 fAdd (mCB fLen (maCons (mVar 11) maNil)) (mC (D.int 1))) maNil)))) (sSeq (sSet 13 (mCall 2 fs_l_draw (maCons (mVar 1) (maCons (m2 fAdd (m2 fAdd (mCB fLen (maCons (mVar 11) maNil)) (mCB fLen (maCons (mVar 10) maNil))) (mC (D.int 1))) maNil)))) (sSeq (sIf (tVal (m2 (fIsB false) (mCall 3 fs_l_exchange (maCons (mVar 11) (maCons (mTup (maCons (mVar 12) (maCons (mVar 10) maNil))) (maCons (mTup (maCons (mVar 13) (maCons (mC (D.str (Str.ofString "k"))) maNil))) maNil)))) (mC (D.bl false)))) (sRet (mC (D.bl false))) sNil) (sRet (m2 (fIsB true) (mCall 3 fs_l_exchange (maCons (mVar 11) (maCons (mTup (maCons (mVar 12) (maCons (mVar 10) maNil))) (maCons (mTup (maCons (m2 fAdd (mVar 12) (mCB fLen (maCons (mVar 10) maNil))) (maCons (mC (D.str (Str.ofString "k"))) maNil))) maNil)))) (mC (D.bl false)))))))))))))))))))))))
theorem ref_law : (m_law (.un :: .fz .st :: List.replicate 12 .un)).wp LawP no2 := by
  unfold m_law
  have a0 : ∀ {x y : D}, atI [x, y] 0 = some x := fun {x y} => atI_get (i := 0) rfl
  have a1 : ∀ {x y : D}, atI [x, y] 1 = some y := fun {x y} => atI_get (i := 1) rfl
  refine wp_sq fun N hN => ?_
  walk_at "wps"
  refine ⟨by decide, draw_wp (by decide) (by decide) fun r hr => ?_⟩
  obtain ⟨g, hgat, hg1, hg2, hg3⟩ := pool_at hr
  simp only [hgat, wp_ret, wp_need, wp_pick, wp_exc, wp_bad, wp_bindE, wp_trE, wp_noexE, opt_some, opt_none, toDs_nil, toDs_cons, toD_fz, toD_os, toD_ol, toD_ok, sSet, sIf, sRet, sRetV, sRetN, sExpr, sBrk, sCont, sFrz, sNil, setS, sUnp, sFldM, sRaise, sApp, sExt, sItem, popM, sPop, sPopTo, sSlice, sAug, mC, mVar, m2, m1, tVal, tTru, tAndM, tOrM, tNotM, mAnd, mOr, mNot, mIf, maNil, maCons, frz, mTup, mLst, mLstN, mSl, oNone, oSome, mRevL, mRevS, mCB, mCall, mCallB, mMeth, mFld, mProp, mMake, mChain, mLc, tYesM, lcF, gN, gAll, gT, iSeq, iRange1, iRange2, iEnumLM, iEnumTM, iZipLM, iterD, listF, wipeL, truth, flatR, unb, brw, owns, fI2, fSub, fNeg, fAdd, fMul, fEq_i, fEq_s, fEq_b, fCmp, fIsN, Dn.isNon, fIx, fSl, fLen, fList, fTuple, fInt, fStr, fAbs, fMax2, fMin2, isiD, mIsi, mFmt, mJs, mM1, mM0, fSplit, fPart, fFind, fStarts, eqK, peek, listD, seqD, nestD, mLenO, mAbsO, mIxO, iOwn, sTryAs, setX, endX, mXv, mIsX, gNilM, gLift, gYield, gFrom, mListG0, mListG, List.map_cons, List.map_nil, List.length_cons, List.length_nil, List.replicate, List.cons_append, List.nil_append, List.append_nil, List.getElem?_cons_zero, List.getElem?_cons_succ, List.getElem?_nil, List.set_cons_zero, List.set_cons_succ, List.set_nil, Nat.reduceAdd, Nat.reduceSub, Nat.add_zero, Nat.zero_add, Nat.sub_self, Nat.sub_zero, Bool.not_true, Bool.not_false, if_true, if_false, decide_true, decide_false, Bool.true_and, Bool.and_true, Bool.false_and, Bool.and_false, Bool.or_true, Bool.true_or, Bool.false_or, Bool.or_false, String.reduceBEq, reduceIte, Bool.false_eq_true, true_and, and_true, Option.map_some, Option.map_none, Option.bind_some, Option.bind_none]
  refine hN.nx _ ?_
  clear hN N
  refine wp_sq fun N hN => ?_
  walk_at "wps"
  refine word_wp ⟨hg1, hg2, by decide, by decide, by decide⟩ fun s hs => ?_
  walk_at "wps"
  refine hN.nx _ ?_
  clear hN N
  have hsl := hs.hi
  have letS : ∀ {z : Str}, (∀ c ∈ z.cps.toList, c ∈ g.cps.toList) → Sgn z := fun h c hc => Nat.lt_trans (low_lt c (hg3 c (h c hc))) (by decide)
  have hsS : Sgn s := letS hs.of
  refine wp_sq fun N hN => ?_
  walk_at "wps"
  refine word_wp ⟨hg1, hg2, by decide, by decide, by decide⟩ fun w1 hw1 => ?_
  walk_at "wps"
  refine ⟨by decide, groups_wp ⟨hg1, hg2, by decide, by decide, by decide, by decide⟩ fun zs hzs => ?_⟩
  walk_at "wps"
  have hzl := hzs.hi
  refine ⟨by rw [List.length_map]; omega, hN.nx _ ?_⟩
  clear hN N
  walk_at "wps"
  have hgr : ∀ z ∈ w1 :: zs, groupB z = true ∧ z.length ≤ 3 := fun z hz => by
    rcases List.mem_cons.mp hz with rfl | hz
    · have := hw1.hi
      exact ⟨word_group hg3 hw1 (by decide), by omega⟩
    · have := (hzs.of z hz).hi
      exact ⟨word_group hg3 (hzs.of z hz) (by decide), by omega⟩
  have hw1g := hgr w1 List.mem_cons_self
  refine wp_sq fun N hN => ?_
  walk_at "wps"
  refine joins_wp (zs := w1 :: zs) ⟨by omega, by decide, by decide, by rw [List.length_cons]; omega, fun z hz => ⟨(hgr z hz).1, by have := (hgr z hz).2; omega⟩⟩ fun js e hj => ?_
  walk_at "wps"
  refine hN.nx _ ?_
  clear hN N
  obtain ⟨hp, hjl, hjo⟩ := hj
  have hp : play s js = .row e := hp
  have hjo : ∀ j ∈ js, j.2 ∈ w1 :: zs := hjo
  have hjl : (js.length : Int) ≤ 7 := hjl
  have hjg : ∀ j ∈ js, groupB j.2 = true ∧ j.2.length ≤ 3 := fun j hj => hgr _ (hjo j hj)
  have hel := play_len hp
  have hsum := sum_bnd (l := js) (f := fun j => j.2.length) (b := 3) (fun j hj => (hjg j hj).2)
  -- the middle
  refine wp_sq fun N hN => ?_
  walk_at "wps"
  simp only [a1, wp_ret, wp_need, wp_pick, wp_exc, wp_bad, wp_bindE, wp_trE, wp_noexE, opt_some, opt_none, toDs_nil, toDs_cons, toD_fz, toD_os, toD_ol, toD_ok, sSet, sIf, sRet, sRetV, sRetN, sExpr, sBrk, sCont, sFrz, sNil, setS, sUnp, sFldM, sRaise, sApp, sExt, sItem, popM, sPop, sPopTo, sSlice, sAug, mC, mVar, m2, m1, tVal, tTru, tAndM, tOrM, tNotM, mAnd, mOr, mNot, mIf, maNil, maCons, frz, mTup, mLst, mLstN, mSl, oNone, oSome, mRevL, mRevS, mCB, mCall, mCallB, mMeth, mFld, mProp, mMake, mChain, mLc, tYesM, lcF, gN, gAll, gT, iSeq, iRange1, iRange2, iEnumLM, iEnumTM, iZipLM, iterD, listF, wipeL, truth, flatR, unb, brw, owns, fI2, fSub, fNeg, fAdd, fMul, fEq_i, fEq_s, fEq_b, fCmp, fIsN, Dn.isNon, fIx, fSl, fLen, fList, fTuple, fInt, fStr, fAbs, fMax2, fMin2, isiD, mIsi, mFmt, mJs, mM1, mM0, fSplit, fPart, fFind, fStarts, eqK, peek, listD, seqD, nestD, mLenO, mAbsO, mIxO, iOwn, sTryAs, setX, endX, mXv, mIsX, gNilM, gLift, gYield, gFrom, mListG0, mListG, List.map_cons, List.map_nil, List.length_cons, List.length_nil, List.replicate, List.cons_append, List.nil_append, List.append_nil, List.getElem?_cons_zero, List.getElem?_cons_succ, List.getElem?_nil, List.set_cons_zero, List.set_cons_succ, List.set_nil, Nat.reduceAdd, Nat.reduceSub, Nat.add_zero, Nat.zero_add, Nat.sub_self, Nat.sub_zero, Bool.not_true, Bool.not_false, if_true, if_false, decide_true, decide_false, Bool.true_and, Bool.and_true, Bool.false_and, Bool.and_false, Bool.or_true, Bool.true_or, Bool.false_or, Bool.or_false, String.reduceBEq, reduceIte, Bool.false_eq_true, true_and, and_true, Option.map_some, Option.map_none, Option.bind_some, Option.bind_none]
  refine ⟨by omega, ⟨by decide, by decide⟩, hN.nx _ ?_⟩
  clear hN N
  have hm0 : 0 ≤ (e.length : Int) / 2 := Int.ediv_nonneg (by omega) (by decide)
  have hm1 : (e.length : Int) / 2 ≤ (e.length : Int) := by omega
  generalize (e.length : Int) / 2 = mid at hm0 hm1
  -- the joins
  have g1 : groupB "abc" = true := by decide +kernel
  have g2 : groupB "d" = true := by decide +kernel
  have g3 : groupB "b" = true := by decide +kernel
  have p1 := play_snoc hp hm0 hm1 g1
  have l1 : (insS e mid "abc").length = e.length + 3 := ins_len (z := "abc") hm0 hm1
  have p2 := play_snoc p1 (g := mid + 1) (by omega) (by omega) g2
  have l2 : (insS (insS e mid "abc") (mid + 1) "d").length = (insS e mid "abc").length + 1 := ins_len (z := "d") (by omega) (by omega)
  have p3 := play_snoc p2 (g := mid) (by omega) (by omega) g3
  rw [List.append_assoc, List.append_assoc] at p3
  generalize insS (insS (insS e mid "abc") (mid + 1) "d") mid "b" = e3 at p3
  have hJ : ∃ J : List (Int × Str), J = js ++ ([(mid, ("abc" : Str))] ++ ([(mid + 1, ("d" : Str))] ++ [(mid, ("b" : Str))])) := ⟨_, rfl⟩
  obtain ⟨J, hJ⟩ := hJ
  rw [← hJ] at p3
  have hJl : J.length = js.length + 3 := by rw [hJ]; simp only [List.length_append, List.length_cons, List.length_nil]
  have hJg : ∀ j ∈ J, groupB j.2 = true ∧ j.2.length ≤ 3 := fun j hj => by
    rw [hJ] at hj
    simp only [List.mem_append, List.mem_cons, List.not_mem_nil, or_false] at hj
    rcases hj with hj | rfl | rfl | rfl
    · exact hjg j hj
    · exact ⟨g1, (show (3 : Nat) ≤ 3 by decide)⟩
    · exact ⟨g2, (show (1 : Nat) ≤ 3 by decide)⟩
    · exact ⟨g3, (show (1 : Nat) ≤ 3 by decide)⟩
  have BJ : BubOk s e3 J := ord_ok p3 (by omega) (by omega) (fun j hj => by have := (hJg j hj).2; omega) hsS
  have Bj : BubOk s e js := ord_ok hp (by omega) (by omega) (fun j hj => by have := (hjg j hj).2; omega) hsS
  refine wp_sq fun N hN => ?_
  walk_at "wps"
  simp only [a0, wp_ret, wp_need, wp_pick, wp_exc, wp_bad, wp_bindE, wp_trE, wp_noexE, opt_some, opt_none, toDs_nil, toDs_cons, toD_fz, toD_os, toD_ol, toD_ok, sSet, sIf, sRet, sRetV, sRetN, sExpr, sBrk, sCont, sFrz, sNil, setS, sUnp, sFldM, sRaise, sApp, sExt, sItem, popM, sPop, sPopTo, sSlice, sAug, mC, mVar, m2, m1, tVal, tTru, tAndM, tOrM, tNotM, mAnd, mOr, mNot, mIf, maNil, maCons, frz, mTup, mLst, mLstN, mSl, oNone, oSome, mRevL, mRevS, mCB, mCall, mCallB, mMeth, mFld, mProp, mMake, mChain, mLc, tYesM, lcF, gN, gAll, gT, iSeq, iRange1, iRange2, iEnumLM, iEnumTM, iZipLM, iterD, listF, wipeL, truth, flatR, unb, brw, owns, fI2, fSub, fNeg, fAdd, fMul, fEq_i, fEq_s, fEq_b, fCmp, fIsN, Dn.isNon, fIx, fSl, fLen, fList, fTuple, fInt, fStr, fAbs, fMax2, fMin2, isiD, mIsi, mFmt, mJs, mM1, mM0, fSplit, fPart, fFind, fStarts, eqK, peek, listD, seqD, nestD, mLenO, mAbsO, mIxO, iOwn, sTryAs, setX, endX, mXv, mIsX, gNilM, gLift, gYield, gFrom, mListG0, mListG, List.map_cons, List.map_nil, List.length_cons, List.length_nil, List.replicate, List.cons_append, List.nil_append, List.append_nil, List.getElem?_cons_zero, List.getElem?_cons_succ, List.getElem?_nil, List.set_cons_zero, List.set_cons_succ, List.set_nil, Nat.reduceAdd, Nat.reduceSub, Nat.add_zero, Nat.zero_add, Nat.sub_self, Nat.sub_zero, Bool.not_true, Bool.not_false, if_true, if_false, decide_true, decide_false, Bool.true_and, Bool.and_true, Bool.false_and, Bool.and_false, Bool.or_true, Bool.true_or, Bool.false_or, Bool.or_false, String.reduceBEq, reduceIte, Bool.false_eq_true, true_and, and_true, Option.map_some, Option.map_none, Option.bind_some, Option.bind_none]
  rw [List.length_map, show js.map jD ++ [D.tup [D.int mid, D.str (Str.ofString "abc")], D.tup [D.int (mid + 1), D.str (Str.ofString "d")], D.tup [D.int mid, D.str (Str.ofString "b")]] = J.map jD from by rw [hJ, List.map_append]; rfl]
  refine ⟨by decide, by decide, by decide, by decide, by omega, hN.nx _ ?_⟩
  clear hN N
  walk_at "wps"
  have q3 : ∃ w, play s [(0, Str.ofString "ab"), (0, Str.ofString "a"), (1, Str.ofString "ba")] = .row w := ok_play (T := [(0, (Str.ofString "ab").cps.toList, 0), (0, (Str.ofString "a").cps.toList, 0), (1, (Str.ofString "ba").cps.toList, 0)]) ⟨Nat.zero_le _, by decide +kernel, Nat.zero_le _, by decide +kernel, (show 1 ≤ s.length + 2 + 1 by omega), by decide +kernel, trivial⟩ (fun t ht => by
    simp only [List.mem_cons, List.not_mem_nil, or_false] at ht
    rcases ht with rfl | rfl | rfl <;> decide +kernel)
  have q4 : ∃ w, play (Str.ofString "a") [(1, Str.ofString "ab"), (1, Str.ofString "ab"), (0, Str.ofString "c"), (3, Str.ofString "cd"), (4, Str.ofString "ef"), (2, Str.ofString "a")] = .row w := ok_play (T := [(1, (Str.ofString "ab").cps.toList, 0), (1, (Str.ofString "ab").cps.toList, 0), (0, (Str.ofString "c").cps.toList, 0), (3, (Str.ofString "cd").cps.toList, 0), (4, (Str.ofString "ef").cps.toList, 0), (2, (Str.ofString "a").cps.toList, 0)]) ⟨by decide +kernel, by decide +kernel, by decide +kernel, by decide +kernel, by decide +kernel, by decide +kernel, by decide +kernel, by decide +kernel, by decide +kernel, by decide +kernel, by decide +kernel, by decide +kernel, trivial⟩ (fun t ht => by
    simp only [List.mem_cons, List.not_mem_nil, or_false] at ht
    rcases ht with rfl | rfl | rfl | rfl | rfl | rfl <;> decide +kernel)
  obtain ⟨w3, q3⟩ := q3
  obtain ⟨w4, q4⟩ := q4
  -- ordered
  refine wp_sq fun N hN => ?_
  walk_at "wps"
  refine ordered_wp BJ ?_
  walk_at "wps"
  simp only [a0, wp_ret, wp_need, wp_pick, wp_exc, wp_bad, wp_bindE, wp_trE, wp_noexE, opt_some, opt_none, toDs_nil, toDs_cons, toD_fz, toD_os, toD_ol, toD_ok, sSet, sIf, sRet, sRetV, sRetN, sExpr, sBrk, sCont, sFrz, sNil, setS, sUnp, sFldM, sRaise, sApp, sExt, sItem, popM, sPop, sPopTo, sSlice, sAug, mC, mVar, m2, m1, tVal, tTru, tAndM, tOrM, tNotM, mAnd, mOr, mNot, mIf, maNil, maCons, frz, mTup, mLst, mLstN, mSl, oNone, oSome, mRevL, mRevS, mCB, mCall, mCallB, mMeth, mFld, mProp, mMake, mChain, mLc, tYesM, lcF, gN, gAll, gT, iSeq, iRange1, iRange2, iEnumLM, iEnumTM, iZipLM, iterD, listF, wipeL, truth, flatR, unb, brw, owns, fI2, fSub, fNeg, fAdd, fMul, fEq_i, fEq_s, fEq_b, fCmp, fIsN, Dn.isNon, fIx, fSl, fLen, fList, fTuple, fInt, fStr, fAbs, fMax2, fMin2, isiD, mIsi, mFmt, mJs, mM1, mM0, fSplit, fPart, fFind, fStarts, eqK, peek, listD, seqD, nestD, mLenO, mAbsO, mIxO, iOwn, sTryAs, setX, endX, mXv, mIsX, gNilM, gLift, gYield, gFrom, mListG0, mListG, List.map_cons, List.map_nil, List.length_cons, List.length_nil, List.replicate, List.cons_append, List.nil_append, List.append_nil, List.getElem?_cons_zero, List.getElem?_cons_succ, List.getElem?_nil, List.set_cons_zero, List.set_cons_succ, List.set_nil, Nat.reduceAdd, Nat.reduceSub, Nat.add_zero, Nat.zero_add, Nat.sub_self, Nat.sub_zero, Bool.not_true, Bool.not_false, if_true, if_false, decide_true, decide_false, Bool.true_and, Bool.and_true, Bool.false_and, Bool.and_false, Bool.or_true, Bool.true_or, Bool.false_or, Bool.or_false, String.reduceBEq, reduceIte, Bool.false_eq_true, true_and, and_true, Option.map_some, Option.map_none, Option.bind_some, Option.bind_none]
  refine ordered_wp Bj ?_
  walk_at "wps"
  refine ⟨by decide, ordered_wp (js := []) (w := s) (ord_ok rfl (by omega) (by decide) (fun j hj => absurd hj List.not_mem_nil) hsS) ?_⟩
  walk_at "wps"
  refine hN.nx _ ?_
  clear hN N
  refine wp_sq fun N hN => ?_
  walk_at "wps"
  refine ⟨by decide, by decide, by decide, by decide, ?_⟩
  refine ordered_wp (js := [(0, Str.ofString "ab"), (0, Str.ofString "a"), (1, Str.ofString "ba")]) (ord_ok q3 (by omega) (by decide) (fun j hj => ?_) hsS) ?_
  · simp only [List.mem_cons, List.not_mem_nil, or_false] at hj
    rcases hj with rfl | rfl | rfl <;> decide +kernel
  walk_at "wps"
  refine hN.nx _ ?_
  clear hN N
  refine wp_sq fun N hN => ?_
  walk_at "wps"
  refine ⟨by decide, by decide, by decide, by decide, by decide, by decide, by decide, ?_⟩
  refine ordered_wp (js := [(1, Str.ofString "ab"), (1, Str.ofString "ab"), (0, Str.ofString "c"), (3, Str.ofString "cd"), (4, Str.ofString "ef"), (2, Str.ofString "a")]) (ord_ok q4 (by decide +kernel) (by decide) (fun j hj => ?_) (sgn_group (by decide +kernel))) ?_
  · simp only [List.mem_cons, List.not_mem_nil, or_false] at hj
    rcases hj with rfl | rfl | rfl | rfl | rfl | rfl <;> decide +kernel
  walk_at "wps"
  refine hN.nx _ ?_
  clear hN N
  walk_at "wps"
  -- the rows
  refine wp_sq fun N hN => ?_
  walk_at "wps"
  refine played_wp p3 BJ.sm ?_
  walk_at "wps"
  refine hN.nx _ ?_
  clear hN N
  refine wp_sq fun N hN => ?_
  refine wp_forA ?_
  walk_at "wps"
  rw [List.length_map]
  refine ⟨⟨by omega, by omega⟩, ?_⟩
  refine wp_loopN (fun i ρ => ∃ x9, ρ = [.un, .fz .st, .fz (.str g), .fz (.str s), .fz (.lst (D.str w1 :: zs.map .str)), .os [.lst (js.map jD), .str e], .fz (.int mid), .fz (.lst (J.map jD)), .os ((rowsOf s J).map .str), x9, .un, .un, .un, .un]) ⟨_, rfl⟩ ?_ ?_
  · rintro i ρ hi ⟨x9, rfl⟩ F hF
    have h1 : i < J.length := by omega
    have h2 : i + 1 < J.length := by omega
    obtain ⟨row, r1, r2, r3⟩ := rowsOf_get p3 (i := i) (by omega)
    have r4 := rows_sgn p3 hsS row (List.mem_of_getElem? r1)
    have z1 := hJg _ (List.getElem_mem h1)
    have z2 := hJg _ (List.getElem_mem h2)
    have hd1 : J.drop i = (J[i].1, J[i].2) :: (J[i + 1].1, J[i + 1].2) :: J.drop (i + 2) := by
      rw [List.drop_eq_getElem_cons h1, List.drop_eq_getElem_cons h2]
    rw [hd1] at r2
    obtain ⟨g0, g1, gu, r2⟩ := play_row r2
    obtain ⟨h0, h3, gv, r2⟩ := play_row r2
    rw [ins_len g0 g1] at h3
    have bw := BJ.wl
    walk_at "wps"
    simp only [show (0 : Int) + (i : Int) = (i : Int) by omega, atI_get (show ((rowsOf s J).map D.str)[i]? = some (.str row) from by rw [List.getElem?_map, r1]; rfl), atI_get (show (J.map jD)[i]? = some (jD J[i]) from by rw [List.getElem?_map, List.getElem?_eq_getElem h1]; rfl), show (i : Int) + 1 = ((i + 1 : Nat) : Int) by omega, atI_get (show (J.map jD)[i + 1]? = some (jD J[i + 1]) from by rw [List.getElem?_map, List.getElem?_eq_getElem h2]; rfl), wp_ret, wp_need, wp_pick, wp_exc, wp_bad, wp_bindE, wp_trE, wp_noexE, opt_some, opt_none, toDs_nil, toDs_cons, toD_fz, toD_os, toD_ol, toD_ok, sSet, sIf, sRet, sRetV, sRetN, sExpr, sBrk, sCont, sFrz, sNil, setS, sUnp, sFldM, sRaise, sApp, sExt, sItem, popM, sPop, sPopTo, sSlice, sAug, mC, mVar, m2, m1, tVal, tTru, tAndM, tOrM, tNotM, mAnd, mOr, mNot, mIf, maNil, maCons, frz, mTup, mLst, mLstN, mSl, oNone, oSome, mRevL, mRevS, mCB, mCall, mCallB, mMeth, mFld, mProp, mMake, mChain, mLc, tYesM, lcF, gN, gAll, gT, iSeq, iRange1, iRange2, iEnumLM, iEnumTM, iZipLM, iterD, listF, wipeL, truth, flatR, unb, brw, owns, fI2, fSub, fNeg, fAdd, fMul, fEq_i, fEq_s, fEq_b, fCmp, fIsN, Dn.isNon, fIx, fSl, fLen, fList, fTuple, fInt, fStr, fAbs, fMax2, fMin2, isiD, mIsi, mFmt, mJs, mM1, mM0, fSplit, fPart, fFind, fStarts, eqK, peek, listD, seqD, nestD, mLenO, mAbsO, mIxO, iOwn, sTryAs, setX, endX, mXv, mIsX, gNilM, gLift, gYield, gFrom, mListG0, mListG, List.map_cons, List.map_nil, List.length_cons, List.length_nil, List.replicate, List.cons_append, List.nil_append, List.append_nil, List.getElem?_cons_zero, List.getElem?_cons_succ, List.getElem?_nil, List.set_cons_zero, List.set_cons_succ, List.set_nil, Nat.reduceAdd, Nat.reduceSub, Nat.add_zero, Nat.zero_add, Nat.sub_self, Nat.sub_zero, Bool.not_true, Bool.not_false, if_true, if_false, decide_true, decide_false, Bool.true_and, Bool.and_true, Bool.false_and, Bool.and_false, Bool.or_true, Bool.true_or, Bool.false_or, Bool.or_false, String.reduceBEq, reduceIte, Bool.false_eq_true, true_and, and_true, Option.map_some, Option.map_none, Option.bind_some, Option.bind_none]
    refine exchange_wp (a := J[i]) (b := J[i + 1]) ⟨by omega, r4, gu, gv, by omega, by omega, g0, g1, h0, by omega⟩ ?_
    refine fIsB_none isBl_ex ?_
    walk_at "wps"
    exact hF.nx _ ⟨_, rfl⟩
  rintro ρ ⟨x9, rfl⟩
  refine hN.nx _ ?_
  clear hN N
  -- all pairs
  refine wp_sq fun N hN => ?_
  walk_at "wps"
  refine word_wp ⟨hg1, hg2, by decide, by decide, by decide⟩ fun u hu => ?_
  walk_at "wps"
  refine hN.nx _ ?_
  clear hN N
  have hul := hu.hi
  have hug := word_group hg3 hu (by decide)
  refine wp_sq fun N hN => ?_
  walk_at "wps"
  simp only [show atI (D.str w1 :: zs.map .str) 0 = some (.str w1) from atI_get (i := 0) rfl, wp_ret, wp_need, wp_pick, wp_exc, wp_bad, wp_bindE, wp_trE, wp_noexE, opt_some, opt_none, toDs_nil, toDs_cons, toD_fz, toD_os, toD_ol, toD_ok, sSet, sIf, sRet, sRetV, sRetN, sExpr, sBrk, sCont, sFrz, sNil, setS, sUnp, sFldM, sRaise, sApp, sExt, sItem, popM, sPop, sPopTo, sSlice, sAug, mC, mVar, m2, m1, tVal, tTru, tAndM, tOrM, tNotM, mAnd, mOr, mNot, mIf, maNil, maCons, frz, mTup, mLst, mLstN, mSl, oNone, oSome, mRevL, mRevS, mCB, mCall, mCallB, mMeth, mFld, mProp, mMake, mChain, mLc, tYesM, lcF, gN, gAll, gT, iSeq, iRange1, iRange2, iEnumLM, iEnumTM, iZipLM, iterD, listF, wipeL, truth, flatR, unb, brw, owns, fI2, fSub, fNeg, fAdd, fMul, fEq_i, fEq_s, fEq_b, fCmp, fIsN, Dn.isNon, fIx, fSl, fLen, fList, fTuple, fInt, fStr, fAbs, fMax2, fMin2, isiD, mIsi, mFmt, mJs, mM1, mM0, fSplit, fPart, fFind, fStarts, eqK, peek, listD, seqD, nestD, mLenO, mAbsO, mIxO, iOwn, sTryAs, setX, endX, mXv, mIsX, gNilM, gLift, gYield, gFrom, mListG0, mListG, List.map_cons, List.map_nil, List.length_cons, List.length_nil, List.replicate, List.cons_append, List.nil_append, List.append_nil, List.getElem?_cons_zero, List.getElem?_cons_succ, List.getElem?_nil, List.set_cons_zero, List.set_cons_succ, List.set_nil, Nat.reduceAdd, Nat.reduceSub, Nat.add_zero, Nat.zero_add, Nat.sub_self, Nat.sub_zero, Bool.not_true, Bool.not_false, if_true, if_false, decide_true, decide_false, Bool.true_and, Bool.and_true, Bool.false_and, Bool.and_false, Bool.or_true, Bool.true_or, Bool.false_or, Bool.or_false, String.reduceBEq, reduceIte, Bool.false_eq_true, true_and, and_true, Option.map_some, Option.map_none, Option.bind_some, Option.bind_none]
  have ec : cutS s none (some 3) = tx (s.cps.toList.take 3) := by
    have := cut_to (l := s.cps.toList) (g := 3)
    rwa [tx_of] at this
  have ec1 : (cutS s none (some 3)).length ≤ 500 := by
    rw [ec, tx_len, List.length_take]
    omega
  have ec2 : Sgn (cutS s none (some 3)) := by
    rw [ec]
    exact fun c hc => hsS c (List.mem_of_mem_take hc)
  refine ⟨by omega, pairs_wp ⟨⟨ec1, ec2⟩, ⟨hug, by omega⟩, hw1g.1, by omega⟩ ?_⟩
  walk_at "wps"
  refine pairs_wp ⟨⟨by decide +kernel, sgn_group (by decide +kernel)⟩, ⟨by decide +kernel, by decide +kernel⟩, by decide +kernel, by decide +kernel⟩ ?_
  walk_at "wps"
  refine hN.nx _ ?_
  clear hN N
  -- far
  refine wp_sq fun N hN => ?_
  walk_at "wps"
  refine draw_wp (by decide) (by decide) fun m hm => ?_
  walk_at "wps"
  have ez : (repS (Str.ofString "z") (m : Int).toNat).length = m := by
    rw [repS_len, Int.toNat_natCast]
    exact Nat.mul_one m
  refine ⟨⟨by omega, by omega, by decide⟩, by omega, hN.nx _ ?_⟩
  clear hN N
  have fl : (s ++ repS (Str.ofString "z") (m : Int).toNat).length = s.length + m := by rw [Str.length_append, ez]
  have fS : Sgn (s ++ repS (Str.ofString "z") (m : Int).toNat) := fun c hc => by
    rcases mem_app.mp hc with hc | hc
    · exact hsS c hc
    · unfold repS at hc
      have hc : c ∈ (List.replicate (m : Int).toNat (Str.ofString "z").cps.toList).flatten := hc
      obtain ⟨l, h1, h2⟩ := List.mem_flatten.mp hc
      rw [List.eq_of_mem_replicate h1] at h2
      exact sgn_group (z := Str.ofString "z") (by decide +kernel) c h2
  generalize s ++ repS (Str.ofString "z") (m : Int).toNat = far at fl fS
  refine wp_sq fun N hN => ?_
  walk_at "wps"
  refine ⟨by omega, draw_wp (by omega) (by omega) fun gp hgp => ?_⟩
  walk_at "wps"
  refine hN.nx _ ?_
  clear hN N
  refine wp_sq fun N hN => ?_
  walk_at "wps"
  refine ⟨by omega, by omega, draw_wp (by omega) (by omega) fun lt hlt => ?_⟩
  walk_at "wps"
  refine hN.nx _ ?_
  clear hN N
  have kg : groupB (Str.ofString "k") = true := by decide +kernel
  have kl : (Str.ofString "k").length = 1 := rfl
  refine wp_sq fun N hN => ?_
  walk_at "wps"
  refine ⟨by decide, by decide, exchange_wp (a := ((gp : Int), u)) (b := ((lt : Int), Str.ofString "k")) ⟨by omega, fS, hug, kg, by simp only; omega, by simp only; omega, by simp only; omega, by simp only; omega, by simp only; omega, by simp only; omega⟩ ?_⟩
  refine fIsB_none isBl_ex ?_
  walk_at "wps"
  refine hN.nx _ ?_
  clear hN N
  walk_at "wps"
  refine ⟨by decide, by omega, by decide, exchange_wp (a := ((gp : Int), u)) (b := ((gp : Int) + (u.length : Int), Str.ofString "k")) ⟨by omega, fS, hug, kg, by simp only; omega, by simp only; omega, by simp only; omega, by simp only; omega, by simp only; omega, by simp only; omega⟩ ?_⟩
  refine fIsB_none isBl_ex ?_
  walk_at "wps"
  exact trivial
end
end Q07
end

section
set_option Elab.async false
set_option linter.all false
set_option maxRecDepth 100000
set_option maxHeartbeats 4000000
namespace L07
open PySem PySem.Spec PyProof.Rows L2 Dn GrO Evl Q07
section
variable {P : Program} {w : World} {K : PySem.W.Frag} {mg : Str → Option Value} {base : Heap} {H : Hp}
theorem ok_l_new (T : Tx P K mg) : FnOk P w K mg base (L2.CX P w) 1 T.l_new.f T.l_new.fd ["_law_script"] (Dn.sp_l_new (K := K)) := by
  refine T.l_new.F.okX sc_l_new (fun vs H Q E h => ?_) (fun cdv A outer s H vs Q E hr h => ?_)
  · obtain ⟨a, ns, rfl, _⟩ := h
    rfl
  · obtain ⟨a, ns, rfl, hS, hn, q⟩ := h
    refine ⟨_, (pss_one (ps_ret (pe_lst (pa_cons (pe_callTy call_list_of (by rfl) T.b_list (by decide +kernel) (pa_cons (pv 0) pa_nil)) (pa_cons pe_int (pa_cons pe_int (pa_cons pe_int (pa_cons pe_int pa_nil)))))))), ?_⟩
    refine ⟨.ref a, rfl, a, ns.map V.int, rfl, Or.inl hS, fun l nl => ?_⟩
    refine ⟨by show 5 ≤ sizeLine; decide, fun p np => ?_⟩
    have hlp : l ≠ p := fun z => by
      rw [z, upd_same] at np
      cases np
    refine q _ p ((Ex.new nl).trans (Ex.new np)) (fresh_back (Ex.new nl) np) ⟨l, ns, 0, 0, 0, 0, upd_same, ?_, hn⟩
    rw [upd_ne hlp, upd_same]
end
section
local macro_rules | `(tactic| walk_at "rv") => `(tactic| first
  | exact rv_I0
  | (apply rv_I; first | exact (by decide) | (refine Or.inr ⟨?_, ?_⟩ <;> decide) | (refine Or.inl ⟨?_, ?_⟩ <;> decide) | (refine ⟨?_, ?_⟩ <;> first | decide | omega) | (refine ⟨?_, ?_, ?_⟩ <;> first | decide | omega) | omega | assumption)
  | (apply rv_eq; rfl)
  | (apply rv_ne; rfl)
  | (apply rv_ixL; (focus (apply sq_of; assumption)); (focus rfl))
  | exact rv_inSg
  | exact rv_niSg
  | exact rv_ltS
  | (apply rv_addT; first | assumption | omega))
local macro_rules | `(tactic| walk_at "ev") => `(tactic| first
  | exact ev_c
  | (apply ev_var; rfl)
  | assumption
  | (apply ev_op; (focus walk_at "ev"); (focus walk_at "ev"); (focus walk_at "rv"))
  | (apply ev_len; (focus walk_at "ev"); (focus (apply sq_of; assumption)))
  | (apply ev_lenS; (focus walk_at "ev"); (focus (first | assumption | omega)))
  | (apply ev_int1; (focus walk_at "ev"))
  | (apply ev_intB; (focus walk_at "ev"))
  | (apply ev_notV; (focus walk_at "ev"))
  | (apply ev_chain; (focus walk_at "ev"); (focus walk_at "ev"); (focus walk_at "rv"); (focus walk_at "ev"); (focus walk_at "rv")))
local macro_rules | `(tactic| walk_at "et") => `(tactic| first
  | (apply et_and; (focus walk_at "et"); (focus (intro _; walk_at "et")))
  | (apply et_or; (focus walk_at "et"); (focus (intro _; walk_at "et")))
  | (apply et_not; (focus walk_at "et"))
  | (apply et_test; (focus walk_at "ev"))
  | (apply et_B; (focus walk_at "ev")))
local macro_rules | `(tactic| walk_at "ea") => `(tactic| first
  | exact ea_nil
  | (apply ea_cons; (focus walk_at "ev"); (focus walk_at "ea")))
local macro_rules | `(tactic| walk_at "ev") => `(tactic| (apply ev_call; (focus walk_at "ea"); (focus walk_at "spv")))
local macro_rules | `(tactic| walk_at "rv") => `(tactic| exact rv_isN)
local macro_rules | `(tactic| walk_at "ev") => `(tactic| (apply ev_len2; (focus walk_at "ev"); (focus (first | exact Or.inl (by assumption) | exact Or.inr (by assumption)))))
local macro_rules | `(tactic| walk_at "kit") => `(tactic| first | exact kit_bool_bool | exact kit_bool_int | exact kit_bool_str | exact kit_bool_list | exact kit_bool_tuple | exact kit_int_bool | exact kit_int_int | exact kit_int_str | exact kit_int_list | exact kit_int_tuple | exact kit_str_bool | exact kit_str_int | exact kit_str_str | exact kit_str_list | exact kit_str_tuple | exact kit_list_bool | exact kit_list_int | exact kit_list_str | exact kit_list_list | exact kit_list_tuple | exact kit_tuple_bool | exact kit_tuple_int | exact kit_tuple_str | exact kit_tuple_list | exact kit_tuple_tuple)
local macro_rules | `(tactic| walk_at "ty") => `(tactic| first | exact typ_non | exact typ_bl | exact typ_int | exact typ_str | (apply typ_lst; assumption) | (apply typ_tup; assumption))
local macro_rules | `(tactic| walk_at "ev") => `(tactic| (apply ev_isi; (focus walk_at "ev"); (focus walk_at "ty"); (focus walk_at "kit")))
local macro_rules | `(tactic| walk_at "ev") => `(tactic| (apply ev_andV; (focus walk_at "ev"); (focus (intro _; walk_at "ev"))))
local macro_rules | `(tactic| walk_at "ev") => `(tactic| (apply ev_slS; (focus walk_at "ev"); (focus walk_at "eo"); (focus walk_at "eo"); (focus first | assumption | omega)))
local macro_rules | `(tactic| walk_at "eo") => `(tactic| first | exact eox_no | (apply eo_some; (focus walk_at "ev")))
variable {P : Program} {w : World} {K : PySem.W.Frag} {mg : Str → Option Value} {base : Heap}
theorem ok0_l_draw (T : Tx P K mg) : FnOk P w K mg base (L2.CX P w) 1 T.l_draw.f T.l_draw.fd ["_law_state", "_law_many"] Dn.sp_l_draw := by
  refine T.l_draw.F.okX sc_l_draw (fun vs H Q E h => ?_) (fun cdv A outer s H vs Q E hr h => ?_)
  · obtain ⟨p, m, rfl, _⟩ := h
    rfl
  · obtain ⟨p, m, rfl, hds, hm1, hm2, q⟩ := h
    refine ⟨_, (Evl.pss_cut (ps_if (PW.pt (pw_and (pt_cmpR op_eq (pe_ix ix_list (pv 0) pe_int (fun _ _ => rfl)) pe_int (nomark _)) (pw_and1 (pt_cmpR op_lt (pe_ix ix_list (pv 0) pe_int (fun _ _ => rfl)) (pe_callB call_len_seq (by rfl) T.b_len PySem.boot_len (pa_cons (pe_ix ix_list (pv 0) pe_int (fun _ _ => rfl)) pa_nil)) (nomark _)))))
        (pss_cons (ps_set (i := 2) sc_l_draw.nd rfl (Or.inl rfl) (pe_ix ix_list (pe_ix ix_list (pv 0) pe_int (fun _ _ => rfl)) (pe_ix ix_list (pv 0) pe_int (fun _ _ => rfl)) (fun _ _ => rfl)))
        (pss_cons (ps_asg (pe_callTy call_int1 (by rfl) T.b_int (by decide +kernel) (pa_cons (pe_cmpR op_ge (pv 2) (pe_op op_pow pe_int pe_int) (nomark _)) pa_nil)) (pg_sub (pv 0) pe_int set_list))
        (pss_cons (ps_asg pe_int (pg_sub (pv 0) pe_int set_list))
        (pss_cons (ps_asg (pe_op op_modN (pe_callTy call_int1 (by rfl) T.b_int (by decide +kernel) (pa_cons (pe_op op_add (pe_op op_mul (pv 2) pe_int) (pe_op op_mul pe_int (pe_ix ix_list (pv 0) pe_int (fun _ _ => rfl)))) pa_nil)) pe_int) (pg_sub (pv 0) pe_int set_list))
        (Evl.pss_cut (ps_if (pt_cmpR op_eq (pe_ix ix_list (pv 0) pe_int (fun _ _ => rfl)) pe_int (nomark _))
          (pss_cons (ps_asg pe_int (pg_sub (pv 0) pe_int set_list))
          (pss_one (ps_asg (pe_op op_sub (pv 2) (pe_op op_pow pe_int pe_int)) (pg_sub (pv 0) pe_int set_list)))) pss_nil)
        (pss_one (ps_asg (pe_op op_add (pe_ix ix_list (pv 0) pe_int (fun _ _ => rfl)) pe_int) (pg_sub (pv 0) pe_int set_list)))))))) pss_nil)
      (pss_cons (ps_if (pt_cmpR op_eq (pe_ix ix_list (pv 0) pe_int (fun _ _ => rfl)) pe_int (nomark _))
        (pss_one (ps_ret pe_int)) pss_nil)
      (pss_cons (ps_asg (pe_op op_sub (pe_ix ix_list (pv 0) pe_int (fun _ _ => rfl)) pe_int) (pg_sub (pv 0) pe_int set_list))
      (pss_cons (ps_if (pt_cmpR op_eq (pe_ix ix_list (pv 0) pe_int (fun _ _ => rfl)) pe_int (nomark _))
        (pss_cons (ps_set (i := 3) sc_l_draw.nd rfl (Or.inl rfl) (pe_op op_modN (pe_callTy call_int1 (by rfl) T.b_int (by decide +kernel) (pa_cons (pe_ix ix_list (pv 0) pe_int (fun _ _ => rfl)) pa_nil)) (pv 1)))
        (pss_cons (ps_asg (pe_op op_fdivW (pe_ix ix_list (pv 0) pe_int (fun _ _ => rfl)) (pv 1)) (pg_sub (pv 0) pe_int set_list))
        (Evl.pss_cut (ps_if (pt_cmpR op_eq (pe_ix ix_list (pv 0) pe_int (fun _ _ => rfl)) pe_int (nomark _))
          (pss_one (ps_asg pe_int (pg_sub (pv 0) pe_int set_list))) pss_nil)
        (pss_one (ps_ret (pv 3)))))) pss_nil)
      (pss_cons (ps_asg (pe_op op_modN (pe_callTy call_int1 (by rfl) T.b_int (by decide +kernel) (pa_cons (pe_op op_mul (pe_ix ix_list (pv 0) pe_int (fun _ _ => rfl)) pe_int) pa_nil)) pe_int) (pg_sub (pv 0) pe_int set_list))
      (pss_one (ps_ret (pe_op op_modN (pe_callTy call_int1 (by rfl) T.b_int (by decide +kernel) (pa_cons (pe_op op_fdivN (pe_ix ix_list (pv 0) pe_int (fun _ _ => rfl)) pe_int) pa_nil)) (pv 1))))))))), ?_⟩
    obtain ⟨qa, ns, i0, b0, c0, d0, hp, hq, hn⟩ := hds
    have hne : qa ≠ p := DrS.ne hp hq
    have hp0 := hp
    have hA : At p (.lst [.ref qa, .int (i0 : Int), .int b0, .int c0, .int d0]) H H := ⟨hp, fun _ _ _ e => e⟩
    -- behind the refilling
    refine ⟨(fun σ' H' => ∃ (x2 : Option V) (i : Nat) (b c d : Int), σ' = [some (.ref p), some (.int m), x2, none] ∧ At p (.lst [.ref qa, .int (i : Int), .int b, .int c, .int d]) H H'), ?_, ?_⟩
    · refine s_if (by walk_at "et") (fun hb H1 e1 => ?_) (fun hb H1 e1 => ?_)
      · have hi : i0 < ns.length := by
          have h2 := (Bool.and_eq_true_iff.mp hb).2
          have h3 := of_decide_eq_true h2
          rw [List.length_map] at h3
          omega
        have hA := hA.ex e1
        have hp := hA.1
        have hq1 := hA.2 _ _ hne hq
        have hx : atI (ns.map V.int) (i0 : Int) = some (.int ns[i0]) := by
          refine atI_nat ?_
          rw [List.getElem?_map, List.getElem?_eq_getElem hi]
          rfl
        refine q_asg (v := .int ns[i0]) (ev_op (x := .ref qa) (y := .int (i0 : Int)) (by walk_at "ev") (by walk_at "ev") (rv_ixL (sq_of hq1) hx)) fun H1 e1 => ?_
        have hA := hA.ex e1
        have hp := hA.1
        generalize hcell : ns[i0] = cell
        refine q_st 4 _ hA rfl (by walk_at "ev") rfl rfl rfl fun H1 hA hp => ?_
        refine q_st 3 _ hA rfl (by walk_at "ev") rfl rfl rfl fun H1 hA hp => ?_
        refine q_st 2 _ hA rfl (by walk_at "ev") rfl rfl rfl fun H1 hA hp => ?_
        refine ⟨(fun σ' H' => ∃ (b c d : Int), σ' = [some (.ref p), some (.int m), some (.int cell), none] ∧ At p (.lst [.ref qa, .int (i0 : Int), .int b, .int c, .int d]) H H'), ?_, ?_⟩
        · refine s_if (by walk_at "et") (fun hb H1 e1 => ?_) (fun hb H1 e1 => ?_)
          · have hA := hA.ex e1
            have hp := hA.1
            refine q_st 3 _ hA rfl (by walk_at "ev") rfl rfl rfl fun H1 hA hp => ?_
            refine s_st 2 _ hA rfl (by walk_at "ev") rfl rfl rfl fun H1 hA hp => ?_
            exact ⟨_, _, _, rfl, hA⟩
          · exact ⟨_, _, _, rfl, hA.ex e1⟩
        · rintro σ' H' ⟨b, c, d, rfl, hA⟩
          have hp := hA.1
          refine s_st 1 _ hA rfl (by walk_at "ev") rfl rfl rfl fun H1 hA hp => ?_
          exact ⟨_, i0 + 1, _, _, _, rfl, hA⟩
      · exact ⟨none, i0, b0, c0, d0, rfl, hA.ex e1⟩
    · rintro σ' H' ⟨x2, i, b, c, d, rfl, hA⟩
      have fin : ∀ {i : Nat} {b c d : Int} {H' : Hp}, At p (.lst [.ref qa, .int (i : Int), .int b, .int c, .int d]) H H' → Fr p H H' := fun {i b c d H'} hA => ⟨⟨qa, ns, i, b, c, d, hA.1, hA.2 _ _ hne hq, hn⟩, hA.2, fun q2 r2 e2 => by
        have e3 : q2 = qa := by
          rw [hp0] at e2
          have := Option.some.inj e2
          injection this with e4
          injection e4 with e5 _
          injection e5 with e6
          exact e6.symm
        rw [e3]
        exact ⟨_, hA.1⟩⟩
      have hp := hA.1
      refine q_when (by walk_at "et") (fun hb H1 e1 => ?_) (fun hb H1 e1 => ?_)
      · exact s_ret ev_c fun H2 e2 => q 0 H2 (by omega) (fin ((hA.ex e1).ex e2))
      have hA := hA.ex e1
      have hp := hA.1
      refine q_st 3 _ hA rfl (by walk_at "ev") rfl rfl rfl fun H1 hA hp => ?_
      refine q_when (by walk_at "et") (fun hb H1 e1 => ?_) (fun hb H1 e1 => ?_)
      · have hA := hA.ex e1
        have hp := hA.1
        obtain ⟨r, hr1, hr2⟩ := draw_mod (x := b) hm1
        have hmne : m ≠ 0 := by omega
        have hmd : CDivW b m := big_div hm1 hm2
        refine q_asg (by walk_at "ev") fun H1 e1 => ?_
        have hA := hA.ex e1
        have hp := hA.1
        refine q_st 2 _ hA rfl (by walk_at "ev") rfl rfl rfl fun H1 hA hp => ?_
        refine ⟨(fun σ' H' => ∃ (c : Int), σ' = [some (.ref p), some (.int m), x2, some (.int (b.fmod m))] ∧ At p (.lst [.ref qa, .int (i : Int), .int (b / m), .int c, .int d]) H H'), ?_, ?_⟩
        · refine s_if (by walk_at "et") (fun hb H1 e1 => ?_) (fun hb H1 e1 => ?_)
          · have hA := hA.ex e1
            have hp := hA.1
            refine s_st 3 _ hA rfl (by walk_at "ev") rfl rfl rfl fun H1 hA hp => ?_
            exact ⟨_, rfl, hA⟩
          · exact ⟨_, rfl, hA.ex e1⟩
        · rintro σ' H' ⟨c, rfl, hA⟩
          rw [hr1]
          exact s_ret (by walk_at "ev") fun H2 e2 => q r H2 hr2 (fin (hA.ex e2))
      · have hA := hA.ex e1
        have hp := hA.1
        have hmne : m ≠ 0 := by omega
        refine q_st 2 _ hA rfl (by walk_at "ev") rfl rfl rfl fun H1 hA hp => ?_
        obtain ⟨r, hr1, hr2⟩ := draw_mod (x := ((b * 48271).fmod 2147483629).fdiv 8) hm1
        refine s_ret (v := .int (((b * 48271).fmod 2147483629).fdiv 8 |>.fmod m)) (by walk_at "ev") fun H2 e2 => ?_
        rw [hr1]
        exact q r H2 hr2 (fin (hA.ex e2))
theorem ok_l_draw (T : Tx P K mg) (a q : Addr) : FnOk P w K mg base (L2.CX P w) 1 T.l_draw.f T.l_draw.fd ["_law_state", "_law_many"] (spM K (mkW T a q) 2 fs_draw) := fn_imp (ok0_l_draw T) fun vs H Q E h => draw_sp h
end
section
variable {P : Program} {w : World} {K : PySem.W.Frag} {mg : Str → Option Value} {base : Heap}
theorem okS_l_same (T : Tx P K mg) (a q : Addr) (k : Nat) (g sp : Fs) (G_l_same : FnOk P w K mg base (L2.CX P w) k T.l_same.f T.l_same.fd ["_law_actual", "_law_due"] (spM K (mkW T a q) 2 g)) (hsp : ∀ ds : List D, ds.length = 2 → Ref (runB (m_l_same g) 3 ds) (sp ds)) : FnOk P w K mg base (L2.CX P w) (k + 1) T.l_same.f T.l_same.fd ["_law_actual", "_law_due"] (spM K (mkW T a q) 2 sp) := by
  refine fn_den T.l_same.F sc_l_same rfl (fun cdv A outer s H E hr => (dss_cons (ds_if (dt_cmp op_isN om_isN (de_v 1 (pv 1)) de_non (nomark _))
        (dss_one (ds_ret (de_cmp op_isN om_isN (de_v 0 (pv 0)) de_non (nomark _)))) dss_nil)
      (dss_cons (ds_if (dt_val (de_isi (t := "bool") (by decide) (by rfl) T.b_isinstance (by decide +kernel) (pe_bltn (v := .ty "bool") (by rfl) T.b_bool (by decide +kernel) rfl) (de_v 1 (pv 1))))
        (dss_one (ds_ret (de_and (de_isi (t := "bool") (by decide) (by rfl) T.b_isinstance (by decide +kernel) (pe_bltn (v := .ty "bool") (by rfl) T.b_bool (by decide +kernel) rfl) (de_v 0 (pv 0))) (de_one (de_cmp (op_eqA hr.units) om_eq (de_v 0 (pv 0)) (de_v 1 (pv 1)) (nomark _)))))) dss_nil)
      (dss_cons (ds_if (dt_val (de_isi (t := "int") (by decide) (by rfl) T.b_isinstance (by decide +kernel) (pe_bltn (v := .ty "int") (by rfl) T.b_int (by decide +kernel) rfl) (de_v 1 (pv 1))))
        (dss_one (ds_ret (de_and (de_isi (t := "int") (by decide) (by rfl) T.b_isinstance (by decide +kernel) (pe_bltn (v := .ty "int") (by rfl) T.b_int (by decide +kernel) rfl) (de_v 0 (pv 0))) (de_and (de_not (de_isi (t := "bool") (by decide) (by rfl) T.b_isinstance (by decide +kernel) (pe_bltn (v := .ty "bool") (by rfl) T.b_bool (by decide +kernel) rfl) (de_v 0 (pv 0)))) (de_one (de_cmp (op_eqA hr.units) om_eq (de_v 0 (pv 0)) (de_v 1 (pv 1)) (nomark _))))))) dss_nil)
      (dss_cons (ds_if (dt_val (de_isi (t := "str") (by decide) (by rfl) T.b_isinstance (by decide +kernel) (pe_bltn (v := .ty "str") (by rfl) T.b_str (by decide +kernel) rfl) (de_v 1 (pv 1))))
        (dss_one (ds_ret (de_and (de_isi (t := "str") (by decide) (by rfl) T.b_isinstance (by decide +kernel) (pe_bltn (v := .ty "str") (by rfl) T.b_str (by decide +kernel) rfl) (de_v 0 (pv 0))) (de_one (de_cmp (op_eqA hr.units) om_eq (de_v 0 (pv 0)) (de_v 1 (pv 1)) (nomark _)))))) dss_nil)
      (dss_cons (ds_if (dt_w (dt_and (dt_val (de_isi (t := "tuple") (by decide) (by rfl) T.b_isinstance (by decide +kernel) (pe_bltn (v := .ty "tuple") (by rfl) T.b_tuple (by decide +kernel) rfl) (de_v 1 (pv 1)))) (dt_and1 (dt_not (dt_val (de_isi (t := "tuple") (by decide) (by rfl) T.b_isinstance (by decide +kernel) (pe_bltn (v := .ty "tuple") (by rfl) T.b_tuple (by decide +kernel) rfl) (de_v 0 (pv 0))))))))
        (dss_one (ds_ret de_bl)) dss_nil)
      (dss_cons (ds_if (dt_w (dt_and (dt_val (de_isi (t := "list") (by decide) (by rfl) T.b_isinstance (by decide +kernel) (pe_bltn (v := .ty "list") (by rfl) T.b_list (by decide +kernel) rfl) (de_v 1 (pv 1)))) (dt_and1 (dt_not (dt_val (de_isi (t := "list") (by decide) (by rfl) T.b_isinstance (by decide +kernel) (pe_bltn (v := .ty "list") (by rfl) T.b_list (by decide +kernel) rfl) (de_v 0 (pv 0))))))))
        (dss_one (ds_ret de_bl)) dss_nil)
      (dss_cons (ds_if (dt_cmp (op_neA hr.units) om_eq (de_cb call_lenM cm_len (by rfl) T.b_len PySem.boot_len (da_cons (de_v 0 (pv 0)) da_nil)) (de_cb call_lenM cm_len (by rfl) T.b_len PySem.boot_len (da_cons (de_v 1 (pv 1)) da_nil)) (nomark _))
        (dss_one (ds_ret de_bl)) dss_nil)
      (dss_cons (ds_for (passes_of rfl) rfl (di_range1 (by rfl) T.b_range (de_cb call_lenM cm_len (by rfl) T.b_len PySem.boot_len (da_cons (de_v 1 (pv 1)) da_nil))) (pg_name (i := 2) sc_l_same.nd rfl (Or.inl rfl)) (tg_N)
        (dss_one (ds_if (dt_not (dt_val (de_callB G_l_same hr (by rfl) T.l_same.g T.l_same.F.kp T.l_same.B (takes_of rfl rfl rfl rfl) (da_cons (de_ix (de_v 0 (pv 0)) (de_v 2 (pv 2))) (da_cons (de_ix (de_v 1 (pv 1)) (de_v 2 (pv 2))) da_nil)))))
          (dss_one (ds_ret de_bl)) dss_nil)))
      (dss_one (ds_ret de_bl))))))))))) (fun ds hl => ?_)
  exact hsp ds hl
theorem ok_l_same (T : Tx P K mg) (a q : Addr) : FnOk P w K mg base (L2.CX P w) 8 T.l_same.f T.l_same.fd ["_law_actual", "_law_due"] (spM K (mkW T a q) 2 fs_l_same) := by
  have go : ∀ n, FnOk P w K mg base (L2.CX P w) n T.l_same.f T.l_same.fd ["_law_actual", "_law_due"] (spM K (mkW T a q) 2 (fs_same n)) := by
    intro n
    induction n with
    | zero => exact fn_badF fun _ => rfl
    | succ n ih => exact okS_l_same T a q n (fs_same n) (fs_same (n + 1)) ih fun ds hl => ref_l_same hl
  exact go 8
theorem ok_is_letters (T : Tx P K mg) (a q : Addr) : FnOk P w K mg base (L2.CX P w) 1 T.is_letters.f T.is_letters.fd ["text"] (spM K (mkW T a q) 1 fs_is_letters) := by
  refine fn_den T.is_letters.F sc_is_letters rfl (fun cdv A outer s H E hr => (dss_one (ds_ret (de_cb (cr_all rfl) cm_all (by rfl) T.b_all (by decide +kernel) (da_cons (de_lc (own := [("sign", 1)]) (g := gName 1) rfl sc_is_letters.nd (di_seq (de_v 0 (pv 0))) (blkOk_by (N := N_is_letters) (sc := defScope s_is_letters) (by decide +kernel)) (tg_N) (tw_N (by decide)) (fun _ _ _ _ _ => (pg_name (i := 1) sc_is_letters.nd rfl (Or.inl rfl))) (fun _ _ _ _ _ => dts_nil) (fun _ _ _ _ _ => (de_cmp op_inA om_in (de_v 1 (pv 1)) (de_gs (s := "abcdefghijklmnopqrstuvwxyz") (by rfl) T.g_LETTERS) (by rfl)))) da_nil))))) (fun ds hl => ?_)
  exact ref_is_letters hl
theorem ok_is_group (T : Tx P K mg) (a q : Addr) : FnOk P w K mg base (L2.CX P w) 2 T.is_group.f T.is_group.fd ["text"] (spM K (mkW T a q) 1 fs_is_group) := by
  refine fn_den T.is_group.F sc_is_group rfl (fun cdv A outer s H E hr => (dss_one (ds_ret (de_and (de_cmp (op_neA hr.units) om_eq (de_v 0 (pv 0)) de_str (nomark _)) (de_one (de_call (ok_is_letters T a q) (hr.mono (by decide)) (by rfl) T.is_letters.g T.is_letters.F.kp T.is_letters.B (takes_of rfl rfl rfl rfl) (da_cons (de_v 0 (pv 0)) da_nil))))))) (fun ds hl => ?_)
  exact ref_is_group hl
theorem ok_check_group (T : Tx P K mg) (a q : Addr) : FnOk P w K mg base (L2.CX P w) 3 T.check_group.f T.check_group.fd ["group"] (spM K (mkW T a q) 1 fs_check_group) := by
  refine fn_den T.check_group.F sc_check_group rfl (fun cdv A outer s H E hr => (dss_cons (ds_if (dt_not (dt_val (de_call (ok_is_group T a q) (hr.mono (by decide)) (by rfl) T.is_group.g T.is_group.F.kp T.is_group.B (takes_of rfl rfl rfl rfl) (da_cons (de_v 0 (pv 0)) da_nil))))
        (dss_one (ds_raise (c := 103) rfl T.base T.o_InvalidGroup hr T.g_InvalidGroup (takes_of rfl rfl rfl rfl) (de_v 0 (pv 0)))) dss_nil)
      (dss_one (ds_retV 0 (pv 0))))) (fun ds hl => ?_)
  exact ref_check_group hl
theorem ok_Growth_init (T : Tx P K mg) (a q : Addr) : FnOk P w K mg base (L2.CX P w) 4 T.Growth_init.f T.Growth_init.fd ["self", "start", "joins"] (spI K (mkW T a q) 0 2 fs_Growth_init) := by
  refine init_denD (L := 3) T.Growth_init.F sc_Growth_init rfl rfl (fun cdv A outer s H E hr => (dss_cons (ds_asg (ps_set (i := 3) sc_Growth_init.nd rfl (Or.inl rfl) (de_v 1 (pv 1))))
      (dss_cons (ds_for (passes_of rfl) rfl (di_seq (de_v 2 (pv 2))) (pg_tup (n := 2) (by rfl) (pgs_cons (pg_name (i := 4) sc_Growth_init.nd rfl (Or.inl rfl)) (pgs_cons (pg_name (i := 5) sc_Growth_init.nd rfl (Or.inl rfl)) pgs_nil))) (tg_T (tgs_cons (tg_N) (tgs_cons (tg_N) tgs_nil)))
        (dss_cons (ds_if (dt_not (dt_chain op_leA om_cmp op_leA om_cmp de_int (de_v 4 (pv 4)) (de_cb call_lenM cm_len (by rfl) T.b_len PySem.boot_len (da_cons (de_v 3 (pv 3)) da_nil))))
          (dss_one (ds_raise (c := 107) rfl T.base T.o_GapOutOfRange hr T.g_GapOutOfRange (takes_of rfl rfl rfl rfl) (de_v 4 (pv 4)))) dss_nil)
        (dss_one (ds_asg (ps_set (i := 3) sc_Growth_init.nd rfl (Or.inl rfl) (de_op op_addA om_add (de_op op_addA om_add (de_sl sl_M sm_sl (de_v 3 (pv 3)) do_none (do_some (de_v 4 (pv 4)))) (de_call (ok_check_group T a q) (hr.mono (by decide)) (by rfl) T.check_group.g T.check_group.F.kp T.check_group.B (takes_of rfl rfl rfl rfl) (da_cons (de_v 5 (pv 5)) da_nil))) (de_sl sl_M sm_sl (de_v 3 (pv 3)) (do_some (de_v 4 (pv 4))) do_none)))))))
      (dss_cons (ds_fld (i := 0) (c := 0) (j := 0) (pv 0) T.cl_Growth T.n_Growth_start (show List.Nodup (["start", "joins", "_row"] : List Str) from by decide +kernel) rfl (show 3 ≤ 900 from by decide) (de_v 1 (pv 1)))
      (dss_cons (ds_fld (i := 0) (c := 0) (j := 1) (pv 0) T.cl_Growth T.n_Growth_joins (show List.Nodup (["start", "joins", "_row"] : List Str) from by decide +kernel) rfl (show 3 ≤ 900 from by decide) (de_cty call_tupleM cm_tuple (by rfl) T.b_tuple (by decide +kernel) (da_cons (de_lc (own := [("gap", 4), ("group", 5)]) (g := gTup K 2 (gCons (gName 4) (gCons (gName 5) (gNil)))) rfl sc_Growth_init.nd (di_seq (de_v 2 (pv 2))) (blkOk_by (N := N_Growth_init) (sc := defScope s_Growth_init) (by decide +kernel)) (tg_T (tgs_cons (tg_N) (tgs_cons (tg_N) tgs_nil))) (tw_T (tw_cons mo_N (mo_cons mo_N mo_nil) (tw_N (by decide)) (tw_cons mo_N mo_nil (tw_N (by decide)) tw_nil))) (fun _ _ _ _ _ => (pg_tup (n := 2) (by rfl) (pgs_cons (pg_name (i := 4) sc_Growth_init.nd rfl (Or.inl rfl)) (pgs_cons (pg_name (i := 5) sc_Growth_init.nd rfl (Or.inl rfl)) pgs_nil)))) (fun _ _ _ _ _ => dts_nil) (fun _ _ _ _ _ => (de_tup (da_cons (de_v 4 (pv 4)) (da_cons (de_v 5 (pv 5)) da_nil))))) da_nil)))
      (dss_one (ds_fld (i := 0) (c := 0) (j := 2) (pv 0) T.cl_Growth T.n_Growth_row (show List.Nodup (["start", "joins", "_row"] : List Str) from by decide +kernel) rfl (show 3 ≤ 900 from by decide) (de_v 3 (pv 3))))))))) (fun p ds hl => ?_)
  exact ref_Growth_init hl
theorem ok_Growth_row (T : Tx P K mg) (a q : Addr) : FnOk P w K mg base (L2.CX P w) 1 T.Growth_row_f T.Growth_row_fd ["self"] (spM K (mkW T a q) 1 fs_Growth_row) := by
  refine fn_den T.Growth_row_F sc_Growth_row rfl (fun cdv A outer s H E hr => (dss_one (ds_ret (de_fld (c := 0) (j := 2) (de_v 0 (pv 0)) T.cl_Growth T.n_Growth_row (show List.Nodup (["start", "joins", "_row"] : List Str) from by decide +kernel) rfl)))) (fun ds hl => ?_)
  exact ref_Growth_row hl
theorem ok_Growth_owners (T : Tx P K mg) (a q : Addr) : FnOk P w K mg base (L2.CX P w) 1 T.Growth_owners.f T.Growth_owners.fd ["self"] (spM K (mkW T a q) 1 fs_Growth_owners) := by
  refine fn_den T.Growth_owners.F sc_Growth_owners rfl (fun cdv A outer s H E hr => (dss_cons (ds_setLc (i := 1) (own := [("place", 5)]) (g := gName 5) rfl sc_Growth_owners.nd rfl rfl (sw_true rfl rfl rfl (by decide +kernel)) (di_range2 (by rfl) T.b_range de_int (de_op op_addA om_add (de_cb call_lenM cm_len (by rfl) T.b_len PySem.boot_len (da_cons (de_fld (c := 0) (j := 0) (de_v 0 (pv 0)) T.cl_Growth T.n_Growth_start (show List.Nodup (["start", "joins", "_row"] : List Str) from by decide +kernel) rfl) da_nil)) de_int)) (blkOk_by (N := N_Growth_owners) (sc := defScope s_Growth_owners) (by decide +kernel)) (tg_N) (tw_N (by decide)) (fun _ _ _ _ _ => (pg_name (i := 5) sc_Growth_owners.nd rfl (Or.inl rfl))) (fun _ _ _ _ _ => dts_nil) (fun _ _ _ _ _ => (de_tup (da_cons de_int (da_cons (de_v 5 (pv 5)) da_nil)))))
      (dss_cons (ds_for (passes_of rfl) rfl (di_enumT (by rfl) T.b_enumerate (de_fld (c := 0) (j := 1) (de_v 0 (pv 0)) T.cl_Growth T.n_Growth_joins (show List.Nodup (["start", "joins", "_row"] : List Str) from by decide +kernel) rfl)) (pg_tup (n := 2) (by rfl) (pgs_cons (pg_name (i := 2) sc_Growth_owners.nd rfl (Or.inr rfl)) (pgs_cons (pg_tup (n := 2) (by rfl) (pgs_cons (pg_name (i := 3) sc_Growth_owners.nd rfl (Or.inl rfl)) (pgs_cons (pg_name (i := 4) sc_Growth_owners.nd rfl (Or.inl rfl)) pgs_nil))) pgs_nil))) (tg_T (tgs_cons (tg_N) (tgs_cons (tg_T (tgs_cons (tg_N) (tgs_cons (tg_N) tgs_nil))) tgs_nil)))
        (dss_one (ds_slice (ps_asg (de_lc (own := [("place", 5)]) (g := gName 5) rfl sc_Growth_owners.nd (di_range2 (by rfl) T.b_range de_int (de_op op_addA om_add (de_cb call_lenM cm_len (by rfl) T.b_len PySem.boot_len (da_cons (de_v 4 (pv 4)) da_nil)) de_int)) (blkOk_by (N := N_Growth_owners) (sc := defScope s_Growth_owners) (by decide +kernel)) (tg_N) (tw_N (by decide)) (fun _ _ _ _ _ => (pg_name (i := 5) sc_Growth_owners.nd rfl (Or.inl rfl))) (fun _ _ _ _ _ => dts_nil) (fun _ _ _ _ _ => (de_tup (da_cons (de_op op_addA om_add (de_v 2 (pv 2)) de_int) (da_cons (de_v 5 (pv 5)) da_nil))))) (pg_slice (pv 1) (do_some (de_v 3 (pv 3))) (do_some (de_v 3 (pv 3))))))))
      (dss_one (ds_retV 1 (pv 1)))))) (fun ds hl => ?_)
  exact ref_Growth_owners hl
theorem ok_exchanged (T : Tx P K mg) (a q : Addr) : FnOk P w K mg base (L2.CX P w) 1 T.exchanged.f T.exchanged.fd ["first", "second"] (spM K (mkW T a q) 2 fs_exchanged) := by
  refine fn_den T.exchanged.F sc_exchanged rfl (fun cdv A outer s H E hr => (dss_cons (ds_unp (tg_T (tgs_cons (tg_N) (tgs_cons (tg_N) tgs_nil))) (ps_asg (de_v 0 (pv 0)) (pg_tup (n := 2) (by rfl) (pgs_cons (pg_name (i := 2) sc_exchanged.nd rfl (Or.inl rfl)) (pgs_cons (pg_name (i := 3) sc_exchanged.nd rfl (Or.inl rfl)) pgs_nil)))))
      (dss_cons (ds_unp (tg_T (tgs_cons (tg_N) (tgs_cons (tg_N) tgs_nil))) (ps_asg (de_v 1 (pv 1)) (pg_tup (n := 2) (by rfl) (pgs_cons (pg_name (i := 4) sc_exchanged.nd rfl (Or.inl rfl)) (pgs_cons (pg_name (i := 5) sc_exchanged.nd rfl (Or.inl rfl)) pgs_nil)))))
      (dss_cons (ds_if (dt_cmp op_leA om_cmp (de_v 4 (pv 4)) (de_v 2 (pv 2)) (nomark _))
        (dss_one (ds_ret (de_tup (da_cons (de_tup (da_cons (de_v 4 (pv 4)) (da_cons (de_v 5 (pv 5)) da_nil))) (da_cons (de_tup (da_cons (de_op op_addA om_add (de_v 2 (pv 2)) (de_cb call_lenM cm_len (by rfl) T.b_len PySem.boot_len (da_cons (de_v 5 (pv 5)) da_nil))) (da_cons (de_v 3 (pv 3)) da_nil))) da_nil))))) dss_nil)
      (dss_cons (ds_if (dt_cmp op_geA om_cmp (de_v 4 (pv 4)) (de_op op_addA om_add (de_v 2 (pv 2)) (de_cb call_lenM cm_len (by rfl) T.b_len PySem.boot_len (da_cons (de_v 3 (pv 3)) da_nil))) (nomark _))
        (dss_one (ds_ret (de_tup (da_cons (de_tup (da_cons (de_op op_sub om_sub (de_v 4 (pv 4)) (de_cb call_lenM cm_len (by rfl) T.b_len PySem.boot_len (da_cons (de_v 3 (pv 3)) da_nil))) (da_cons (de_v 5 (pv 5)) da_nil))) (da_cons (de_tup (da_cons (de_v 2 (pv 2)) (da_cons (de_v 3 (pv 3)) da_nil))) da_nil))))) dss_nil)
      (dss_one (ds_ret de_non))))))) (fun ds hl => ?_)
  exact ref_exchanged hl
theorem ok_in_order (T : Tx P K mg) (a q : Addr) : FnOk P w K mg base (L2.CX P w) 6 T.in_order.f T.in_order.fd ["growth"] (spM K (mkW T a q) 1 fs_in_order) := by
  refine fn_den T.in_order.F sc_in_order rfl (fun cdv A outer s H E hr => (dss_cons (ds_asg (ps_set (i := 1) sc_in_order.nd rfl (Or.inl rfl) (de_lst da_nil)))
      (dss_cons (ds_for (passes_of rfl) rfl (di_enumL (by rfl) T.b_enumerate (de_meth0 (c := 0) (de_v 0 (pv 0)) T.cl_Growth T.Growth_owners.M (ok_Growth_owners T a q) (hr.mono (by decide)) T.Growth_owners.B (takes_of rfl rfl rfl rfl) (show (["start", "joins", "_row"] : List Str).contains "owners" = false from by decide +kernel))) (pg_tup (n := 2) (by rfl) (pgs_cons (pg_name (i := 2) sc_in_order.nd rfl (Or.inl rfl)) (pgs_cons (pg_tup (n := 2) (by rfl) (pgs_cons (pg_name (i := 3) sc_in_order.nd rfl (Or.inl rfl)) (pgs_cons (pg_name (i := 4) sc_in_order.nd rfl (Or.inl rfl)) pgs_nil))) pgs_nil))) (tg_T (tgs_cons (tg_N) (tgs_cons (tg_T (tgs_cons (tg_N) (tgs_cons (tg_N) tgs_nil))) tgs_nil)))
        (dss_one (ds_if (dt_w (dt_and (dt_cmp op_gtA om_cmp (de_v 3 (pv 3)) de_int (nomark _)) (dt_and1 (dt_cmp (op_eqA hr.units) om_eq (de_v 4 (pv 4)) de_int (nomark _)))))
          (dss_one (ds_app (pv 1) (de_tup (da_cons (de_v 2 (pv 2)) (da_cons (de_ix (de_ix (de_fld (c := 0) (j := 1) (de_v 0 (pv 0)) T.cl_Growth T.n_Growth_joins (show List.Nodup (["start", "joins", "_row"] : List Str) from by decide +kernel) rfl) (de_op op_sub om_sub (de_v 3 (pv 3)) de_int)) de_int) da_nil))))) dss_nil)))
      (dss_frz (i := 1) (dss_one (ds_ret (de_make (c := 0) (dd := []) (dvs := []) T.Growth_init.M (ok_Growth_init T a q) (hr.mono (by decide)) (by rfl) T.g_Growth T.Growth_init.B .nil (fun _ => rfl) (takes_of rfl rfl rfl rfl) (da_cons (de_fld (c := 0) (j := 0) (de_v 0 (pv 0)) T.cl_Growth T.n_Growth_start (show List.Nodup (["start", "joins", "_row"] : List Str) from by decide +kernel) rfl) (da_cons (de_v 1 (pv 1)) da_nil))))))))) (fun ds hl => ?_)
  exact ref_in_order hl
theorem ok_l_word (T : Tx P K mg) (a q : Addr) : FnOk P w K mg base (L2.CX P w) 2 T.l_word.f T.l_word.fd ["_law_state", "_law_signs", "_law_least", "_law_top"] (spM K (mkW T a q) 4 fs_l_word) := by
  refine fn_den T.l_word.F sc_l_word rfl (fun cdv A outer s H E hr => (dss_cons (ds_asg (ps_set (i := 4) sc_l_word.nd rfl (Or.inl rfl) de_str))
      (dss_cons (ds_for (passes_of rfl) rfl (di_range1 (by rfl) T.b_range (de_op op_addA om_add (de_v 2 (pv 2)) (de_call (ok_l_draw T a q) (hr.mono (by decide)) (by rfl) T.l_draw.g T.l_draw.F.kp T.l_draw.B (takes_of rfl rfl rfl rfl) (da_cons (de_v 0 (pv 0)) (da_cons (de_op op_addA om_add (de_op op_sub om_sub (de_v 3 (pv 3)) (de_v 2 (pv 2))) de_int) da_nil))))) (pg_name (i := 5) sc_l_word.nd rfl (Or.inl rfl)) (tg_N)
        (dss_one (ds_asg (ps_set (i := 4) sc_l_word.nd rfl (Or.inl rfl) (de_op op_addA om_add (de_v 4 (pv 4)) (de_ix (de_v 1 (pv 1)) (de_call (ok_l_draw T a q) (hr.mono (by decide)) (by rfl) T.l_draw.g T.l_draw.F.kp T.l_draw.B (takes_of rfl rfl rfl rfl) (da_cons (de_v 0 (pv 0)) (da_cons (de_cb call_lenM cm_len (by rfl) T.b_len PySem.boot_len (da_cons (de_v 1 (pv 1)) da_nil)) da_nil)))))))))
      (dss_one (ds_retV 4 (pv 4)))))) (fun ds hl => ?_)
  exact ref_l_word hl
theorem ok_l_groups (T : Tx P K mg) (a q : Addr) : FnOk P w K mg base (L2.CX P w) 3 T.l_groups.f T.l_groups.fd ["_law_state", "_law_signs", "_law_top", "_law_size"] (spM K (mkW T a q) 4 fs_l_groups) := by
  refine fn_den T.l_groups.F sc_l_groups rfl (fun cdv A outer s H E hr => (dss_cons (ds_asg (ps_set (i := 4) sc_l_groups.nd rfl (Or.inl rfl) (de_op op_mod om_mod (de_op op_addA om_add (de_call (ok_l_draw T a q) (hr.mono (by decide)) (by rfl) T.l_draw.g T.l_draw.F.kp T.l_draw.B (takes_of rfl rfl rfl rfl) (da_cons (de_v 0 (pv 0)) (da_cons (de_op op_addA om_add (de_v 2 (pv 2)) de_int) da_nil))) de_int) (de_op op_addA om_add (de_v 2 (pv 2)) de_int))))
      (dss_one (ds_ret (de_lc (own := [("_law_k", 5)]) (g := gName 5) rfl sc_l_groups.nd (di_range1 (by rfl) T.b_range (de_v 4 (pv 4))) (blkOk_by (N := N_l_groups) (sc := defScope s_l_groups) (by decide +kernel)) (tg_N) (tw_N (by decide)) (fun _ _ _ _ _ => (pg_name (i := 5) sc_l_groups.nd rfl (Or.inl rfl))) (fun _ _ _ _ _ => dts_nil) (fun _ _ _ _ _ => (de_call (ok_l_word T a q) (hr.mono (by decide)) (by rfl) T.l_word.g T.l_word.F.kp T.l_word.B takes0 (da_cons (de_v 0 (pv 0)) (da_cons (de_v 1 (pv 1)) (da_cons de_int (da_cons (de_v 3 (pv 3)) da_nil))))))))))) (fun ds hl => ?_)
  exact ref_l_groups hl
theorem ok_l_joins (T : Tx P K mg) (a q : Addr) : FnOk P w K mg base (L2.CX P w) 2 T.l_joins.f T.l_joins.fd ["_law_state", "_law_row", "_law_groups_here", "_law_top"] (spM K (mkW T a q) 4 fs_l_joins) := by
  refine fn_den T.l_joins.F sc_l_joins rfl (fun cdv A outer s H E hr => (dss_cons (ds_asg (ps_set (i := 4) sc_l_joins.nd rfl (Or.inl rfl) (de_lst da_nil)))
      (dss_cons (ds_asg (ps_set (i := 5) sc_l_joins.nd rfl (Or.inl rfl) (de_v 1 (pv 1))))
      (dss_cons (ds_if (dt_cmp (op_eqA hr.units) om_eq (de_v 2 (pv 2)) (de_lst da_nil) (nomark _))
        (dss_frz (i := 4) (dss_one (ds_ret (de_lst (da_cons (de_v 4 (pv 4)) (da_cons (de_v 5 (pv 5)) da_nil)))))) dss_nil)
      (dss_cons (ds_for (passes_of rfl) rfl (di_range1 (by rfl) T.b_range (de_call (ok_l_draw T a q) (hr.mono (by decide)) (by rfl) T.l_draw.g T.l_draw.F.kp T.l_draw.B (takes_of rfl rfl rfl rfl) (da_cons (de_v 0 (pv 0)) (da_cons (de_op op_addA om_add (de_v 3 (pv 3)) de_int) da_nil)))) (pg_name (i := 6) sc_l_joins.nd rfl (Or.inl rfl)) (tg_N)
        (dss_cons (ds_asg (ps_set (i := 7) sc_l_joins.nd rfl (Or.inl rfl) (de_ix (de_v 2 (pv 2)) (de_call (ok_l_draw T a q) (hr.mono (by decide)) (by rfl) T.l_draw.g T.l_draw.F.kp T.l_draw.B (takes_of rfl rfl rfl rfl) (da_cons (de_v 0 (pv 0)) (da_cons (de_cb call_lenM cm_len (by rfl) T.b_len PySem.boot_len (da_cons (de_v 2 (pv 2)) da_nil)) da_nil))))))
        (dss_cons (ds_asg (ps_set (i := 8) sc_l_joins.nd rfl (Or.inl rfl) (de_call (ok_l_draw T a q) (hr.mono (by decide)) (by rfl) T.l_draw.g T.l_draw.F.kp T.l_draw.B (takes_of rfl rfl rfl rfl) (da_cons (de_v 0 (pv 0)) (da_cons de_int da_nil)))))
        (dss_cons (ds_asg (ps_set (i := 9) sc_l_joins.nd rfl (Or.inl rfl) (de_call (ok_l_draw T a q) (hr.mono (by decide)) (by rfl) T.l_draw.g T.l_draw.F.kp T.l_draw.B (takes_of rfl rfl rfl rfl) (da_cons (de_v 0 (pv 0)) (da_cons (de_op op_addA om_add (de_cb call_lenM cm_len (by rfl) T.b_len PySem.boot_len (da_cons (de_v 5 (pv 5)) da_nil)) de_int) da_nil)))))
        (dss_cons (ds_if (dt_w (dt_and (dt_cmp op_gtA om_cmp (de_v 6 (pv 6)) de_int (nomark _)) (dt_and1 (dt_cmp op_gtA om_cmp (de_v 8 (pv 8)) de_int (nomark _)))))
          (dss_cons (ds_unp (tg_T (tgs_cons (tg_N) (tgs_cons (tg_N) tgs_nil))) (ps_asg (de_ix (de_v 4 (pv 4)) (de_op op_sub om_sub (de_v 6 (pv 6)) de_int)) (pg_tup (n := 2) (by rfl) (pgs_cons (pg_name (i := 10) sc_l_joins.nd rfl (Or.inl rfl)) (pgs_cons (pg_name (i := 11) sc_l_joins.nd rfl (Or.inl rfl)) pgs_nil)))))
          (dss_one (ds_if (dt_cmp (op_eqA hr.units) om_eq (de_v 8 (pv 8)) de_int (nomark _))
            (dss_one (ds_asg (ps_set (i := 9) sc_l_joins.nd rfl (Or.inl rfl) (de_v 10 (pv 10))))) (dss_one (ds_if (dt_cmp (op_eqA hr.units) om_eq (de_v 8 (pv 8)) de_int (nomark _))
              (dss_one (ds_asg (ps_set (i := 9) sc_l_joins.nd rfl (Or.inl rfl) (de_op op_addA om_add (de_v 10 (pv 10)) (de_cb call_lenM cm_len (by rfl) T.b_len PySem.boot_len (da_cons (de_v 11 (pv 11)) da_nil)))))) (dss_one (ds_if (dt_cmp op_gtA om_cmp (de_cb call_lenM cm_len (by rfl) T.b_len PySem.boot_len (da_cons (de_v 11 (pv 11)) da_nil)) de_int (nomark _))
                (dss_one (ds_asg (ps_set (i := 9) sc_l_joins.nd rfl (Or.inl rfl) (de_op op_addA om_add (de_op op_addA om_add (de_v 10 (pv 10)) de_int) (de_op op_mod om_mod (de_v 9 (pv 9)) (de_op op_sub om_sub (de_cb call_lenM cm_len (by rfl) T.b_len PySem.boot_len (da_cons (de_v 11 (pv 11)) da_nil)) de_int)))))) dss_nil))))))) dss_nil)
        (dss_cons (ds_app (pv 4) (de_tup (da_cons (de_v 9 (pv 9)) (da_cons (de_v 7 (pv 7)) da_nil))))
        (dss_one (ds_asg (ps_set (i := 5) sc_l_joins.nd rfl (Or.inl rfl) (de_op op_addA om_add (de_op op_addA om_add (de_sl sl_M sm_sl (de_v 5 (pv 5)) do_none (do_some (de_v 9 (pv 9)))) (de_v 7 (pv 7))) (de_sl sl_M sm_sl (de_v 5 (pv 5)) (do_some (de_v 9 (pv 9))) do_none)))))))))))
      (dss_frz (i := 4) (dss_one (ds_ret (de_lst (da_cons (de_v 4 (pv 4)) (da_cons (de_v 5 (pv 5)) da_nil))))))))))) (fun ds hl => ?_)
  exact ref_l_joins hl
theorem ok_l_line (T : Tx P K mg) (a q : Addr) : FnOk P w K mg base (L2.CX P w) 1 T.l_line.f T.l_line.fd ["_law_start", "_law_joins_here"] (spM K (mkW T a q) 2 fs_l_line) := by
  refine fn_den T.l_line.F sc_l_line rfl (fun cdv A outer s H E hr => (dss_cons (ds_setLc (i := 3) (own := [("_law_k", 2)]) (g := gName 2) rfl sc_l_line.nd rfl rfl (sw_true rfl rfl rfl (by decide +kernel)) (di_range1 (by rfl) T.b_range (de_cb call_lenM cm_len (by rfl) T.b_len PySem.boot_len (da_cons (de_v 0 (pv 0)) da_nil))) (blkOk_by (N := N_l_line) (sc := defScope s_l_line) (by decide +kernel)) (tg_N) (tw_N (by decide)) (fun _ _ _ _ _ => (pg_name (i := 2) sc_l_line.nd rfl (Or.inl rfl))) (fun _ _ _ _ _ => dts_nil) (fun _ _ _ _ _ => (de_lst (da_cons de_int (da_cons (de_op op_addA om_add (de_v 2 (pv 2)) de_int) (da_cons (de_ix (de_v 0 (pv 0)) (de_v 2 (pv 2))) da_nil))))))
      (dss_cons (ds_for (passes_of rfl) rfl (di_range1 (by rfl) T.b_range (de_cb call_lenM cm_len (by rfl) T.b_len PySem.boot_len (da_cons (de_v 1 (pv 1)) da_nil))) (pg_name (i := 2) sc_l_line.nd rfl (Or.inr rfl)) (tg_N)
        (dss_cons (ds_unp (tg_T (tgs_cons (tg_N) (tgs_cons (tg_N) tgs_nil))) (ps_asg (de_ix (de_v 1 (pv 1)) (de_v 2 (pv 2))) (pg_tup (n := 2) (by rfl) (pgs_cons (pg_name (i := 4) sc_l_line.nd rfl (Or.inl rfl)) (pgs_cons (pg_name (i := 5) sc_l_line.nd rfl (Or.inr rfl)) pgs_nil)))))
        (dss_one (ds_asg (ps_set (i := 3) sc_l_line.nd rfl (Or.inl rfl) (de_op op_addA om_add (de_op op_addA om_add (de_sl sl_M sm_sl (de_v 3 (pv 3)) do_none (do_some (de_v 4 (pv 4)))) (de_lc (own := [("_law_j", 6)]) (g := gName 6) rfl sc_l_line.nd (di_range1 (by rfl) T.b_range (de_cb call_lenM cm_len (by rfl) T.b_len PySem.boot_len (da_cons (de_v 5 (pv 5)) da_nil))) (blkOk_by (N := N_l_line) (sc := defScope s_l_line) (by decide +kernel)) (tg_N) (tw_N (by decide)) (fun _ _ _ _ _ => (pg_name (i := 6) sc_l_line.nd rfl (Or.inl rfl))) (fun _ _ _ _ _ => dts_nil) (fun _ _ _ _ _ => (de_lst (da_cons (de_op op_addA om_add (de_v 2 (pv 2)) de_int) (da_cons (de_op op_addA om_add (de_v 6 (pv 6)) de_int) (da_cons (de_ix (de_v 5 (pv 5)) (de_v 6 (pv 6))) da_nil))))))) (de_sl sl_M sm_sl (de_v 3 (pv 3)) (do_some (de_v 4 (pv 4))) do_none)))))))
      (dss_one (ds_retV 3 (pv 3)))))) (fun ds hl => ?_)
  exact ref_l_line hl
theorem ok_l_in_order (T : Tx P K mg) (a q : Addr) : FnOk P w K mg base (L2.CX P w) 1 T.l_in_order.f T.l_in_order.fd ["_law_growth"] (spM K (mkW T a q) 1 fs_l_in_order) := by
  refine fn_den T.l_in_order.F sc_l_in_order rfl (fun cdv A outer s H E hr => (dss_cons (ds_asg (ps_set (i := 1) sc_l_in_order.nd rfl (Or.inl rfl) (de_un un_neg um_neg de_int)))
      (dss_cons (ds_for (passes_of rfl) rfl (di_seq (de_fld (c := 0) (j := 1) (de_v 0 (pv 0)) T.cl_Growth T.n_Growth_joins (show List.Nodup (["start", "joins", "_row"] : List Str) from by decide +kernel) rfl)) (pg_name (i := 2) sc_l_in_order.nd rfl (Or.inl rfl)) (tg_N)
        (dss_cons (ds_if (dt_cmp op_leA om_cmp (de_ix (de_v 2 (pv 2)) de_int) (de_v 1 (pv 1)) (nomark _))
          (dss_one (ds_ret de_bl)) dss_nil)
        (dss_one (ds_asg (ps_set (i := 1) sc_l_in_order.nd rfl (Or.inl rfl) (de_ix (de_v 2 (pv 2)) de_int))))))
      (dss_one (ds_ret de_bl))))) (fun ds hl => ?_)
  exact ref_l_in_order hl
theorem ok_l_played (T : Tx P K mg) (a q : Addr) : FnOk P w K mg base (L2.CX P w) 1 T.l_played.f T.l_played.fd ["_law_start", "_law_joins_here"] (spM K (mkW T a q) 2 fs_l_played) := by
  refine fn_den T.l_played.F sc_l_played rfl (fun cdv A outer s H E hr => (dss_cons (ds_asg (ps_set (i := 2) sc_l_played.nd rfl (Or.inl rfl) (de_lst (da_cons (de_v 0 (pv 0)) da_nil))))
      (dss_cons (ds_for (passes_of rfl) rfl (di_seq (de_v 1 (pv 1))) (pg_tup (n := 2) (by rfl) (pgs_cons (pg_name (i := 3) sc_l_played.nd rfl (Or.inl rfl)) (pgs_cons (pg_name (i := 4) sc_l_played.nd rfl (Or.inl rfl)) pgs_nil))) (tg_T (tgs_cons (tg_N) (tgs_cons (tg_N) tgs_nil)))
        (dss_cons (ds_asg (ps_set (i := 5) sc_l_played.nd rfl (Or.inl rfl) (de_ix (de_v 2 (pv 2)) (de_un un_neg um_neg de_int))))
        (dss_one (ds_app (pv 2) (de_op op_addA om_add (de_op op_addA om_add (de_sl sl_M sm_sl (de_v 5 (pv 5)) do_none (do_some (de_v 3 (pv 3)))) (de_v 4 (pv 4))) (de_sl sl_M sm_sl (de_v 5 (pv 5)) (do_some (de_v 3 (pv 3))) do_none))))))
      (dss_one (ds_retV 2 (pv 2)))))) (fun ds hl => ?_)
  exact ref_l_played hl
theorem ok_l_is_join (T : Tx P K mg) (a q : Addr) : FnOk P w K mg base (L2.CX P w) 1 T.l_is_join.f T.l_is_join.fd ["_law_join", "_law_size"] (spM K (mkW T a q) 2 fs_l_is_join) := by
  refine fn_den T.l_is_join.F sc_l_is_join rfl (fun cdv A outer s H E hr => (dss_cons (ds_if (dt_w (dt_or (dt_not (dt_val (de_isi (t := "tuple") (by decide) (by rfl) T.b_isinstance (by decide +kernel) (pe_bltn (v := .ty "tuple") (by rfl) T.b_tuple (by decide +kernel) rfl) (de_v 0 (pv 0))))) (dt_or (dt_cmp (op_neA hr.units) om_eq (de_cb call_lenM cm_len (by rfl) T.b_len PySem.boot_len (da_cons (de_v 0 (pv 0)) da_nil)) de_int (nomark _)) (dt_or (dt_not (dt_val (de_isi (t := "str") (by decide) (by rfl) T.b_isinstance (by decide +kernel) (pe_bltn (v := .ty "str") (by rfl) T.b_str (by decide +kernel) rfl) (de_ix (de_v 0 (pv 0)) de_int)))) (dt_or1 (dt_cmp (op_eqA hr.units) om_eq (de_ix (de_v 0 (pv 0)) de_int) de_str (nomark _)))))))
        (dss_one (ds_ret de_bl)) dss_nil)
      (dss_one (ds_ret (de_and (de_isi (t := "int") (by decide) (by rfl) T.b_isinstance (by decide +kernel) (pe_bltn (v := .ty "int") (by rfl) T.b_int (by decide +kernel) rfl) (de_ix (de_v 0 (pv 0)) de_int)) (de_and (de_not (de_isi (t := "bool") (by decide) (by rfl) T.b_isinstance (by decide +kernel) (pe_bltn (v := .ty "bool") (by rfl) T.b_bool (by decide +kernel) rfl) (de_ix (de_v 0 (pv 0)) de_int))) (de_one (de_chain op_leA om_cmp op_leA om_cmp de_int (de_ix (de_v 0 (pv 0)) de_int) (de_v 1 (pv 1)))))))))) (fun ds hl => ?_)
  exact ref_l_is_join hl
theorem ok_l_exchange (T : Tx P K mg) (a q : Addr) : FnOk P w K mg base (L2.CX P w) 9 T.l_exchange.f T.l_exchange.fd ["_law_start", "_law_first", "_law_second"] (spM K (mkW T a q) 3 fs_l_exchange) := by
  refine fn_den T.l_exchange.F sc_l_exchange rfl (fun cdv A outer s H E hr => (dss_cons (ds_asg (ps_set (i := 3) sc_l_exchange.nd rfl (Or.inl rfl) (de_call (ok_exchanged T a q) (hr.mono (by decide)) (by rfl) T.exchanged.g T.exchanged.F.kp T.exchanged.B (takes_of rfl rfl rfl rfl) (da_cons (de_v 1 (pv 1)) (da_cons (de_v 2 (pv 2)) da_nil)))))
      (dss_cons (ds_if (dt_chain op_ltA om_cmp op_ltA om_cmp (de_ix (de_v 1 (pv 1)) de_int) (de_ix (de_v 2 (pv 2)) de_int) (de_op op_addA om_add (de_ix (de_v 1 (pv 1)) de_int) (de_cb call_lenM cm_len (by rfl) T.b_len PySem.boot_len (da_cons (de_ix (de_v 1 (pv 1)) de_int) da_nil))))
        (dss_one (ds_ret (de_if (dt_cmp op_isN om_isN (de_v 3 (pv 3)) de_non (nomark _)) de_non de_bl))) dss_nil)
      (dss_cons (ds_if (dt_w (dt_or (dt_not (dt_val (de_isi (t := "tuple") (by decide) (by rfl) T.b_isinstance (by decide +kernel) (pe_bltn (v := .ty "tuple") (by rfl) T.b_tuple (by decide +kernel) rfl) (de_v 3 (pv 3))))) (dt_or (dt_cmp (op_neA hr.units) om_eq (de_cb call_lenM cm_len (by rfl) T.b_len PySem.boot_len (da_cons (de_v 3 (pv 3)) da_nil)) de_int (nomark _)) (dt_or1 (dt_not (dt_val (de_call (ok_l_is_join T a q) (hr.mono (by decide)) (by rfl) T.l_is_join.g T.l_is_join.F.kp T.l_is_join.B (takes_of rfl rfl rfl rfl) (da_cons (de_ix (de_v 3 (pv 3)) de_int) (da_cons (de_cb call_lenM cm_len (by rfl) T.b_len PySem.boot_len (da_cons (de_v 0 (pv 0)) da_nil)) da_nil)))))))))
        (dss_one (ds_ret de_bl)) dss_nil)
      (dss_cons (ds_if (dt_not (dt_val (de_call (ok_l_is_join T a q) (hr.mono (by decide)) (by rfl) T.l_is_join.g T.l_is_join.F.kp T.l_is_join.B (takes_of rfl rfl rfl rfl) (da_cons (de_ix (de_v 3 (pv 3)) de_int) (da_cons (de_op op_addA om_add (de_cb call_lenM cm_len (by rfl) T.b_len PySem.boot_len (da_cons (de_v 0 (pv 0)) da_nil)) (de_cb call_lenM cm_len (by rfl) T.b_len PySem.boot_len (da_cons (de_ix (de_ix (de_v 3 (pv 3)) de_int) de_int) da_nil))) da_nil)))))
        (dss_one (ds_ret de_bl)) dss_nil)
      (dss_cons (ds_asg (ps_set (i := 4) sc_l_exchange.nd rfl (Or.inl rfl) (de_call (ok_l_line T a q) (hr.mono (by decide)) (by rfl) T.l_line.g T.l_line.F.kp T.l_line.B (takes_of rfl rfl rfl rfl) (da_cons (de_v 0 (pv 0)) (da_cons (de_lst (da_cons (de_v 1 (pv 1)) (da_cons (de_v 2 (pv 2)) da_nil))) da_nil)))))
      (dss_cons (ds_asg (ps_set (i := 5) sc_l_exchange.nd rfl (Or.inl rfl) (de_call (ok_l_line T a q) (hr.mono (by decide)) (by rfl) T.l_line.g T.l_line.F.kp T.l_line.B (takes_of rfl rfl rfl rfl) (da_cons (de_v 0 (pv 0)) (da_cons (de_lst (da_cons (de_ix (de_v 3 (pv 3)) de_int) (da_cons (de_ix (de_v 3 (pv 3)) de_int) da_nil))) da_nil)))))
      (dss_frz (i := 5) (dss_cons (ds_if (dt_cmp (op_neA hr.units) om_eq (de_lc (own := [("_law_one", 6)]) (g := gName 6) rfl sc_l_exchange.nd (di_seq (de_v 5 (pv 5))) (blkOk_by (N := N_l_exchange) (sc := defScope s_l_exchange) (by decide +kernel)) (tg_N) (tw_N (by decide)) (fun _ _ _ _ _ => (pg_name (i := 6) sc_l_exchange.nd rfl (Or.inl rfl))) (fun _ _ _ _ _ => dts_nil) (fun _ _ _ _ _ => (de_lst (da_cons (de_if (dt_cmp op_gtA om_cmp (de_ix (de_v 6 (pv 6)) de_int) de_int (nomark _)) (de_op op_sub om_sub de_int (de_ix (de_v 6 (pv 6)) de_int)) de_int) (da_cons (de_ix (de_v 6 (pv 6)) de_int) (da_cons (de_ix (de_v 6 (pv 6)) de_int) da_nil)))))) (de_v 4 (pv 4)) (nomark _))
        (dss_one (ds_ret de_bl)) dss_nil)
      (dss_cons (ds_if (dt_not (dt_val (de_callB (ok_l_same T a q) (hr.mono (by decide)) (by rfl) T.l_same.g T.l_same.F.kp T.l_same.B (takes_of rfl rfl rfl rfl) (da_cons (de_call (ok_exchanged T a q) (hr.mono (by decide)) (by rfl) T.exchanged.g T.exchanged.F.kp T.exchanged.B (takes_of rfl rfl rfl rfl) (da_cons (de_ix (de_v 3 (pv 3)) de_int) (da_cons (de_ix (de_v 3 (pv 3)) de_int) da_nil))) (da_cons (de_tup (da_cons (de_v 1 (pv 1)) (da_cons (de_v 2 (pv 2)) da_nil))) da_nil)))))
        (dss_one (ds_ret de_bl)) dss_nil)
      (dss_one (ds_retV 3 (pv 3))))))))))))) (fun ds hl => ?_)
  exact ref_l_exchange hl
theorem ok_l_bubbled (T : Tx P K mg) (a q : Addr) : FnOk P w K mg base (L2.CX P w) 10 T.l_bubbled.f T.l_bubbled.fd ["_law_start", "_law_joins_here"] (spM K (mkW T a q) 2 fs_l_bubbled) := by
  refine fn_den T.l_bubbled.F sc_l_bubbled rfl (fun cdv A outer s H E hr => (dss_cons (ds_asg (ps_set (i := 2) sc_l_bubbled.nd rfl (Or.inl rfl) (de_cty (call_listM rfl) cm_list (by rfl) T.b_list (by decide +kernel) (da_cons (de_v 1 (pv 1)) da_nil))))
      (dss_cons (ds_for (passes_of rfl) rfl (di_range1 (by rfl) T.b_range de_int) (pg_name (i := 3) sc_l_bubbled.nd rfl (Or.inl rfl)) (tg_N)
        (dss_cons (ds_asg (ps_set (i := 4) sc_l_bubbled.nd rfl (Or.inl rfl) (de_un un_neg um_neg de_int)))
        (dss_cons (ds_for (passes_of rfl) rfl (di_range1 (by rfl) T.b_range (de_op op_sub om_sub (de_cb call_lenM cm_len (by rfl) T.b_len PySem.boot_len (da_cons (de_v 2 (pv 2)) da_nil)) de_int)) (pg_name (i := 5) sc_l_bubbled.nd rfl (Or.inl rfl)) (tg_N)
          (dss_one (ds_if (dt_w (dt_and (dt_cmp op_ltA om_cmp (de_v 4 (pv 4)) de_int (nomark _)) (dt_and1 (dt_cmp op_leA om_cmp (de_ix (de_ix (de_v 2 (pv 2)) (de_op op_addA om_add (de_v 5 (pv 5)) de_int)) de_int) (de_ix (de_ix (de_v 2 (pv 2)) (de_v 5 (pv 5))) de_int) (nomark _)))))
            (dss_one (ds_asg (ps_set (i := 4) sc_l_bubbled.nd rfl (Or.inl rfl) (de_v 5 (pv 5))))) dss_nil)))
        (dss_cons (ds_if (dt_cmp op_ltA om_cmp (de_v 4 (pv 4)) de_int (nomark _))
          (dss_one (ds_retV 2 (pv 2))) dss_nil)
        (dss_frz (i := 2) (dss_cons (ds_asg (ps_set (i := 6) sc_l_bubbled.nd rfl (Or.inl rfl) (de_call (ok_l_exchange T a q) (hr.mono (by decide)) (by rfl) T.l_exchange.g T.l_exchange.F.kp T.l_exchange.B (takes_of rfl rfl rfl rfl) (da_cons (de_ix (de_call (ok_l_played T a q) (hr.mono (by decide)) (by rfl) T.l_played.g T.l_played.F.kp T.l_played.B (takes_of rfl rfl rfl rfl) (da_cons (de_v 0 (pv 0)) (da_cons (de_v 2 (pv 2)) da_nil))) (de_v 4 (pv 4))) (da_cons (de_ix (de_v 2 (pv 2)) (de_v 4 (pv 4))) (da_cons (de_ix (de_v 2 (pv 2)) (de_op op_addA om_add (de_v 4 (pv 4)) de_int)) da_nil))))))
        (dss_cons (ds_if (dt_w (dt_or (dt_cmp op_isN om_isN (de_v 6 (pv 6)) de_non (nomark _)) (dt_or1 (dt_cmp op_isB om_isB (de_v 6 (pv 6)) de_bl (nomark _)))))
          (dss_one (ds_ret de_non)) dss_nil)
        (dss_one (ds_asg (ps_set (i := 2) sc_l_bubbled.nd rfl (Or.inl rfl) (de_op op_addA om_add (de_op op_addA om_add (de_sl sl_M sm_sl (de_v 2 (pv 2)) do_none (do_some (de_v 4 (pv 4)))) (de_lst (da_cons (de_ix (de_v 6 (pv 6)) de_int) (da_cons (de_ix (de_v 6 (pv 6)) de_int) da_nil)))) (de_sl sl_M sm_sl (de_v 2 (pv 2)) (do_some (de_op op_addA om_add (de_v 4 (pv 4)) de_int)) do_none))))))))))))
      (dss_one (ds_ret de_non))))) (fun ds hl => ?_)
  exact ref_l_bubbled hl
theorem ok_l_ordered (T : Tx P K mg) (a q : Addr) : FnOk P w K mg base (L2.CX P w) 11 T.l_ordered.f T.l_ordered.fd ["_law_start", "_law_joins_here"] (spM K (mkW T a q) 2 fs_l_ordered) := by
  refine fn_den T.l_ordered.F sc_l_ordered rfl (fun cdv A outer s H E hr => (dss_cons (ds_asg (ps_set (i := 2) sc_l_ordered.nd rfl (Or.inl rfl) (de_make (c := 0) (dd := []) (dvs := []) T.Growth_init.M (ok_Growth_init T a q) (hr.mono (by decide)) (by rfl) T.g_Growth T.Growth_init.B .nil (fun _ => rfl) (takes_of rfl rfl rfl rfl) (da_cons (de_v 0 (pv 0)) (da_cons (de_cty (call_listM rfl) cm_list (by rfl) T.b_list (by decide +kernel) (da_cons (de_v 1 (pv 1)) da_nil)) da_nil)))))
      (dss_cons (ds_asg (ps_set (i := 3) sc_l_ordered.nd rfl (Or.inr rfl) (de_call (ok_l_line T a q) (hr.mono (by decide)) (by rfl) T.l_line.g T.l_line.F.kp T.l_line.B (takes_of rfl rfl rfl rfl) (da_cons (de_v 0 (pv 0)) (da_cons (de_v 1 (pv 1)) da_nil)))))
      (dss_cons (ds_setLc (i := 5) (own := [("_law_k", 4)]) (g := gName 4) rfl sc_l_ordered.nd rfl rfl (sw_true rfl rfl rfl (by decide +kernel)) (di_range1 (by rfl) T.b_range (de_cb call_lenM cm_len (by rfl) T.b_len PySem.boot_len (da_cons (de_v 3 (pv 3)) da_nil))) (blkOk_by (N := N_l_ordered) (sc := defScope s_l_ordered) (by decide +kernel)) (tg_N) (tw_N (by decide)) (fun _ _ _ _ _ => (pg_name (i := 4) sc_l_ordered.nd rfl (Or.inl rfl))) (fun _ _ _ _ _ => dts_one (dt_w (dt_and (dt_cmp op_gtA om_cmp (de_ix (de_ix (de_v 3 (pv 3)) (de_v 4 (pv 4))) de_int) de_int (nomark _)) (dt_and1 (dt_cmp (op_eqA hr.units) om_eq (de_ix (de_ix (de_v 3 (pv 3)) (de_v 4 (pv 4))) de_int) de_int (nomark _)))))) (fun _ _ _ _ _ => (de_v 4 (pv 4))))
      (dss_frz (i := 5) (dss_cons (ds_setLc (i := 6) (own := [("_law_k", 4)]) (g := gName 4) rfl sc_l_ordered.nd rfl rfl (sw_true rfl rfl rfl (by decide +kernel)) (di_seq (de_v 5 (pv 5))) (blkOk_by (N := N_l_ordered) (sc := defScope s_l_ordered) (by decide +kernel)) (tg_N) (tw_N (by decide)) (fun _ _ _ _ _ => (pg_name (i := 4) sc_l_ordered.nd rfl (Or.inl rfl))) (fun _ _ _ _ _ => dts_nil) (fun _ _ _ _ _ => (de_tup (da_cons (de_v 4 (pv 4)) (da_cons (de_ix (de_ix (de_v 1 (pv 1)) (de_op op_sub om_sub (de_ix (de_ix (de_v 3 (pv 3)) (de_v 4 (pv 4))) de_int) de_int)) de_int) da_nil)))))
      (dss_cons (ds_asg (ps_set (i := 7) sc_l_ordered.nd rfl (Or.inl rfl) (de_call (ok_in_order T a q) (hr.mono (by decide)) (by rfl) T.in_order.g T.in_order.F.kp T.in_order.B (takes_of rfl rfl rfl rfl) (da_cons (de_v 2 (pv 2)) da_nil))))
      (dss_cons (ds_if (dt_w (dt_or (dt_not (dt_val (de_isiC (kc := kc_Growth) (tc := T.c_Growth) (kt_Growth T a q) (by rfl) T.b_isinstance (by decide +kernel) (pe_glob (v := .ref T.c_Growth) (by rfl) T.g_Growth rfl) (de_v 7 (pv 7))))) (dt_or1 (dt_not (dt_val (de_callB (ok_l_same T a q) (hr.mono (by decide)) (by rfl) T.l_same.g T.l_same.F.kp T.l_same.B (takes_of rfl rfl rfl rfl) (da_cons (de_tup (da_cons (de_fld (c := 0) (j := 0) (de_v 7 (pv 7)) T.cl_Growth T.n_Growth_start (show List.Nodup (["start", "joins", "_row"] : List Str) from by decide +kernel) rfl) (da_cons (de_fld (c := 0) (j := 1) (de_v 7 (pv 7)) T.cl_Growth T.n_Growth_joins (show List.Nodup (["start", "joins", "_row"] : List Str) from by decide +kernel) rfl) da_nil))) (da_cons (de_tup (da_cons (de_v 0 (pv 0)) (da_cons (de_cty call_tupleM cm_tuple (by rfl) T.b_tuple (by decide +kernel) (da_cons (de_v 6 (pv 6)) da_nil)) da_nil))) da_nil))))))))
        (dss_one (ds_ret de_bl)) dss_nil)
      (dss_frz (i := 3) (dss_cons (ds_if (dt_w (dt_or (dt_not (dt_val (de_callB (ok_l_same T a q) (hr.mono (by decide)) (by rfl) T.l_same.g T.l_same.F.kp T.l_same.B (takes_of rfl rfl rfl rfl) (da_cons (de_prop (c := 0) (de_v 7 (pv 7)) T.cl_Growth T.Growth_row_P (ok_Growth_row T a q) (hr.mono (by decide)) T.Growth_row_B) (da_cons (de_prop (c := 0) (de_v 2 (pv 2)) T.cl_Growth T.Growth_row_P (ok_Growth_row T a q) (hr.mono (by decide)) T.Growth_row_B) da_nil))))) (dt_or1 (dt_not (dt_val (de_callB (ok_l_same T a q) (hr.mono (by decide)) (by rfl) T.l_same.g T.l_same.F.kp T.l_same.B (takes_of rfl rfl rfl rfl) (da_cons (de_prop (c := 0) (de_v 7 (pv 7)) T.cl_Growth T.Growth_row_P (ok_Growth_row T a q) (hr.mono (by decide)) T.Growth_row_B) (da_cons (de_m1 PySem.F.slot_str_join PySem.F.type_str_join mt_joinM mm_join de_str (de_lc (own := [("_law_one", 10)]) (g := gName 10) rfl sc_l_ordered.nd (di_seq (de_v 3 (pv 3))) (blkOk_by (N := N_l_ordered) (sc := defScope s_l_ordered) (by decide +kernel)) (tg_N) (tw_N (by decide)) (fun _ _ _ _ _ => (pg_name (i := 10) sc_l_ordered.nd rfl (Or.inl rfl))) (fun _ _ _ _ _ => dts_nil) (fun _ _ _ _ _ => (de_ix (de_v 10 (pv 10)) de_int)))) da_nil))))))))
        (dss_one (ds_ret de_bl)) dss_nil)
      (dss_cons (ds_if (dt_w (dt_or (dt_cmp (op_neA hr.units) om_eq (de_call (ok_l_bubbled T a q) (hr.mono (by decide)) (by rfl) T.l_bubbled.g T.l_bubbled.F.kp T.l_bubbled.B (takes_of rfl rfl rfl rfl) (da_cons (de_v 0 (pv 0)) (da_cons (de_v 1 (pv 1)) da_nil))) (de_v 6 (pv 6)) (nomark _)) (dt_or1 (dt_not (dt_val (de_call (ok_l_in_order T a q) (hr.mono (by decide)) (by rfl) T.l_in_order.g T.l_in_order.F.kp T.l_in_order.B (takes_of rfl rfl rfl rfl) (da_cons (de_v 7 (pv 7)) da_nil)))))))
        (dss_one (ds_ret de_bl)) dss_nil)
      (dss_cons (ds_asg (ps_set (i := 8) sc_l_ordered.nd rfl (Or.inr rfl) (de_op op_addA om_add (de_lst (da_cons de_int da_nil)) (de_lc (own := [("_law_join", 11)]) (g := gName 11) rfl sc_l_ordered.nd (di_seq (de_v 1 (pv 1))) (blkOk_by (N := N_l_ordered) (sc := defScope s_l_ordered) (by decide +kernel)) (tg_N) (tw_N (by decide)) (fun _ _ _ _ _ => (pg_name (i := 11) sc_l_ordered.nd rfl (Or.inl rfl))) (fun _ _ _ _ _ => dts_nil) (fun _ _ _ _ _ => de_int)))))
      (dss_cons (ds_for (passes_of rfl) rfl (di_range1 (by rfl) T.b_range (de_cb call_lenM cm_len (by rfl) T.b_len PySem.boot_len (da_cons (de_v 5 (pv 5)) da_nil))) (pg_name (i := 4) sc_l_ordered.nd rfl (Or.inl rfl)) (tg_N)
        (dss_one (ds_item (ps_asg (de_op op_addA om_add (de_v 4 (pv 4)) de_int) (pg_sub (pv 8) (de_ix (de_ix (de_v 3 (pv 3)) (de_ix (de_v 5 (pv 5)) (de_v 4 (pv 4)))) de_int) set_list)))))
      (dss_frz (i := 3) (dss_cons (ds_setLc (i := 9) (own := [("_law_one", 10)]) (g := gName 10) rfl sc_l_ordered.nd rfl rfl (sw_true rfl rfl rfl (by decide +kernel)) (di_seq (de_v 3 (pv 3))) (blkOk_by (N := N_l_ordered) (sc := defScope s_l_ordered) (by decide +kernel)) (tg_N) (tw_N (by decide)) (fun _ _ _ _ _ => (pg_name (i := 10) sc_l_ordered.nd rfl (Or.inl rfl))) (fun _ _ _ _ _ => dts_nil) (fun _ _ _ _ _ => (de_tup (da_cons (de_ix (de_v 8 (pv 8)) (de_ix (de_v 10 (pv 10)) de_int)) (da_cons (de_ix (de_v 10 (pv 10)) de_int) da_nil)))))
      (dss_cons (ds_if (dt_w (dt_or (dt_not (dt_val (de_callB (ok_l_same T a q) (hr.mono (by decide)) (by rfl) T.l_same.g T.l_same.F.kp T.l_same.B (takes_of rfl rfl rfl rfl) (da_cons (de_meth0 (c := 0) (de_v 7 (pv 7)) T.cl_Growth T.Growth_owners.M (ok_Growth_owners T a q) (hr.mono (by decide)) T.Growth_owners.B (takes_of rfl rfl rfl rfl) (show (["start", "joins", "_row"] : List Str).contains "owners" = false from by decide +kernel)) (da_cons (de_v 9 (pv 9)) da_nil))))) (dt_or1 (dt_not (dt_val (de_callB (ok_l_same T a q) (hr.mono (by decide)) (by rfl) T.l_same.g T.l_same.F.kp T.l_same.B (takes_of rfl rfl rfl rfl) (da_cons (de_fld (c := 0) (j := 1) (de_call (ok_in_order T a q) (hr.mono (by decide)) (by rfl) T.in_order.g T.in_order.F.kp T.in_order.B (takes_of rfl rfl rfl rfl) (da_cons (de_v 7 (pv 7)) da_nil)) T.cl_Growth T.n_Growth_joins (show List.Nodup (["start", "joins", "_row"] : List Str) from by decide +kernel) rfl) (da_cons (de_cty call_tupleM cm_tuple (by rfl) T.b_tuple (by decide +kernel) (da_cons (de_v 6 (pv 6)) da_nil)) da_nil))))))))
        (dss_one (ds_ret de_bl)) dss_nil)
      (dss_one (ds_ret (de_callB (ok_l_same T a q) (hr.mono (by decide)) (by rfl) T.l_same.g T.l_same.F.kp T.l_same.B (takes_of rfl rfl rfl rfl) (da_cons (de_tup (da_cons (de_fld (c := 0) (j := 0) (de_v 2 (pv 2)) T.cl_Growth T.n_Growth_start (show List.Nodup (["start", "joins", "_row"] : List Str) from by decide +kernel) rfl) (da_cons (de_fld (c := 0) (j := 1) (de_v 2 (pv 2)) T.cl_Growth T.n_Growth_joins (show List.Nodup (["start", "joins", "_row"] : List Str) from by decide +kernel) rfl) da_nil))) (da_cons (de_tup (da_cons (de_v 0 (pv 0)) (da_cons (de_cty call_tupleM cm_tuple (by rfl) T.b_tuple (by decide +kernel) (da_cons (de_v 1 (pv 1)) da_nil)) da_nil))) da_nil))))))))))))))))))))) (fun ds hl => ?_)
  exact ref_l_ordered (kc := kc_Growth) rfl hl
theorem ok_l_all_pairs (T : Tx P K mg) (a q : Addr) : FnOk P w K mg base (L2.CX P w) 10 T.l_all_pairs.f T.l_all_pairs.fd ["_law_start", "_law_group", "_law_other"] (spM K (mkW T a q) 3 fs_l_all_pairs) := by
  refine fn_den T.l_all_pairs.F sc_l_all_pairs rfl (fun cdv A outer s H E hr => (dss_cons (ds_for (passes_of rfl) rfl (di_range1 (by rfl) T.b_range (de_op op_addA om_add (de_cb call_lenM cm_len (by rfl) T.b_len PySem.boot_len (da_cons (de_v 0 (pv 0)) da_nil)) de_int)) (pg_name (i := 3) sc_l_all_pairs.nd rfl (Or.inl rfl)) (tg_N)
        (dss_one (ds_for (passes_of rfl) rfl (di_range1 (by rfl) T.b_range (de_op op_addA om_add (de_op op_addA om_add (de_cb call_lenM cm_len (by rfl) T.b_len PySem.boot_len (da_cons (de_v 0 (pv 0)) da_nil)) (de_cb call_lenM cm_len (by rfl) T.b_len PySem.boot_len (da_cons (de_v 1 (pv 1)) da_nil))) de_int)) (pg_name (i := 4) sc_l_all_pairs.nd rfl (Or.inl rfl)) (tg_N)
          (dss_one (ds_if (dt_cmp op_isB om_isB (de_call (ok_l_exchange T a q) (hr.mono (by decide)) (by rfl) T.l_exchange.g T.l_exchange.F.kp T.l_exchange.B (takes_of rfl rfl rfl rfl) (da_cons (de_v 0 (pv 0)) (da_cons (de_tup (da_cons (de_v 3 (pv 3)) (da_cons (de_v 1 (pv 1)) da_nil))) (da_cons (de_tup (da_cons (de_v 4 (pv 4)) (da_cons (de_v 2 (pv 2)) da_nil))) da_nil)))) de_bl (nomark _))
            (dss_one (ds_ret de_bl)) dss_nil)))))
      (dss_one (ds_ret de_bl)))) (fun ds hl => ?_)
  exact ref_l_all_pairs hl
theorem ok_law (T : Tx P K mg) : FnOk P w K mg base (L2.CX P w) 12 T.law.f T.law.fd ["_law_script"] (Dn.sp_law (K := K)) := by
  refine T.law.F.okX sc_law (fun vs H Q E h => ?_) (fun cdv A outer s H vs Q E hr h => ?_)
  · obtain ⟨a, ns, rfl, _⟩ := h
    rfl
  · obtain ⟨a0, ns, rfl, hS, hn, q0⟩ := h
    refine ⟨_, pss_cons (ps_set (i := 1) sc_law.nd rfl (Or.inl rfl) (pe_call (E := E0) (ok_l_new T) (hr.mono (by decide)) (by rfl) T.l_new.g T.l_new.F.kp T.l_new.B .nil passL (pa_cons (pv 0) pa_nil))) (pss_ex (Wf := fun a q => mkW T a q) (fun a q => (dss_cons (ds_asg (ps_set (i := 2) sc_law.nd rfl (Or.inl rfl) (de_ix (de_lst (da_cons de_str (da_cons de_str da_nil))) (de_call (ok_l_draw T a q) (hr.mono (by decide)) (by rfl) T.l_draw.g T.l_draw.F.kp T.l_draw.B takes0 (da_cons (de_v 1 (pv 1)) (da_cons de_int da_nil))))))
        (dss_cons (ds_asg (ps_set (i := 3) sc_law.nd rfl (Or.inl rfl) (de_call (ok_l_word T a q) (hr.mono (by decide)) (by rfl) T.l_word.g T.l_word.F.kp T.l_word.B takes0 (da_cons (de_v 1 (pv 1)) (da_cons (de_v 2 (pv 2)) (da_cons de_int (da_cons de_int da_nil)))))))
        (dss_cons (ds_asg (ps_set (i := 4) sc_law.nd rfl (Or.inl rfl) (de_op op_addA om_add (de_lst (da_cons (de_call (ok_l_word T a q) (hr.mono (by decide)) (by rfl) T.l_word.g T.l_word.F.kp T.l_word.B takes0 (da_cons (de_v 1 (pv 1)) (da_cons (de_v 2 (pv 2)) (da_cons de_int (da_cons de_int da_nil))))) da_nil)) (de_call (ok_l_groups T a q) (hr.mono (by decide)) (by rfl) T.l_groups.g T.l_groups.F.kp T.l_groups.B takes0 (da_cons (de_v 1 (pv 1)) (da_cons (de_v 2 (pv 2)) (da_cons de_int (da_cons de_int da_nil))))))))
        (dss_frz (i := 4) (dss_cons (ds_asg (ps_set (i := 5) sc_law.nd rfl (Or.inl rfl) (de_call (ok_l_joins T a q) (hr.mono (by decide)) (by rfl) T.l_joins.g T.l_joins.F.kp T.l_joins.B takes0 (da_cons (de_v 1 (pv 1)) (da_cons (de_v 3 (pv 3)) (da_cons (de_v 4 (pv 4)) (da_cons de_int da_nil)))))))
        (dss_cons (ds_asg (ps_set (i := 6) sc_law.nd rfl (Or.inl rfl) (de_op op_fdiv om_div (de_cb call_lenM cm_len (by rfl) T.b_len PySem.boot_len (da_cons (de_ix (de_v 5 (pv 5)) de_int) da_nil)) de_int)))
        (dss_cons (ds_asg (ps_set (i := 7) sc_law.nd rfl (Or.inl rfl) (de_op op_addA om_add (de_ix (de_v 5 (pv 5)) de_int) (de_lst (da_cons (de_tup (da_cons (de_v 6 (pv 6)) (da_cons de_str da_nil))) (da_cons (de_tup (da_cons (de_op op_addA om_add (de_v 6 (pv 6)) de_int) (da_cons de_str da_nil))) (da_cons (de_tup (da_cons (de_v 6 (pv 6)) (da_cons de_str da_nil))) da_nil)))))))
        (dss_frz (i := 7) (dss_cons (ds_if (dt_w (dt_or (dt_not (dt_val (de_call (ok_l_ordered T a q) (hr.mono (by decide)) (by rfl) T.l_ordered.g T.l_ordered.F.kp T.l_ordered.B takes0 (da_cons (de_v 3 (pv 3)) (da_cons (de_v 7 (pv 7)) da_nil))))) (dt_or (dt_not (dt_val (de_call (ok_l_ordered T a q) (hr.mono (by decide)) (by rfl) T.l_ordered.g T.l_ordered.F.kp T.l_ordered.B takes0 (da_cons (de_v 3 (pv 3)) (da_cons (de_ix (de_v 5 (pv 5)) de_int) da_nil))))) (dt_or1 (dt_not (dt_val (de_call (ok_l_ordered T a q) (hr.mono (by decide)) (by rfl) T.l_ordered.g T.l_ordered.F.kp T.l_ordered.B takes0 (da_cons (de_v 3 (pv 3)) (da_cons (de_lst da_nil) da_nil)))))))))
          (dss_one (ds_ret de_bl)) dss_nil)
        (dss_cons (ds_if (dt_not (dt_val (de_call (ok_l_ordered T a q) (hr.mono (by decide)) (by rfl) T.l_ordered.g T.l_ordered.F.kp T.l_ordered.B takes0 (da_cons (de_v 3 (pv 3)) (da_cons (de_lst (da_cons (de_tup (da_cons de_int (da_cons de_str da_nil))) (da_cons (de_tup (da_cons de_int (da_cons de_str da_nil))) (da_cons (de_tup (da_cons de_int (da_cons de_str da_nil))) da_nil)))) da_nil)))))
          (dss_one (ds_ret de_bl)) dss_nil)
        (dss_cons (ds_if (dt_not (dt_val (de_call (ok_l_ordered T a q) (hr.mono (by decide)) (by rfl) T.l_ordered.g T.l_ordered.F.kp T.l_ordered.B takes0 (da_cons de_str (da_cons (de_lst (da_cons (de_tup (da_cons de_int (da_cons de_str da_nil))) (da_cons (de_tup (da_cons de_int (da_cons de_str da_nil))) (da_cons (de_tup (da_cons de_int (da_cons de_str da_nil))) (da_cons (de_tup (da_cons de_int (da_cons de_str da_nil))) (da_cons (de_tup (da_cons de_int (da_cons de_str da_nil))) (da_cons (de_tup (da_cons de_int (da_cons de_str da_nil))) da_nil))))))) da_nil)))))
          (dss_one (ds_ret de_bl)) dss_nil)
        (dss_frz (i := 7) (dss_cons (ds_asg (ps_set (i := 8) sc_law.nd rfl (Or.inl rfl) (de_call (ok_l_played T a q) (hr.mono (by decide)) (by rfl) T.l_played.g T.l_played.F.kp T.l_played.B takes0 (da_cons (de_v 3 (pv 3)) (da_cons (de_v 7 (pv 7)) da_nil)))))
        (dss_cons (ds_for (passes_of rfl) rfl (di_range1 (by rfl) T.b_range (de_op op_sub om_sub (de_cb call_lenM cm_len (by rfl) T.b_len PySem.boot_len (da_cons (de_v 7 (pv 7)) da_nil)) de_int)) (pg_name (i := 9) sc_law.nd rfl (Or.inl rfl)) (tg_N)
          (dss_one (ds_if (dt_cmp op_isB om_isB (de_call (ok_l_exchange T a q) (hr.mono (by decide)) (by rfl) T.l_exchange.g T.l_exchange.F.kp T.l_exchange.B takes0 (da_cons (de_ix (de_v 8 (pv 8)) (de_v 9 (pv 9))) (da_cons (de_ix (de_v 7 (pv 7)) (de_v 9 (pv 9))) (da_cons (de_ix (de_v 7 (pv 7)) (de_op op_addA om_add (de_v 9 (pv 9)) de_int)) da_nil)))) de_bl (nomark _))
            (dss_one (ds_ret de_bl)) dss_nil)))
        (dss_cons (ds_asg (ps_set (i := 10) sc_law.nd rfl (Or.inl rfl) (de_call (ok_l_word T a q) (hr.mono (by decide)) (by rfl) T.l_word.g T.l_word.F.kp T.l_word.B takes0 (da_cons (de_v 1 (pv 1)) (da_cons (de_v 2 (pv 2)) (da_cons de_int (da_cons de_int da_nil)))))))
        (dss_cons (ds_if (dt_w (dt_or (dt_not (dt_val (de_call (ok_l_all_pairs T a q) (hr.mono (by decide)) (by rfl) T.l_all_pairs.g T.l_all_pairs.F.kp T.l_all_pairs.B takes0 (da_cons (de_sl sl_M sm_sl (de_v 3 (pv 3)) do_none (do_some de_int)) (da_cons (de_v 10 (pv 10)) (da_cons (de_ix (de_v 4 (pv 4)) de_int) da_nil)))))) (dt_or1 (dt_not (dt_val (de_call (ok_l_all_pairs T a q) (hr.mono (by decide)) (by rfl) T.l_all_pairs.g T.l_all_pairs.F.kp T.l_all_pairs.B takes0 (da_cons de_str (da_cons de_str (da_cons de_str da_nil)))))))))
          (dss_one (ds_ret de_bl)) dss_nil)
        (dss_cons (ds_asg (ps_set (i := 11) sc_law.nd rfl (Or.inl rfl) (de_op op_addA om_add (de_v 3 (pv 3)) (de_op op_mulA om_mul de_str (de_call (ok_l_draw T a q) (hr.mono (by decide)) (by rfl) T.l_draw.g T.l_draw.F.kp T.l_draw.B takes0 (da_cons (de_v 1 (pv 1)) (da_cons de_int da_nil)))))))
        (dss_cons (ds_asg (ps_set (i := 12) sc_law.nd rfl (Or.inl rfl) (de_call (ok_l_draw T a q) (hr.mono (by decide)) (by rfl) T.l_draw.g T.l_draw.F.kp T.l_draw.B takes0 (da_cons (de_v 1 (pv 1)) (da_cons (de_op op_addA om_add (de_cb call_lenM cm_len (by rfl) T.b_len PySem.boot_len (da_cons (de_v 11 (pv 11)) da_nil)) de_int) da_nil)))))
        (dss_cons (ds_asg (ps_set (i := 13) sc_law.nd rfl (Or.inl rfl) (de_call (ok_l_draw T a q) (hr.mono (by decide)) (by rfl) T.l_draw.g T.l_draw.F.kp T.l_draw.B takes0 (da_cons (de_v 1 (pv 1)) (da_cons (de_op op_addA om_add (de_op op_addA om_add (de_cb call_lenM cm_len (by rfl) T.b_len PySem.boot_len (da_cons (de_v 11 (pv 11)) da_nil)) (de_cb call_lenM cm_len (by rfl) T.b_len PySem.boot_len (da_cons (de_v 10 (pv 10)) da_nil))) de_int) da_nil)))))
        (dss_cons (ds_if (dt_cmp op_isB om_isB (de_call (ok_l_exchange T a q) (hr.mono (by decide)) (by rfl) T.l_exchange.g T.l_exchange.F.kp T.l_exchange.B takes0 (da_cons (de_v 11 (pv 11)) (da_cons (de_tup (da_cons (de_v 12 (pv 12)) (da_cons (de_v 10 (pv 10)) da_nil))) (da_cons (de_tup (da_cons (de_v 13 (pv 13)) (da_cons de_str da_nil))) da_nil)))) de_bl (nomark _))
          (dss_one (ds_ret de_bl)) dss_nil)
        (dss_one (ds_ret (de_cmp op_notB om_notB (de_call (ok_l_exchange T a q) (hr.mono (by decide)) (by rfl) T.l_exchange.g T.l_exchange.F.kp T.l_exchange.B takes0 (da_cons (de_v 11 (pv 11)) (da_cons (de_tup (da_cons (de_v 12 (pv 12)) (da_cons (de_v 10 (pv 10)) da_nil))) (da_cons (de_tup (da_cons (de_op op_addA om_add (de_v 12 (pv 12)) (de_cb call_lenM cm_len (by rfl) T.b_len PySem.boot_len (da_cons (de_v 10 (pv 10)) da_nil))) (da_cons de_str da_nil))) da_nil)))) de_bl (nomark _)))))))))))))))))))))))))), ?_⟩
    refine ⟨.ref a0, rfl, a0, ns, rfl, hS, hn, fun H1 p e1 np hds => ?_⟩
    refine law_run (fun _ _ => rfl) (fun _ _ => rfl) hds ?_ (fun H' => q0 H')
    exact ref_law
end
end L07
end

section
set_option Elab.async false
set_option linter.all false
set_option maxRecDepth 100000
set_option maxHeartbeats 4000000
namespace PySem
namespace GrX
open PySem.W PySem.Calls PyProof.Rows PySem.HandSPX
/-! ### the text of the base error's own making -/
def iA : Arguments := { posonlyargs := [], args := [{ arg := "self", annotation := none, pos := ⟨7, 17, 7, 21⟩ }, { arg := "value", annotation := none, pos := ⟨7, 23, 7, 28⟩ }], vararg := none, kwonlyargs := [], kw_defaults := [], kwarg := none, defaults := [] }
def iB : List Stmt :=
  [.Expr (.Call (.Attribute (.Call (.Name "super" ⟨8, 8, 8, 13⟩) [] [] ⟨8, 8, 8, 15⟩) "__init__" ⟨8, 8, 8, 24⟩) [.JoinedStr [.Constant (.str "refused: ") 0 ⟨8, 27, 8, 36⟩, .FormattedValue (.Name "value" ⟨8, 37, 8, 42⟩) 114 none ⟨8, 36, 8, 45⟩] ⟨8, 25, 8, 46⟩] [] ⟨8, 8, 8, 47⟩) ⟨8, 8, 8, 47⟩,
   .Assign [.Attribute (.Name "self" ⟨9, 8, 9, 12⟩) "value" ⟨9, 8, 9, 18⟩] (.Name "value" ⟨9, 21, 9, 26⟩) ⟨9, 8, 9, 26⟩]
def iS : Scope := { kind := .function, names := [(PySem.Str.ofString "self", .local), (PySem.Str.ofString "value", .local), (PySem.Str.ofString "__class__", .free), (PySem.Str.ofString "super", .globalImplicit)], isGenerator := false, isCoroutine := false, more := [] }
abbrev iQ : Str := "GrowsError.__init__"
/-- what the written part says of the base error, at D, and of its making, at fI -/
structure BaseF (prog : Program) (K : Frag) (D fI : Addr) : Prop where
  fn : ∃ (oc : Value) (od : Option Addr) (doc pm : Value) (an : Option Addr) (cda cc : Addr) (ct : Value) (osl : Array (Option Value)),
    K.lookup fI = some ⟨oc, od, .func (ksFn "__init__" iQ iA iB iS .none .none doc pm an (.ref cda) ct cc), osl⟩ ∧ codeIn K (.ref cda) iQ = true ∧
    (∃ ccl cdd vs ccs file tf, K.lookup cda = some ⟨ccl, cdd, .fields vs, ccs⟩ ∧ vs[2]? = some (.str file tf) ∧ ((prog.main.file : Str) == file) = true) ∧
    (∃ cl cld csl, K.lookup cc = some ⟨cl, cld, .cell (some (.ref D)), csl⟩)
  cd : ∃ cdD, clsIn K D = some cdD
  tI : typeIn K (.ref fI) = some (.type "function")
  top : (prog.main.scope.names.lookup ("super" : Str)).isSome = false
  opq : nsIn K cStatics "thirdparty.any" = some none
  sup : nsIn K mainGlobals "super" = some none
section
variable {prog : Program} {w : World} {A : Around} {E : Value → Shared → Prop} {R : Result → Shared → Prop} {s : Shared} {K : Frag} {mg mb : Str → Option Value} {D fI C : Addr}
theorem gr_init0 (T : BaseF prog K D fI) (O : OwnT K D fI C) {x t0 : Addr} {v : Value} (X : K.In s.heap) (G : s.heap.Ns mainGlobals mg) (Bt : s.heap.Ns builtinsNs mb) (hbt : mb "super" = some (.type "super")) (hlim : s.heap.NoLimit) (hx : s.heap.get? x = some (excO C t0)) (hnx : K.lookup x = none)
    (hroom : A.depth < recursionLimit) (hv : ∀ A', A'.depth = A.depth + 1 → Shows prog w A' s.heap v)
    (hq : ∀ h' tk dx t1, InitEnd s.heap h' x C dx t1 v → R (.ok (.ret .none)) { s with heap := h', toks := tk }) :
    codeAny (model prog w) A (.call (.ref fI) ⟨[.ref x, v], []⟩) R s := by
  obtain ⟨oc, od, doc, pm, an, cda, cc, ct, osl, ho, hcd, ⟨ccl, cdd, vs, ccs, file, tf, hcode, hvs, hfile⟩, ⟨cl, cld, csl, hcell⟩⟩ := T.fn
  obtain ⟨cdD, hcdD⟩ := T.cd
  obtain ⟨nm, qq, N, bs, bm, sn, sub, ab, col, dd, k0, k1, k2, k3, k5, hC, hbm⟩ := O.cls
  have hcl : clsIn K C = some { name := nm, bases := bs, mro := .ref C :: bm, ns := N, qualname := qq, hasDict := true, slotNames := sn, subclasses := sub, abstract := ab, collection := col, hasDel := false } := by unfold clsIn; rw [hC] <;> rfl
  obtain ⟨oD, hD1, hD2⟩ : ∃ oD, K.lookup D = some oD ∧ oD.data = .cls cdD := by
    unfold clsIn at hcdD
    split at hcdD
    · rename_i c d cd' sl ho'
      cases hcdD
      exact ⟨_, ho', rfl⟩
    · cases hcdD
  have gns : ∀ {a : Addr} {m : Str → Option Value} {h h' : Heap}, h.Ns a m → (∀ b o, b ≠ x → h.get? b = some o → h'.get? b = some o) → a ≠ x → h'.Ns a m := fun {a m h h'} n k ne => n.at fun o e => k a o ne e
  refine ks_codeAny_call_defAt (binds := [("self", .ref x), ("value", v)]) hroom (X _ _ ho) rfl hlim (codeRec_of X hcd) rfl (BindsTo.of_eq (by first | rfl | with_unfolding_all rfl)) (show ∀ x ∈ iS.names, x.2 ≠ .cell by decide +kernel) (locs rfl) (fun h₁ hns hk₁ => ?_) rfl rfl rfl
  have X₁ : K.In h₁ := X.keeps hk₁
  have hx₁ := hk₁ _ _ hx
  have hxL : s.heap.objs.size ≠ x := Nat.ne_of_gt (Heap.lt_size hx)
  have sub' : (binds : List (Str × Value)) → True := fun _ => trivial
  refine ks_wpAt_execs_cons (ks_wpAt_Expr_any (ks_wpAt_MethodCall ?_))
  refine ks_wpAt_super_base (fd := ksFn "__init__" iQ iA iB iS .none .none doc pm an (.ref cda) ct cc) (by rfl) (by rfl) (by decide +kernel) (by rfl) (X₁ _ _ ho) rfl (by rfl) (by rfl) (X₁ _ _ hcode) rfl hvs hfile T.top ?_
  refine ks_loadName_global (by rfl) (by rfl) (loadGlobal_builtin (mg := mg) (mb := mb) (G.keeps hk₁) (mg_none_of X G T.sup) (Bt.keeps hk₁) hbt ⟨rfl, ?_⟩)
  refine wpAny_loadName_free (by rfl) (by rfl) rfl ⟨_, X₁ _ _ hcell, rfl⟩ ?_
  refine wpAny_loadName_local (by rfl) (by rfl) hns (v := .ref x) (by rfl) ?_
  refine ks_wpAny_isType_cls (X₁ _ _ hD1) hD2 ⟨rfl, ?_⟩
  refine ks_wpAny_call_super (X₁ _ _ hD1) hD2 hx₁ rfl (fun c e => by cases e) (looks_mroIn X₁ O.mD) (fun h₂ hso k₂ => ?_)
  have X₂ : K.In h₂ := X₁.keeps k₂
  have hx₂ := k₂ _ _ hx₁
  have hI : Looks (model prog w) h₂ (isInstance (.ref x) (.type "ValueError")) true := (show InstAt h₂ x (excO C t0) C none from ⟨hx₂, rfl, rfl, trivial⟩).type.andThen (looks_subIn X₂ O.veC)
  have hal : alongIn K "__init__" (((Value.ref C :: bm).dropWhile (· != .ref D)).drop 1) = some (some (.builtin "ValueError.__init__")) := by
    have z := O.sup
    unfold ks_superIn at z
    rw [hcl] at z
    exact z
  have hxC : x ≠ C := fun z => by
    rw [z] at hnx
    rw [hC] at hnx
    cases hnx
  refine kxs_getMethod kxs_ValueError hso (looks_opaque X₂ T.opq) (l₀ := .ref C :: bm) (fun A Q E s k q => wpAny_bind ((looks_clsIn X₂ hcl) A _ E s k (wpAny_pure q))) rfl X₂ hal hI hxC (by decide +kernel) ?_
  refine callWith_mw (i := "ValueError.__init__") (x := x) ?_
  have hns₂ := hns.keeps k₂
  have hrep := hv (A.deeper (callEnv (ksFn "__init__" iQ iA iB iS .none .none doc pm an (.ref cda) ct cc) s.heap.objs.size fI)) rfl
  have len1 : ("refused: " : Str).length ≤ 9 := by decide +kernel
  have lenC : ∀ y : Str, y.length ≤ 16000000 → (Str.empty ++ ("refused: " : Str) ++ y).length ≤ sizeLine := fun y hy => by
    rw [sizeLine_eq, Str.length_append, Str.length_append]
    have e0 : Str.empty.length = 0 := rfl
    omega
  refine Calls.spliced_cons (wpAny_JoinedStr (pos := ⟨8, 25, 8, 46⟩) (Calls.Constant_str ⟨"refused: ", _, rfl, by decide +kernel, ?_⟩))
  refine wpAny_FormattedValue_repr (ldG (m := fun z => List.lookup z [(("self" : Str), Value.ref x), ("value", v)].reverse) (v := v) (hns₂.keeps fun _ _ z => Heap.get?_push_of_some _ z) (by rfl) ?_)
  refine hrep _ _ _ (fun b o z => Heap.get?_push_of_some _ (k₂ b o (hk₁ b o z))) fun y tk tk' hy => ?_
  refine wpAny_formatField_str ?_ ?_ (by rw [sizeLine_eq]; omega)
  all_goals
    refine ⟨y, _, rfl, lenC y hy, lenC y hy, Calls.spliced_nil ⟨Heap.get?_push_size _ rfl, ?_⟩⟩
    have p₃ : ∀ b o, h₂.get? b = some o → (h₂.push (kxs_mw "ValueError.__init__" x)).get? b = some o := fun b o z => Heap.get?_push_of_some _ z
    have X₃ : K.In (h₂.push (kxs_mw "ValueError.__init__" x)) := X₂.keeps p₃
    refine call_mw (X₃ _ _ hC) (p₃ _ _ hx₂) (Heap.get?_push_size _ rfl) (one_size _) fun h₄ t1 k₄ hx₄ => ?_
    have X₄ : K.In h₄ := keepK X₃ hnx k₄
    have hns₄ := gns (hns₂.keeps p₃) k₄ hxL
    show wpAt _ _ _ (execs _ _) _ _ _
    refine wpAt_of_wpAny (wpAny_execs_cons (plainObj_wpAny_Assign_Attribute ?_))
    refine ldG (v := v) hns₄ (by rfl) (ldG (v := .ref x) hns₄ (by rfl) ?_)
    refine set_plain X₄ (ox := excO C t1) (od := none) ⟨hx₄, rfl, rfl, trivial⟩ O.sa ?_
    refine exc_osa X₄ hx₄ hcl (show refsVE (.ref C :: bm) = true from hbm) rfl O.noN (fun h₅ tk₅ dx k₅ dn dne hx₅ hn₅ => ?_)
    show wpAny _ _ (execs _ _) _ _ _
    have kk : ∀ b o, b ≠ x → s.heap.get? b = some o → h₄.get? b = some o := fun b o hb z => k₄ b o hb (p₃ b o (k₂ b o (hk₁ b o z)))
    refine wpAny_execs_nil (hq h₅ tk₅ dx t1 ⟨fun b o hb z => k₅ b o hb (kk b o hb z), hx₅, ?_, dne, hn₅⟩)
    refine Nat.le_trans (Nat.le_of_lt ?_) dn
    exact hns₄.lt
theorem base_of (T : BaseF prog K D fI) : BaseT prog K D fI := ⟨T.cd, T.tI, by
  intro w A R s mg mb C O x t0 v X G Bt hbt hlim hx hnx hroom hv hq
  exact gr_init0 T O X G Bt hbt hlim hx hnx hroom hv hq⟩
end
end GrX
end PySem
end

section
set_option Elab.async false
set_option linter.all false
set_option maxRecDepth 100000
set_option maxHeartbeats 4000000
namespace L07
open PySem PySem.Spec PyProof.Rows L2 Dn GrO
theorem all_mk {w : World} {K : PySem.W.Frag} {h : Heap} {mg : Str → Option Value} {fa : Addr} (X : K.In h) (G : h.Ns mainGlobals mg) (hfa : mg "law" = some (.ref fa))
    {cGrowth f0 f1 f2 f3 tT3 tn3 f4 p4 f5 f6 f7 f8 f9 f10 f11 f12 f13 f14 f15 f16 f17 f18 f19 f20 f21 f22 cGrowsError cInvalidGroup cInvalidText cGapOutOfRange cDoNotMeet fI cda cc : Addr}
    {od0 an0 od1 an1 od2 an2 oT3 on3 od3 an3 od4 an4 od5 an5 od6 an6 od7 an7 od8 an8 od9 an9 od10 an10 od11 an11 od12 an12 od13 an13 od14 an14 od15 an15 od16 an16 od17 an17 od18 an18 od19 an19 od20 an20 od21 an21 od22 an22 odI anI cddI cldI : Option Addr}
    {sl0 sl1 sl2 sT3 sn3 sl3 sl4 sl5 sl6 sl7 sl8 sl9 sl10 sl11 sl12 sl13 sl14 sl15 sl16 sl17 sl18 sl19 sl20 sl21 sl22 oslI ccsI cslI : Array (Option Value)}
    {vsI : Array Value} {cdDI : ClassData} {fileI : Str} {tfI : Tok}
    {oc0 kV0 dc0 pm0 cd0 ct0 oc1 kV1 dc1 pm1 cd1 ct1 oc2 kV2 dc2 pm2 cd2 ct2 cT3 oc3 kV3 dc3 pm3 cd3 ct3 oc4 kV4 dc4 pm4 cd4 ct4 oc5 kV5 dc5 pm5 cd5 ct5 oc6 kV6 dc6 pm6 cd6 ct6 oc7 kV7 dc7 pm7 cd7 ct7 oc8 kV8 dc8 pm8 cd8 ct8 oc9 kV9 dc9 pm9 cd9 ct9 oc10 kV10 dc10 pm10 cd10 ct10 oc11 kV11 dc11 pm11 cd11 ct11 oc12 kV12 dc12 pm12 cd12 ct12 oc13 kV13 dc13 pm13 cd13 ct13 oc14 kV14 dc14 pm14 cd14 ct14 oc15 kV15 dc15 pm15 cd15 ct15 oc16 kV16 dc16 pm16 cd16 ct16 oc17 kV17 dc17 pm17 cd17 ct17 oc18 kV18 dc18 pm18 cd18 ct18 oc19 kV19 dc19 pm19 cd19 ct19 oc20 kV20 dc20 pm20 cd20 ct20 oc21 kV21 dc21 pm21 cd21 ct21 oc22 kV22 dc22 pm22 cd22 ct22 ocI docI pmI ctI cclI clI : Value}
    {nT3 nn3 : Nat}
    {rs4 : List Value}
    {t_LETTERS : Tok}
    {nmGrowsError qGrowsError : Str} {NGrowsError : Addr} {bsGrowsError bmGrowsError : List Value} {snGrowsError : List Str} {subGrowsError : List Value} {abGrowsError : Bool} {colGrowsError : Option Bool} {ddGrowsError : Option Addr} {k0GrowsError k1GrowsError k2GrowsError k3GrowsError k5GrowsError : Option Value}
    {nmInvalidGroup qInvalidGroup : Str} {NInvalidGroup : Addr} {bsInvalidGroup bmInvalidGroup : List Value} {snInvalidGroup : List Str} {subInvalidGroup : List Value} {abInvalidGroup : Bool} {colInvalidGroup : Option Bool} {ddInvalidGroup : Option Addr} {k0InvalidGroup k1InvalidGroup k2InvalidGroup k3InvalidGroup k5InvalidGroup : Option Value}
    {nmInvalidText qInvalidText : Str} {NInvalidText : Addr} {bsInvalidText bmInvalidText : List Value} {snInvalidText : List Str} {subInvalidText : List Value} {abInvalidText : Bool} {colInvalidText : Option Bool} {ddInvalidText : Option Addr} {k0InvalidText k1InvalidText k2InvalidText k3InvalidText k5InvalidText : Option Value}
    {nmGapOutOfRange qGapOutOfRange : Str} {NGapOutOfRange : Addr} {bsGapOutOfRange bmGapOutOfRange : List Value} {snGapOutOfRange : List Str} {subGapOutOfRange : List Value} {abGapOutOfRange : Bool} {colGapOutOfRange : Option Bool} {ddGapOutOfRange : Option Addr} {k0GapOutOfRange k1GapOutOfRange k2GapOutOfRange k3GapOutOfRange k5GapOutOfRange : Option Value}
    {nmDoNotMeet qDoNotMeet : Str} {NDoNotMeet : Addr} {bsDoNotMeet bmDoNotMeet : List Value} {snDoNotMeet : List Str} {subDoNotMeet : List Value} {abDoNotMeet : Bool} {colDoNotMeet : Option Bool} {ddDoNotMeet : Option Addr} {k0DoNotMeet k1DoNotMeet k2DoNotMeet k3DoNotMeet k5DoNotMeet : Option Value}
    (hn : PySem.W.specialIn K (.builtin "object.__class__") "__get__" = some (some (.builtin "getset_descriptor.__get__")))
    (ht : PySem.W.takesIn K (.builtin "object.__class__") = some true)
    (aCGrowth : PySem.W.nsIn K mainGlobals "Growth" = some (some (.ref cGrowth)))
    (pgGrowth : PySem.W.plainGet K cGrowth Str.empty = true)
    (hdGrowth : PySem.W.hasDictIn K cGrowth = true)
    (poGrowth : PySem.W.plainOver K cGrowth = true)
    (saGrowth : PySem.W.findIn K (.ref cGrowth) "__setattr__" = some (some (.builtin "object.__setattr__")))
    (ocGrowth : PySem.W.findIn K (.ref cGrowth) "__class__" = some (some (.builtin "object.__class__")))
    (omGrowth : PySem.W.mroIn K cGrowth (.type "object") = some true)
    (naGrowthstart : PySem.W.findIn K (.ref cGrowth) "start" = some none)
    (naGrowthjoins : PySem.W.findIn K (.ref cGrowth) "joins" = some none)
    (naGrowthrow : PySem.W.findIn K (.ref cGrowth) "_row" = some none)
    (kiGrowthGrowth : PySem.W.kitOne K (.ref cGrowth) (.ref cGrowth) = some true)
    (a0 : PySem.W.nsIn K mainGlobals "is_letters" = some (some (.ref f0)))
    (l0 : K.lookup f0 = some ⟨oc0, od0, .func (PySem.W.fnOf "is_letters" "is_letters" (defArgs s_is_letters) (defBody s_is_letters) (defScope s_is_letters) .none kV0 dc0 pm0 an0 cd0 ct0), sl0⟩)
    (c0 : PySem.W.codeIn K cd0 "is_letters" = true)
    (k0 : PySem.W.keepIn K (.ref f0) = true)
    (a1 : PySem.W.nsIn K mainGlobals "is_group" = some (some (.ref f1)))
    (l1 : K.lookup f1 = some ⟨oc1, od1, .func (PySem.W.fnOf "is_group" "is_group" (defArgs s_is_group) (defBody s_is_group) (defScope s_is_group) .none kV1 dc1 pm1 an1 cd1 ct1), sl1⟩)
    (c1 : PySem.W.codeIn K cd1 "is_group" = true)
    (k1 : PySem.W.keepIn K (.ref f1) = true)
    (a2 : PySem.W.nsIn K mainGlobals "check_group" = some (some (.ref f2)))
    (l2 : K.lookup f2 = some ⟨oc2, od2, .func (PySem.W.fnOf "check_group" "check_group" (defArgs s_check_group) (defBody s_check_group) (defScope s_check_group) .none kV2 dc2 pm2 an2 cd2 ct2), sl2⟩)
    (c2 : PySem.W.codeIn K cd2 "check_group" = true)
    (k2 : PySem.W.keepIn K (.ref f2) = true)
    (mk3 : PySem.W.makesIn K cGrowth = true)
    (at3 : PySem.W.findIn K (.ref cGrowth) "__init__" = some (some (.ref f3)))
    (l3 : K.lookup f3 = some ⟨oc3, od3, .func (PySem.W.fnOf "__init__" "Growth.__init__" (defArgs s_Growth_init) (defBody s_Growth_init) (defScope s_Growth_init) (.ref tT3) kV3 dc3 pm3 an3 cd3 ct3), sl3⟩)
    (c3 : PySem.W.codeIn K cd3 "Growth.__init__" = true)
    (k3 : PySem.W.keepIn K (.ref f3) = true)
    (lT3 : K.lookup tT3 = some ⟨cT3, oT3, .seq #[.ref tn3] nT3, sT3⟩)
    (ln3 : K.lookup tn3 = some ⟨.type "tuple", on3, .seq #[] nn3, sn3⟩)
    (fn3 : PySem.W.isFn K (.ref f3) = true)
    (kc3 : PySem.W.keepIn K (.ref cGrowth) = true)
    (at4 : PySem.W.findIn K (.ref cGrowth) "row" = some (some (.ref p4)))
    (ge4 : PySem.W.specialIn K (.ref p4) "__get__" = some (some (.builtin "property.__get__")))
    (ta4 : PySem.W.takesIn K (.ref p4) = some true)
    (rc4 : PySem.W.recIn K p4 "property" = some (.ref f4 :: rs4))
    (l4 : K.lookup f4 = some ⟨oc4, od4, .func (PySem.W.fnOf "row" "Growth.row" (defArgs s_Growth_row) (defBody s_Growth_row) (defScope s_Growth_row) .none kV4 dc4 pm4 an4 cd4 ct4), sl4⟩)
    (c4 : PySem.W.codeIn K cd4 "Growth.row" = true)
    (k4 : PySem.W.keepIn K (.ref f4) = true)
    (at5 : PySem.W.findIn K (.ref cGrowth) "owners" = some (some (.ref f5)))
    (l5 : K.lookup f5 = some ⟨oc5, od5, .func (PySem.W.fnOf "owners" "Growth.owners" (defArgs s_Growth_owners) (defBody s_Growth_owners) (defScope s_Growth_owners) .none kV5 dc5 pm5 an5 cd5 ct5), sl5⟩)
    (c5 : PySem.W.codeIn K cd5 "Growth.owners" = true)
    (k5 : PySem.W.keepIn K (.ref f5) = true)
    (fn5 : PySem.W.isFn K (.ref f5) = true)
    (fi5 : PySem.W.fnIn K f5 = true)
    (a6 : PySem.W.nsIn K mainGlobals "exchanged" = some (some (.ref f6)))
    (l6 : K.lookup f6 = some ⟨oc6, od6, .func (PySem.W.fnOf "exchanged" "exchanged" (defArgs s_exchanged) (defBody s_exchanged) (defScope s_exchanged) .none kV6 dc6 pm6 an6 cd6 ct6), sl6⟩)
    (c6 : PySem.W.codeIn K cd6 "exchanged" = true)
    (k6 : PySem.W.keepIn K (.ref f6) = true)
    (a7 : PySem.W.nsIn K mainGlobals "in_order" = some (some (.ref f7)))
    (l7 : K.lookup f7 = some ⟨oc7, od7, .func (PySem.W.fnOf "in_order" "in_order" (defArgs s_in_order) (defBody s_in_order) (defScope s_in_order) .none kV7 dc7 pm7 an7 cd7 ct7), sl7⟩)
    (c7 : PySem.W.codeIn K cd7 "in_order" = true)
    (k7 : PySem.W.keepIn K (.ref f7) = true)
    (a8 : PySem.W.nsIn K mainGlobals "_law_new" = some (some (.ref f8)))
    (l8 : K.lookup f8 = some ⟨oc8, od8, .func (PySem.W.fnOf "_law_new" "_law_new" (defArgs s_l_new) (defBody s_l_new) (defScope s_l_new) .none kV8 dc8 pm8 an8 cd8 ct8), sl8⟩)
    (c8 : PySem.W.codeIn K cd8 "_law_new" = true)
    (k8 : PySem.W.keepIn K (.ref f8) = true)
    (a9 : PySem.W.nsIn K mainGlobals "_law_draw" = some (some (.ref f9)))
    (l9 : K.lookup f9 = some ⟨oc9, od9, .func (PySem.W.fnOf "_law_draw" "_law_draw" (defArgs s_l_draw) (defBody s_l_draw) (defScope s_l_draw) .none kV9 dc9 pm9 an9 cd9 ct9), sl9⟩)
    (c9 : PySem.W.codeIn K cd9 "_law_draw" = true)
    (k9 : PySem.W.keepIn K (.ref f9) = true)
    (a10 : PySem.W.nsIn K mainGlobals "_law_same" = some (some (.ref f10)))
    (l10 : K.lookup f10 = some ⟨oc10, od10, .func (PySem.W.fnOf "_law_same" "_law_same" (defArgs s_l_same) (defBody s_l_same) (defScope s_l_same) .none kV10 dc10 pm10 an10 cd10 ct10), sl10⟩)
    (c10 : PySem.W.codeIn K cd10 "_law_same" = true)
    (k10 : PySem.W.keepIn K (.ref f10) = true)
    (a11 : PySem.W.nsIn K mainGlobals "_law_word" = some (some (.ref f11)))
    (l11 : K.lookup f11 = some ⟨oc11, od11, .func (PySem.W.fnOf "_law_word" "_law_word" (defArgs s_l_word) (defBody s_l_word) (defScope s_l_word) .none kV11 dc11 pm11 an11 cd11 ct11), sl11⟩)
    (c11 : PySem.W.codeIn K cd11 "_law_word" = true)
    (k11 : PySem.W.keepIn K (.ref f11) = true)
    (a12 : PySem.W.nsIn K mainGlobals "_law_groups" = some (some (.ref f12)))
    (l12 : K.lookup f12 = some ⟨oc12, od12, .func (PySem.W.fnOf "_law_groups" "_law_groups" (defArgs s_l_groups) (defBody s_l_groups) (defScope s_l_groups) .none kV12 dc12 pm12 an12 cd12 ct12), sl12⟩)
    (c12 : PySem.W.codeIn K cd12 "_law_groups" = true)
    (k12 : PySem.W.keepIn K (.ref f12) = true)
    (a13 : PySem.W.nsIn K mainGlobals "_law_joins" = some (some (.ref f13)))
    (l13 : K.lookup f13 = some ⟨oc13, od13, .func (PySem.W.fnOf "_law_joins" "_law_joins" (defArgs s_l_joins) (defBody s_l_joins) (defScope s_l_joins) .none kV13 dc13 pm13 an13 cd13 ct13), sl13⟩)
    (c13 : PySem.W.codeIn K cd13 "_law_joins" = true)
    (k13 : PySem.W.keepIn K (.ref f13) = true)
    (a14 : PySem.W.nsIn K mainGlobals "_law_line" = some (some (.ref f14)))
    (l14 : K.lookup f14 = some ⟨oc14, od14, .func (PySem.W.fnOf "_law_line" "_law_line" (defArgs s_l_line) (defBody s_l_line) (defScope s_l_line) .none kV14 dc14 pm14 an14 cd14 ct14), sl14⟩)
    (c14 : PySem.W.codeIn K cd14 "_law_line" = true)
    (k14 : PySem.W.keepIn K (.ref f14) = true)
    (a15 : PySem.W.nsIn K mainGlobals "_law_in_order" = some (some (.ref f15)))
    (l15 : K.lookup f15 = some ⟨oc15, od15, .func (PySem.W.fnOf "_law_in_order" "_law_in_order" (defArgs s_l_in_order) (defBody s_l_in_order) (defScope s_l_in_order) .none kV15 dc15 pm15 an15 cd15 ct15), sl15⟩)
    (c15 : PySem.W.codeIn K cd15 "_law_in_order" = true)
    (k15 : PySem.W.keepIn K (.ref f15) = true)
    (a16 : PySem.W.nsIn K mainGlobals "_law_played" = some (some (.ref f16)))
    (l16 : K.lookup f16 = some ⟨oc16, od16, .func (PySem.W.fnOf "_law_played" "_law_played" (defArgs s_l_played) (defBody s_l_played) (defScope s_l_played) .none kV16 dc16 pm16 an16 cd16 ct16), sl16⟩)
    (c16 : PySem.W.codeIn K cd16 "_law_played" = true)
    (k16 : PySem.W.keepIn K (.ref f16) = true)
    (a17 : PySem.W.nsIn K mainGlobals "_law_is_join" = some (some (.ref f17)))
    (l17 : K.lookup f17 = some ⟨oc17, od17, .func (PySem.W.fnOf "_law_is_join" "_law_is_join" (defArgs s_l_is_join) (defBody s_l_is_join) (defScope s_l_is_join) .none kV17 dc17 pm17 an17 cd17 ct17), sl17⟩)
    (c17 : PySem.W.codeIn K cd17 "_law_is_join" = true)
    (k17 : PySem.W.keepIn K (.ref f17) = true)
    (a18 : PySem.W.nsIn K mainGlobals "_law_exchange" = some (some (.ref f18)))
    (l18 : K.lookup f18 = some ⟨oc18, od18, .func (PySem.W.fnOf "_law_exchange" "_law_exchange" (defArgs s_l_exchange) (defBody s_l_exchange) (defScope s_l_exchange) .none kV18 dc18 pm18 an18 cd18 ct18), sl18⟩)
    (c18 : PySem.W.codeIn K cd18 "_law_exchange" = true)
    (k18 : PySem.W.keepIn K (.ref f18) = true)
    (a19 : PySem.W.nsIn K mainGlobals "_law_bubbled" = some (some (.ref f19)))
    (l19 : K.lookup f19 = some ⟨oc19, od19, .func (PySem.W.fnOf "_law_bubbled" "_law_bubbled" (defArgs s_l_bubbled) (defBody s_l_bubbled) (defScope s_l_bubbled) .none kV19 dc19 pm19 an19 cd19 ct19), sl19⟩)
    (c19 : PySem.W.codeIn K cd19 "_law_bubbled" = true)
    (k19 : PySem.W.keepIn K (.ref f19) = true)
    (a20 : PySem.W.nsIn K mainGlobals "_law_ordered" = some (some (.ref f20)))
    (l20 : K.lookup f20 = some ⟨oc20, od20, .func (PySem.W.fnOf "_law_ordered" "_law_ordered" (defArgs s_l_ordered) (defBody s_l_ordered) (defScope s_l_ordered) .none kV20 dc20 pm20 an20 cd20 ct20), sl20⟩)
    (c20 : PySem.W.codeIn K cd20 "_law_ordered" = true)
    (k20 : PySem.W.keepIn K (.ref f20) = true)
    (a21 : PySem.W.nsIn K mainGlobals "_law_all_pairs" = some (some (.ref f21)))
    (l21 : K.lookup f21 = some ⟨oc21, od21, .func (PySem.W.fnOf "_law_all_pairs" "_law_all_pairs" (defArgs s_l_all_pairs) (defBody s_l_all_pairs) (defScope s_l_all_pairs) .none kV21 dc21 pm21 an21 cd21 ct21), sl21⟩)
    (c21 : PySem.W.codeIn K cd21 "_law_all_pairs" = true)
    (k21 : PySem.W.keepIn K (.ref f21) = true)
    (a22 : PySem.W.nsIn K mainGlobals "law" = some (some (.ref f22)))
    (l22 : K.lookup f22 = some ⟨oc22, od22, .func (PySem.W.fnOf "law" "law" (defArgs s_law) (defBody s_law) (defScope s_law) .none kV22 dc22 pm22 an22 cd22 ct22), sl22⟩)
    (c22 : PySem.W.codeIn K cd22 "law" = true)
    (k22 : PySem.W.keepIn K (.ref f22) = true)
    (b_ValueError : PySem.W.nsIn K mainGlobals "ValueError" = some none)
    (b_all : PySem.W.nsIn K mainGlobals "all" = some none)
    (b_bool : PySem.W.nsIn K mainGlobals "bool" = some none)
    (b_enumerate : PySem.W.nsIn K mainGlobals "enumerate" = some none)
    (b_int : PySem.W.nsIn K mainGlobals "int" = some none)
    (b_isinstance : PySem.W.nsIn K mainGlobals "isinstance" = some none)
    (b_len : PySem.W.nsIn K mainGlobals "len" = some none)
    (b_list : PySem.W.nsIn K mainGlobals "list" = some none)
    (b_property : PySem.W.nsIn K mainGlobals "property" = some none)
    (b_range : PySem.W.nsIn K mainGlobals "range" = some none)
    (b_str : PySem.W.nsIn K mainGlobals "str" = some none)
    (b_tuple : PySem.W.nsIn K mainGlobals "tuple" = some none)
    (g_LETTERS : PySem.W.nsIn K mainGlobals "LETTERS" = some (some (.str "abcdefghijklmnopqrstuvwxyz" t_LETTERS)))
    (aCGrowsError : PySem.W.nsIn K mainGlobals "GrowsError" = some (some (.ref cGrowsError)))
    (inGrowsError : PySem.W.findIn K (.ref cGrowsError) "__init__" = some (some (.ref fI)))
    (lI : K.lookup fI = some ⟨ocI, odI, .func (PySem.W.ksFn "__init__" PySem.GrX.iQ PySem.GrX.iA PySem.GrX.iB PySem.GrX.iS .none .none docI pmI anI (.ref cda) ctI cc), oslI⟩)
    (cI : PySem.W.codeIn K (.ref cda) PySem.GrX.iQ = true)
    (ld : K.lookup cda = some ⟨cclI, cddI, .fields vsI, ccsI⟩)
    (vI : vsI[2]? = some (.str fileI tfI))
    (pI : ((PySem.Challenge.rw_stillgrows_k07_exchanged_to_the_end.prog.main.file : Str) == fileI) = true)
    (lc : K.lookup cc = some ⟨clI, cldI, .cell (some (.ref cGrowsError)), cslI⟩)
    (dI : PySem.W.clsIn K cGrowsError = some cdDI)
    (tI : PySem.W.typeIn K (.ref fI) = some (.type "function"))
    (oI : PySem.W.nsIn K cStatics "thirdparty.any" = some none)
    (sI : PySem.W.nsIn K mainGlobals "super" = some none)
    (xLGrowsError : K.lookup cGrowsError = some (excClassObj nmGrowsError qGrowsError cGrowsError NGrowsError bsGrowsError bmGrowsError true snGrowsError subGrowsError abGrowsError colGrowsError ddGrowsError k0GrowsError k1GrowsError k2GrowsError k3GrowsError k5GrowsError "ValueError.__new__"))
    (bVGrowsError : HandSPX.refsVE bmGrowsError = true)
    (saGrowsError : PySem.W.findIn K (.ref cGrowsError) "__setattr__" = some (some (.builtin "object.__setattr__")))
    (nvGrowsError : PySem.W.findIn K (.ref cGrowsError) "value" = some none)
    (keGrowsError : PySem.W.keepIn K (.ref cGrowsError) = true)
    (exGrowsError : PySem.W.subIn K (.ref cGrowsError) (.type "BaseException") = some true)
    (veGrowsError : PySem.W.subIn K (.ref cGrowsError) (.type "ValueError") = some true)
    (tyGrowsError : PySem.W.typeIn K (.ref cGrowsError) = some (.type "type"))
    (hdGrowsError : PySem.W.hasDictIn K cGrowsError = true)
    (mDGrowsError : PySem.W.mroIn K cGrowsError (.ref cGrowsError) = some true)
    (suGrowsError : PySem.W.ks_superIn K cGrowsError cGrowsError "__init__" = some (some (.builtin "ValueError.__init__")))
    (gaGrowsError : PySem.W.findIn K (.ref cGrowsError) "__getattribute__" = some (some (.builtin "BaseException.__getattribute__")))
    (ggGrowsError : PySem.W.findIn K (.ref cGrowsError) "__getattr__" = some none)
    (haGrowsError : PySem.W.findIn K (.ref cGrowsError) "__class__" = some (some (.builtin "object.__class__")))
    (hmGrowsError : PySem.W.mroIn K cGrowsError (.type "object") = some true)
    (emGrowsError : PySem.W.exmOne K (.ref cGrowsError) (.ref cGrowsError) = some true)
    (kvGrowsError : PySem.W.kitOne K (.ref cGrowsError) (.type "ValueError") = some true)
    (aCInvalidGroup : PySem.W.nsIn K mainGlobals "InvalidGroup" = some (some (.ref cInvalidGroup)))
    (xLInvalidGroup : K.lookup cInvalidGroup = some (excClassObj nmInvalidGroup qInvalidGroup cInvalidGroup NInvalidGroup bsInvalidGroup bmInvalidGroup true snInvalidGroup subInvalidGroup abInvalidGroup colInvalidGroup ddInvalidGroup k0InvalidGroup k1InvalidGroup k2InvalidGroup k3InvalidGroup k5InvalidGroup "ValueError.__new__"))
    (bVInvalidGroup : HandSPX.refsVE bmInvalidGroup = true)
    (saInvalidGroup : PySem.W.findIn K (.ref cInvalidGroup) "__setattr__" = some (some (.builtin "object.__setattr__")))
    (nvInvalidGroup : PySem.W.findIn K (.ref cInvalidGroup) "value" = some none)
    (inInvalidGroup : PySem.W.findIn K (.ref cInvalidGroup) "__init__" = some (some (.ref fI)))
    (keInvalidGroup : PySem.W.keepIn K (.ref cInvalidGroup) = true)
    (exInvalidGroup : PySem.W.subIn K (.ref cInvalidGroup) (.type "BaseException") = some true)
    (veInvalidGroup : PySem.W.subIn K (.ref cInvalidGroup) (.type "ValueError") = some true)
    (tyInvalidGroup : PySem.W.typeIn K (.ref cInvalidGroup) = some (.type "type"))
    (hdInvalidGroup : PySem.W.hasDictIn K cInvalidGroup = true)
    (mDInvalidGroup : PySem.W.mroIn K cInvalidGroup (.ref cGrowsError) = some true)
    (suInvalidGroup : PySem.W.ks_superIn K cInvalidGroup cGrowsError "__init__" = some (some (.builtin "ValueError.__init__")))
    (gaInvalidGroup : PySem.W.findIn K (.ref cInvalidGroup) "__getattribute__" = some (some (.builtin "BaseException.__getattribute__")))
    (ggInvalidGroup : PySem.W.findIn K (.ref cInvalidGroup) "__getattr__" = some none)
    (haInvalidGroup : PySem.W.findIn K (.ref cInvalidGroup) "__class__" = some (some (.builtin "object.__class__")))
    (hmInvalidGroup : PySem.W.mroIn K cInvalidGroup (.type "object") = some true)
    (emInvalidGroup : PySem.W.exmOne K (.ref cInvalidGroup) (.ref cGrowsError) = some true)
    (kvInvalidGroup : PySem.W.kitOne K (.ref cInvalidGroup) (.type "ValueError") = some true)
    (aCInvalidText : PySem.W.nsIn K mainGlobals "InvalidText" = some (some (.ref cInvalidText)))
    (xLInvalidText : K.lookup cInvalidText = some (excClassObj nmInvalidText qInvalidText cInvalidText NInvalidText bsInvalidText bmInvalidText true snInvalidText subInvalidText abInvalidText colInvalidText ddInvalidText k0InvalidText k1InvalidText k2InvalidText k3InvalidText k5InvalidText "ValueError.__new__"))
    (bVInvalidText : HandSPX.refsVE bmInvalidText = true)
    (saInvalidText : PySem.W.findIn K (.ref cInvalidText) "__setattr__" = some (some (.builtin "object.__setattr__")))
    (nvInvalidText : PySem.W.findIn K (.ref cInvalidText) "value" = some none)
    (inInvalidText : PySem.W.findIn K (.ref cInvalidText) "__init__" = some (some (.ref fI)))
    (keInvalidText : PySem.W.keepIn K (.ref cInvalidText) = true)
    (exInvalidText : PySem.W.subIn K (.ref cInvalidText) (.type "BaseException") = some true)
    (veInvalidText : PySem.W.subIn K (.ref cInvalidText) (.type "ValueError") = some true)
    (tyInvalidText : PySem.W.typeIn K (.ref cInvalidText) = some (.type "type"))
    (hdInvalidText : PySem.W.hasDictIn K cInvalidText = true)
    (mDInvalidText : PySem.W.mroIn K cInvalidText (.ref cGrowsError) = some true)
    (suInvalidText : PySem.W.ks_superIn K cInvalidText cGrowsError "__init__" = some (some (.builtin "ValueError.__init__")))
    (gaInvalidText : PySem.W.findIn K (.ref cInvalidText) "__getattribute__" = some (some (.builtin "BaseException.__getattribute__")))
    (ggInvalidText : PySem.W.findIn K (.ref cInvalidText) "__getattr__" = some none)
    (haInvalidText : PySem.W.findIn K (.ref cInvalidText) "__class__" = some (some (.builtin "object.__class__")))
    (hmInvalidText : PySem.W.mroIn K cInvalidText (.type "object") = some true)
    (emInvalidText : PySem.W.exmOne K (.ref cInvalidText) (.ref cGrowsError) = some true)
    (kvInvalidText : PySem.W.kitOne K (.ref cInvalidText) (.type "ValueError") = some true)
    (aCGapOutOfRange : PySem.W.nsIn K mainGlobals "GapOutOfRange" = some (some (.ref cGapOutOfRange)))
    (xLGapOutOfRange : K.lookup cGapOutOfRange = some (excClassObj nmGapOutOfRange qGapOutOfRange cGapOutOfRange NGapOutOfRange bsGapOutOfRange bmGapOutOfRange true snGapOutOfRange subGapOutOfRange abGapOutOfRange colGapOutOfRange ddGapOutOfRange k0GapOutOfRange k1GapOutOfRange k2GapOutOfRange k3GapOutOfRange k5GapOutOfRange "ValueError.__new__"))
    (bVGapOutOfRange : HandSPX.refsVE bmGapOutOfRange = true)
    (saGapOutOfRange : PySem.W.findIn K (.ref cGapOutOfRange) "__setattr__" = some (some (.builtin "object.__setattr__")))
    (nvGapOutOfRange : PySem.W.findIn K (.ref cGapOutOfRange) "value" = some none)
    (inGapOutOfRange : PySem.W.findIn K (.ref cGapOutOfRange) "__init__" = some (some (.ref fI)))
    (keGapOutOfRange : PySem.W.keepIn K (.ref cGapOutOfRange) = true)
    (exGapOutOfRange : PySem.W.subIn K (.ref cGapOutOfRange) (.type "BaseException") = some true)
    (veGapOutOfRange : PySem.W.subIn K (.ref cGapOutOfRange) (.type "ValueError") = some true)
    (tyGapOutOfRange : PySem.W.typeIn K (.ref cGapOutOfRange) = some (.type "type"))
    (hdGapOutOfRange : PySem.W.hasDictIn K cGapOutOfRange = true)
    (mDGapOutOfRange : PySem.W.mroIn K cGapOutOfRange (.ref cGrowsError) = some true)
    (suGapOutOfRange : PySem.W.ks_superIn K cGapOutOfRange cGrowsError "__init__" = some (some (.builtin "ValueError.__init__")))
    (gaGapOutOfRange : PySem.W.findIn K (.ref cGapOutOfRange) "__getattribute__" = some (some (.builtin "BaseException.__getattribute__")))
    (ggGapOutOfRange : PySem.W.findIn K (.ref cGapOutOfRange) "__getattr__" = some none)
    (haGapOutOfRange : PySem.W.findIn K (.ref cGapOutOfRange) "__class__" = some (some (.builtin "object.__class__")))
    (hmGapOutOfRange : PySem.W.mroIn K cGapOutOfRange (.type "object") = some true)
    (emGapOutOfRange : PySem.W.exmOne K (.ref cGapOutOfRange) (.ref cGrowsError) = some true)
    (kvGapOutOfRange : PySem.W.kitOne K (.ref cGapOutOfRange) (.type "ValueError") = some true)
    (aCDoNotMeet : PySem.W.nsIn K mainGlobals "DoNotMeet" = some (some (.ref cDoNotMeet)))
    (xLDoNotMeet : K.lookup cDoNotMeet = some (excClassObj nmDoNotMeet qDoNotMeet cDoNotMeet NDoNotMeet bsDoNotMeet bmDoNotMeet true snDoNotMeet subDoNotMeet abDoNotMeet colDoNotMeet ddDoNotMeet k0DoNotMeet k1DoNotMeet k2DoNotMeet k3DoNotMeet k5DoNotMeet "ValueError.__new__"))
    (bVDoNotMeet : HandSPX.refsVE bmDoNotMeet = true)
    (saDoNotMeet : PySem.W.findIn K (.ref cDoNotMeet) "__setattr__" = some (some (.builtin "object.__setattr__")))
    (nvDoNotMeet : PySem.W.findIn K (.ref cDoNotMeet) "value" = some none)
    (inDoNotMeet : PySem.W.findIn K (.ref cDoNotMeet) "__init__" = some (some (.ref fI)))
    (keDoNotMeet : PySem.W.keepIn K (.ref cDoNotMeet) = true)
    (exDoNotMeet : PySem.W.subIn K (.ref cDoNotMeet) (.type "BaseException") = some true)
    (veDoNotMeet : PySem.W.subIn K (.ref cDoNotMeet) (.type "ValueError") = some true)
    (tyDoNotMeet : PySem.W.typeIn K (.ref cDoNotMeet) = some (.type "type"))
    (hdDoNotMeet : PySem.W.hasDictIn K cDoNotMeet = true)
    (mDDoNotMeet : PySem.W.mroIn K cDoNotMeet (.ref cGrowsError) = some true)
    (suDoNotMeet : PySem.W.ks_superIn K cDoNotMeet cGrowsError "__init__" = some (some (.builtin "ValueError.__init__")))
    (gaDoNotMeet : PySem.W.findIn K (.ref cDoNotMeet) "__getattribute__" = some (some (.builtin "BaseException.__getattribute__")))
    (ggDoNotMeet : PySem.W.findIn K (.ref cDoNotMeet) "__getattr__" = some none)
    (haDoNotMeet : PySem.W.findIn K (.ref cDoNotMeet) "__class__" = some (some (.builtin "object.__class__")))
    (hmDoNotMeet : PySem.W.mroIn K cDoNotMeet (.type "object") = some true)
    (emDoNotMeet : PySem.W.exmOne K (.ref cDoNotMeet) (.ref cGrowsError) = some true)
    (kvDoNotMeet : PySem.W.kitOne K (.ref cDoNotMeet) (.type "ValueError") = some true)
    (kiGrowsErrorInvalidGroup : PySem.W.kitOne K (.ref cGrowsError) (.ref cInvalidGroup) = some false)
    (kiGrowsErrorInvalidText : PySem.W.kitOne K (.ref cGrowsError) (.ref cInvalidText) = some false)
    (kiGrowsErrorGapOutOfRange : PySem.W.kitOne K (.ref cGrowsError) (.ref cGapOutOfRange) = some false)
    (kiGrowsErrorDoNotMeet : PySem.W.kitOne K (.ref cGrowsError) (.ref cDoNotMeet) = some false)
    (kiInvalidGroupInvalidGroup : PySem.W.kitOne K (.ref cInvalidGroup) (.ref cInvalidGroup) = some true)
    (kiInvalidGroupInvalidText : PySem.W.kitOne K (.ref cInvalidGroup) (.ref cInvalidText) = some false)
    (kiInvalidGroupGapOutOfRange : PySem.W.kitOne K (.ref cInvalidGroup) (.ref cGapOutOfRange) = some false)
    (kiInvalidGroupDoNotMeet : PySem.W.kitOne K (.ref cInvalidGroup) (.ref cDoNotMeet) = some false)
    (kiInvalidTextInvalidGroup : PySem.W.kitOne K (.ref cInvalidText) (.ref cInvalidGroup) = some false)
    (kiInvalidTextInvalidText : PySem.W.kitOne K (.ref cInvalidText) (.ref cInvalidText) = some true)
    (kiInvalidTextGapOutOfRange : PySem.W.kitOne K (.ref cInvalidText) (.ref cGapOutOfRange) = some false)
    (kiInvalidTextDoNotMeet : PySem.W.kitOne K (.ref cInvalidText) (.ref cDoNotMeet) = some false)
    (kiGapOutOfRangeInvalidGroup : PySem.W.kitOne K (.ref cGapOutOfRange) (.ref cInvalidGroup) = some false)
    (kiGapOutOfRangeInvalidText : PySem.W.kitOne K (.ref cGapOutOfRange) (.ref cInvalidText) = some false)
    (kiGapOutOfRangeGapOutOfRange : PySem.W.kitOne K (.ref cGapOutOfRange) (.ref cGapOutOfRange) = some true)
    (kiGapOutOfRangeDoNotMeet : PySem.W.kitOne K (.ref cGapOutOfRange) (.ref cDoNotMeet) = some false)
    (kiDoNotMeetInvalidGroup : PySem.W.kitOne K (.ref cDoNotMeet) (.ref cInvalidGroup) = some false)
    (kiDoNotMeetInvalidText : PySem.W.kitOne K (.ref cDoNotMeet) (.ref cInvalidText) = some false)
    (kiDoNotMeetGapOutOfRange : PySem.W.kitOne K (.ref cDoNotMeet) (.ref cGapOutOfRange) = some false)
    (kiDoNotMeetDoNotMeet : PySem.W.kitOne K (.ref cDoNotMeet) (.ref cDoNotMeet) = some true) :
    ∃ fd : FuncData, (∀ (s : Shared) (v : Value), BindsTo s fd ⟨[v], []⟩ [("_law_script", v)]) ∧ ∀ base : Heap, K.In base → base.Ns mainGlobals mg → FnOk PySem.Challenge.rw_stillgrows_k07_exchanged_to_the_end.prog w K mg base (L2.CX PySem.Challenge.rw_stillgrows_k07_exchanged_to_the_end.prog w) 12 fa fd ["_law_script"] (Dn.sp_law (K := K)) := by
  have e : f22 = fa := (Value.ref.inj (Option.some.inj (hfa.symm.trans (PySem.W.mg_of X G a22)))).symm
  subst e
  let T : Tx PySem.Challenge.rw_stillgrows_k07_exchanged_to_the_end.prog K mg := {
    c_Growth := cGrowth
    g_Growth := PySem.W.mg_of X G aCGrowth
    cl_Growth := ⟨pgGrowth, hdGrowth, poGrowth, saGrowth⟩
    w_Growth := ⟨⟨pgGrowth, hdGrowth, poGrowth, saGrowth⟩, ocGrowth, hn, ht, omGrowth⟩
    n_Growth_start := naGrowthstart
    n_Growth_joins := naGrowthjoins
    n_Growth_row := naGrowthrow
    ki_Growth_Growth := kiGrowthGrowth
    is_letters := ⟨f0, _, fun_mk (st := s_is_letters) l0 c0 k0, (fun_mk (x := "is_letters") (qual := "is_letters") (st := s_is_letters) l0 c0 k0).binds (ps := ["text"]) fun _ _ _ _ _ _ us hl => match us, hl with | [_], _ => rfl, PySem.W.mg_of X G a0⟩
    is_group := ⟨f1, _, fun_mk (st := s_is_group) l1 c1 k1, (fun_mk (x := "is_group") (qual := "is_group") (st := s_is_group) l1 c1 k1).binds (ps := ["text"]) fun _ _ _ _ _ _ us hl => match us, hl with | [_], _ => rfl, PySem.W.mg_of X G a1⟩
    check_group := ⟨f2, _, fun_mk (st := s_check_group) l2 c2 k2, (fun_mk (x := "check_group") (qual := "check_group") (st := s_check_group) l2 c2 k2).binds (ps := ["group"]) fun _ _ _ _ _ _ us hl => match us, hl with | [_], _ => rfl, PySem.W.mg_of X G a2⟩
    Growth_init := by
      have FD : FunD K "__init__" "Growth.__init__" (defArgs s_Growth_init) (defBody s_Growth_init) (defScope s_Growth_init) [.ref tn3] [] f3 _ := ⟨⟨_, _, _, _, _, _, _, _, _, _, rfl, l3, c3, Or.inr ⟨List.cons_ne_nil _ _, _, _, _, _, rfl, lT3, rfl, .cons rfl .nil⟩, Or.inl rfl⟩, k3⟩
      have B : L2.Binds K (PySem.W.fnOf "__init__" "Growth.__init__" (defArgs s_Growth_init) (defBody s_Growth_init) (defScope s_Growth_init) (.ref tT3) kV3 dc3 pm3 an3 cd3 ct3) ["self", "start", "joins"] [] := by
        obtain ⟨ds, hv, hb⟩ := FD.binds1 (ps := ["self", "start", "joins"]) 3 1 (List.cons_ne_nil _ _) rfl (fun T kV doc pm an cdv ct us its hu hi => match us, its, hu, hi with | [_, _, _], [_], _, _ => ⟨_, rfl, rfl⟩)
        cases hv
        exact hb
      have B1 : L2.Binds K (PySem.W.fnOf "__init__" "Growth.__init__" (defArgs s_Growth_init) (defBody s_Growth_init) (defScope s_Growth_init) (.ref tT3) kV3 dc3 pm3 an3 cd3 ct3) ["self", "start", "joins"] [.ref tn3] := by
        obtain ⟨ds, hv, hb⟩ := FD.binds1 (ps := ["self", "start", "joins"]) 2 0 (List.cons_ne_nil _ _) rfl (fun T kV doc pm an cdv ct us its hu hi => match us, its, hu, hi with | [_, _], [_], _, _ => ⟨_, rfl, rfl⟩)
        cases hv with
        | cons r h =>
          cases h
          cases r
          exact hb
      exact ⟨tn3, f3, _, FD, ⟨mk3, at3, fn3, kc3⟩, B, B1, fun H => Or.inr ⟨_, _, _, ln3, rfl, rfl, by decide, .nil⟩⟩
    Growth_row_p := p4
    Growth_row_f := f4
    Growth_row_fd := _
    Growth_row_F := (fun_mk (x := "row") (qual := "Growth.row") (st := s_Growth_row) l4 c4 k4)
    Growth_row_B := (fun_mk (x := "row") (qual := "Growth.row") (st := s_Growth_row) l4 c4 k4).binds (ps := ["self"]) fun _ _ _ _ _ _ us hl => match us, hl with | [_], _ => rfl
    Growth_row_P := ⟨at4, ge4, ta4, _, rc4⟩
    Growth_owners := ⟨f5, _, (fun_mk (x := "owners") (qual := "Growth.owners") (st := s_Growth_owners) l5 c5 k5), (fun_mk (x := "owners") (qual := "Growth.owners") (st := s_Growth_owners) l5 c5 k5).binds (ps := ["self"]) fun _ _ _ _ _ _ us hl => match us, hl with | [_], _ => rfl, at5, fn5, fi5⟩
    exchanged := ⟨f6, _, fun_mk (st := s_exchanged) l6 c6 k6, (fun_mk (x := "exchanged") (qual := "exchanged") (st := s_exchanged) l6 c6 k6).binds (ps := ["first", "second"]) fun _ _ _ _ _ _ us hl => match us, hl with | [_, _], _ => rfl, PySem.W.mg_of X G a6⟩
    in_order := ⟨f7, _, fun_mk (st := s_in_order) l7 c7 k7, (fun_mk (x := "in_order") (qual := "in_order") (st := s_in_order) l7 c7 k7).binds (ps := ["growth"]) fun _ _ _ _ _ _ us hl => match us, hl with | [_], _ => rfl, PySem.W.mg_of X G a7⟩
    l_new := ⟨f8, _, fun_mk (st := s_l_new) l8 c8 k8, (fun_mk (x := "_law_new") (qual := "_law_new") (st := s_l_new) l8 c8 k8).binds (ps := ["_law_script"]) fun _ _ _ _ _ _ us hl => match us, hl with | [_], _ => rfl, PySem.W.mg_of X G a8⟩
    l_draw := ⟨f9, _, fun_mk (st := s_l_draw) l9 c9 k9, (fun_mk (x := "_law_draw") (qual := "_law_draw") (st := s_l_draw) l9 c9 k9).binds (ps := ["_law_state", "_law_many"]) fun _ _ _ _ _ _ us hl => match us, hl with | [_, _], _ => rfl, PySem.W.mg_of X G a9⟩
    l_same := ⟨f10, _, fun_mk (st := s_l_same) l10 c10 k10, (fun_mk (x := "_law_same") (qual := "_law_same") (st := s_l_same) l10 c10 k10).binds (ps := ["_law_actual", "_law_due"]) fun _ _ _ _ _ _ us hl => match us, hl with | [_, _], _ => rfl, PySem.W.mg_of X G a10⟩
    l_word := ⟨f11, _, fun_mk (st := s_l_word) l11 c11 k11, (fun_mk (x := "_law_word") (qual := "_law_word") (st := s_l_word) l11 c11 k11).binds (ps := ["_law_state", "_law_signs", "_law_least", "_law_top"]) fun _ _ _ _ _ _ us hl => match us, hl with | [_, _, _, _], _ => rfl, PySem.W.mg_of X G a11⟩
    l_groups := ⟨f12, _, fun_mk (st := s_l_groups) l12 c12 k12, (fun_mk (x := "_law_groups") (qual := "_law_groups") (st := s_l_groups) l12 c12 k12).binds (ps := ["_law_state", "_law_signs", "_law_top", "_law_size"]) fun _ _ _ _ _ _ us hl => match us, hl with | [_, _, _, _], _ => rfl, PySem.W.mg_of X G a12⟩
    l_joins := ⟨f13, _, fun_mk (st := s_l_joins) l13 c13 k13, (fun_mk (x := "_law_joins") (qual := "_law_joins") (st := s_l_joins) l13 c13 k13).binds (ps := ["_law_state", "_law_row", "_law_groups_here", "_law_top"]) fun _ _ _ _ _ _ us hl => match us, hl with | [_, _, _, _], _ => rfl, PySem.W.mg_of X G a13⟩
    l_line := ⟨f14, _, fun_mk (st := s_l_line) l14 c14 k14, (fun_mk (x := "_law_line") (qual := "_law_line") (st := s_l_line) l14 c14 k14).binds (ps := ["_law_start", "_law_joins_here"]) fun _ _ _ _ _ _ us hl => match us, hl with | [_, _], _ => rfl, PySem.W.mg_of X G a14⟩
    l_in_order := ⟨f15, _, fun_mk (st := s_l_in_order) l15 c15 k15, (fun_mk (x := "_law_in_order") (qual := "_law_in_order") (st := s_l_in_order) l15 c15 k15).binds (ps := ["_law_growth"]) fun _ _ _ _ _ _ us hl => match us, hl with | [_], _ => rfl, PySem.W.mg_of X G a15⟩
    l_played := ⟨f16, _, fun_mk (st := s_l_played) l16 c16 k16, (fun_mk (x := "_law_played") (qual := "_law_played") (st := s_l_played) l16 c16 k16).binds (ps := ["_law_start", "_law_joins_here"]) fun _ _ _ _ _ _ us hl => match us, hl with | [_, _], _ => rfl, PySem.W.mg_of X G a16⟩
    l_is_join := ⟨f17, _, fun_mk (st := s_l_is_join) l17 c17 k17, (fun_mk (x := "_law_is_join") (qual := "_law_is_join") (st := s_l_is_join) l17 c17 k17).binds (ps := ["_law_join", "_law_size"]) fun _ _ _ _ _ _ us hl => match us, hl with | [_, _], _ => rfl, PySem.W.mg_of X G a17⟩
    l_exchange := ⟨f18, _, fun_mk (st := s_l_exchange) l18 c18 k18, (fun_mk (x := "_law_exchange") (qual := "_law_exchange") (st := s_l_exchange) l18 c18 k18).binds (ps := ["_law_start", "_law_first", "_law_second"]) fun _ _ _ _ _ _ us hl => match us, hl with | [_, _, _], _ => rfl, PySem.W.mg_of X G a18⟩
    l_bubbled := ⟨f19, _, fun_mk (st := s_l_bubbled) l19 c19 k19, (fun_mk (x := "_law_bubbled") (qual := "_law_bubbled") (st := s_l_bubbled) l19 c19 k19).binds (ps := ["_law_start", "_law_joins_here"]) fun _ _ _ _ _ _ us hl => match us, hl with | [_, _], _ => rfl, PySem.W.mg_of X G a19⟩
    l_ordered := ⟨f20, _, fun_mk (st := s_l_ordered) l20 c20 k20, (fun_mk (x := "_law_ordered") (qual := "_law_ordered") (st := s_l_ordered) l20 c20 k20).binds (ps := ["_law_start", "_law_joins_here"]) fun _ _ _ _ _ _ us hl => match us, hl with | [_, _], _ => rfl, PySem.W.mg_of X G a20⟩
    l_all_pairs := ⟨f21, _, fun_mk (st := s_l_all_pairs) l21 c21 k21, (fun_mk (x := "_law_all_pairs") (qual := "_law_all_pairs") (st := s_l_all_pairs) l21 c21 k21).binds (ps := ["_law_start", "_law_group", "_law_other"]) fun _ _ _ _ _ _ us hl => match us, hl with | [_, _, _], _ => rfl, PySem.W.mg_of X G a21⟩
    law := ⟨f22, _, fun_mk (st := s_law) l22 c22 k22, (fun_mk (x := "law") (qual := "law") (st := s_law) l22 c22 k22).binds (ps := ["_law_script"]) fun _ _ _ _ _ _ us hl => match us, hl with | [_], _ => rfl, PySem.W.mg_of X G a22⟩
    b_ValueError := PySem.W.mg_none_of X G b_ValueError
    b_all := PySem.W.mg_none_of X G b_all
    b_bool := PySem.W.mg_none_of X G b_bool
    b_enumerate := PySem.W.mg_none_of X G b_enumerate
    b_int := PySem.W.mg_none_of X G b_int
    b_isinstance := PySem.W.mg_none_of X G b_isinstance
    b_len := PySem.W.mg_none_of X G b_len
    b_list := PySem.W.mg_none_of X G b_list
    b_property := PySem.W.mg_none_of X G b_property
    b_range := PySem.W.mg_none_of X G b_range
    b_str := PySem.W.mg_none_of X G b_str
    b_tuple := PySem.W.mg_none_of X G b_tuple
    g_LETTERS := ⟨_, PySem.W.mg_of X G g_LETTERS⟩
    fI := fI
    base := PySem.GrX.base_of ⟨⟨_, _, _, _, _, cda, cc, _, _, lI, cI, ⟨_, _, _, _, _, _, ld, vI, pI⟩, ⟨_, _, _, lc⟩⟩, ⟨_, dI⟩, tI, by decide +kernel, oI, sI⟩
    a_GrowsError := cGrowsError
    g_GrowsError := PySem.W.mg_of X G aCGrowsError
    o_GrowsError := ⟨⟨_, _, _, _, _, _, _, _, _, _, _, _, _, _, _, xLGrowsError, bVGrowsError⟩, saGrowsError, nvGrowsError, inGrowsError, keGrowsError, exGrowsError, veGrowsError, tyGrowsError, hdGrowsError, mDGrowsError, suGrowsError⟩
    x_GrowsError := ⟨gaGrowsError, ggGrowsError, exGrowsError, hdGrowsError, haGrowsError, hn, ht, hmGrowsError⟩
    f_GrowsError := ⟨gaGrowsError, ggGrowsError, exGrowsError, hdGrowsError⟩
    m_GrowsError := emGrowsError
    v_GrowsError := kvGrowsError
    a_InvalidGroup := cInvalidGroup
    g_InvalidGroup := PySem.W.mg_of X G aCInvalidGroup
    o_InvalidGroup := ⟨⟨_, _, _, _, _, _, _, _, _, _, _, _, _, _, _, xLInvalidGroup, bVInvalidGroup⟩, saInvalidGroup, nvInvalidGroup, inInvalidGroup, keInvalidGroup, exInvalidGroup, veInvalidGroup, tyInvalidGroup, hdInvalidGroup, mDInvalidGroup, suInvalidGroup⟩
    x_InvalidGroup := ⟨gaInvalidGroup, ggInvalidGroup, exInvalidGroup, hdInvalidGroup, haInvalidGroup, hn, ht, hmInvalidGroup⟩
    f_InvalidGroup := ⟨gaInvalidGroup, ggInvalidGroup, exInvalidGroup, hdInvalidGroup⟩
    m_InvalidGroup := emInvalidGroup
    v_InvalidGroup := kvInvalidGroup
    a_InvalidText := cInvalidText
    g_InvalidText := PySem.W.mg_of X G aCInvalidText
    o_InvalidText := ⟨⟨_, _, _, _, _, _, _, _, _, _, _, _, _, _, _, xLInvalidText, bVInvalidText⟩, saInvalidText, nvInvalidText, inInvalidText, keInvalidText, exInvalidText, veInvalidText, tyInvalidText, hdInvalidText, mDInvalidText, suInvalidText⟩
    x_InvalidText := ⟨gaInvalidText, ggInvalidText, exInvalidText, hdInvalidText, haInvalidText, hn, ht, hmInvalidText⟩
    f_InvalidText := ⟨gaInvalidText, ggInvalidText, exInvalidText, hdInvalidText⟩
    m_InvalidText := emInvalidText
    v_InvalidText := kvInvalidText
    a_GapOutOfRange := cGapOutOfRange
    g_GapOutOfRange := PySem.W.mg_of X G aCGapOutOfRange
    o_GapOutOfRange := ⟨⟨_, _, _, _, _, _, _, _, _, _, _, _, _, _, _, xLGapOutOfRange, bVGapOutOfRange⟩, saGapOutOfRange, nvGapOutOfRange, inGapOutOfRange, keGapOutOfRange, exGapOutOfRange, veGapOutOfRange, tyGapOutOfRange, hdGapOutOfRange, mDGapOutOfRange, suGapOutOfRange⟩
    x_GapOutOfRange := ⟨gaGapOutOfRange, ggGapOutOfRange, exGapOutOfRange, hdGapOutOfRange, haGapOutOfRange, hn, ht, hmGapOutOfRange⟩
    f_GapOutOfRange := ⟨gaGapOutOfRange, ggGapOutOfRange, exGapOutOfRange, hdGapOutOfRange⟩
    m_GapOutOfRange := emGapOutOfRange
    v_GapOutOfRange := kvGapOutOfRange
    a_DoNotMeet := cDoNotMeet
    g_DoNotMeet := PySem.W.mg_of X G aCDoNotMeet
    o_DoNotMeet := ⟨⟨_, _, _, _, _, _, _, _, _, _, _, _, _, _, _, xLDoNotMeet, bVDoNotMeet⟩, saDoNotMeet, nvDoNotMeet, inDoNotMeet, keDoNotMeet, exDoNotMeet, veDoNotMeet, tyDoNotMeet, hdDoNotMeet, mDDoNotMeet, suDoNotMeet⟩
    x_DoNotMeet := ⟨gaDoNotMeet, ggDoNotMeet, exDoNotMeet, hdDoNotMeet, haDoNotMeet, hn, ht, hmDoNotMeet⟩
    f_DoNotMeet := ⟨gaDoNotMeet, ggDoNotMeet, exDoNotMeet, hdDoNotMeet⟩
    m_DoNotMeet := emDoNotMeet
    v_DoNotMeet := kvDoNotMeet
    k_GrowsError_InvalidGroup := kiGrowsErrorInvalidGroup
    k_GrowsError_InvalidText := kiGrowsErrorInvalidText
    k_GrowsError_GapOutOfRange := kiGrowsErrorGapOutOfRange
    k_GrowsError_DoNotMeet := kiGrowsErrorDoNotMeet
    k_InvalidGroup_InvalidGroup := kiInvalidGroupInvalidGroup
    k_InvalidGroup_InvalidText := kiInvalidGroupInvalidText
    k_InvalidGroup_GapOutOfRange := kiInvalidGroupGapOutOfRange
    k_InvalidGroup_DoNotMeet := kiInvalidGroupDoNotMeet
    k_InvalidText_InvalidGroup := kiInvalidTextInvalidGroup
    k_InvalidText_InvalidText := kiInvalidTextInvalidText
    k_InvalidText_GapOutOfRange := kiInvalidTextGapOutOfRange
    k_InvalidText_DoNotMeet := kiInvalidTextDoNotMeet
    k_GapOutOfRange_InvalidGroup := kiGapOutOfRangeInvalidGroup
    k_GapOutOfRange_InvalidText := kiGapOutOfRangeInvalidText
    k_GapOutOfRange_GapOutOfRange := kiGapOutOfRangeGapOutOfRange
    k_GapOutOfRange_DoNotMeet := kiGapOutOfRangeDoNotMeet
    k_DoNotMeet_InvalidGroup := kiDoNotMeetInvalidGroup
    k_DoNotMeet_InvalidText := kiDoNotMeetInvalidText
    k_DoNotMeet_GapOutOfRange := kiDoNotMeetGapOutOfRange
    k_DoNotMeet_DoNotMeet := kiDoNotMeetDoNotMeet
  }
  exact ⟨_, fun s v => .of_eq rfl, fun base _ _ => ok_law T⟩
theorem walk {l : PySem.W.OpenLaw} {q : Program} {loose : List Str} {XP : (Str → Option Value) → Heap → Prop} {YP : World → Heap → Prop} {d : DefRec} {K : Params → PySem.W.Frag} (hn : l.most = some 63) (hdf : d.params.defaults = [])
    (hY : ∀ (w : World) (h : Heap), YP w h → (K w.params).In h)
    (F : ∀ (w : World) (mg : Str → Option Value) (fa : Addr) (h : Heap), (K w.params).In h → h.Ns mainGlobals mg → mg d.name = some (.ref fa) →
      ∃ fd : FuncData, (∀ (s : Shared) (u : Value), BindsTo s fd ⟨[u], []⟩ [("_law_script", u)]) ∧ ∀ base : Heap, (K w.params).In base → base.Ns mainGlobals mg → FnOk l.prog w (K w.params) mg base (L2.CX l.prog w) 12 fa fd ["_law_script"] (Dn.sp_law (K := K w.params))) :
    PySem.W.WalkO q loose XP YP l.row.toRowW d [] (fun f vs => PySem.call f vs) :=
  L2.walk_of (n := 63) (k := 12) (x := "_law_script") (CX := fun w => L2.CX l.prog w) (sp := fun w => Dn.sp_law (K := K w.params)) hn (by decide) hdf ⟨rfl, by decide, by decide⟩ hY F (fun _ _ a ns hl _ hS => ⟨a, ns, rfl, hS, by omega, fun _ => rfl⟩) fun _ _ _ _ _ ⟨_, _, _, _, _, _, _, _, _, _, _, _, h⟩ => h
end L07
end

section
set_option Elab.async false
set_option linter.all false
open PySem PySem.W PyProof.Rows
set_option maxRecDepth 100000 in
set_option maxHeartbeats 0 in
theorem PySem.Challenge.cw_stillgrows_k07_exchanged_to_the_end_holds : PySem.Challenge.rw_stillgrows_k07_exchanged_to_the_end.Holds := by
  w_on; o_law; k_head; (case hw => w_witness2)
  k_fill
  refine L07.walk (l := PySem.Challenge.rw_stillgrows_k07_exchanged_to_the_end) rfl rfl (fun w h Y => PySem.W.kIn_of Y) ?F
  case F =>
    intro w mg fa h KX G hmg
    refine' L07.all_mk KX G hmg ?hn ?ht ?aCGrowth ?pgGrowth ?hdGrowth ?poGrowth ?saGrowth ?ocGrowth ?omGrowth ?naGrowthstart ?naGrowthjoins ?naGrowthrow ?kiGrowthGrowth ?a0 ?l0 ?c0 ?k0 ?a1 ?l1 ?c1 ?k1 ?a2 ?l2 ?c2 ?k2 ?mk3 ?at3 ?l3 ?c3 ?k3 ?lT3 ?ln3 ?fn3 ?kc3 ?at4 ?ge4 ?ta4 ?rc4 ?l4 ?c4 ?k4 ?at5 ?l5 ?c5 ?k5 ?fn5 ?fi5 ?a6 ?l6 ?c6 ?k6 ?a7 ?l7 ?c7 ?k7 ?a8 ?l8 ?c8 ?k8 ?a9 ?l9 ?c9 ?k9 ?a10 ?l10 ?c10 ?k10 ?a11 ?l11 ?c11 ?k11 ?a12 ?l12 ?c12 ?k12 ?a13 ?l13 ?c13 ?k13 ?a14 ?l14 ?c14 ?k14 ?a15 ?l15 ?c15 ?k15 ?a16 ?l16 ?c16 ?k16 ?a17 ?l17 ?c17 ?k17 ?a18 ?l18 ?c18 ?k18 ?a19 ?l19 ?c19 ?k19 ?a20 ?l20 ?c20 ?k20 ?a21 ?l21 ?c21 ?k21 ?a22 ?l22 ?c22 ?k22 ?b_ValueError ?b_all ?b_bool ?b_enumerate ?b_int ?b_isinstance ?b_len ?b_list ?b_property ?b_range ?b_str ?b_tuple ?g_LETTERS ?aCGrowsError ?inGrowsError ?lI ?cI ?ld ?vI ?pI ?lc ?dI ?tI ?oI ?sI ?xLGrowsError ?bVGrowsError ?saGrowsError ?nvGrowsError ?keGrowsError ?exGrowsError ?veGrowsError ?tyGrowsError ?hdGrowsError ?mDGrowsError ?suGrowsError ?gaGrowsError ?ggGrowsError ?haGrowsError ?hmGrowsError ?emGrowsError ?kvGrowsError ?aCInvalidGroup ?xLInvalidGroup ?bVInvalidGroup ?saInvalidGroup ?nvInvalidGroup ?inInvalidGroup ?keInvalidGroup ?exInvalidGroup ?veInvalidGroup ?tyInvalidGroup ?hdInvalidGroup ?mDInvalidGroup ?suInvalidGroup ?gaInvalidGroup ?ggInvalidGroup ?haInvalidGroup ?hmInvalidGroup ?emInvalidGroup ?kvInvalidGroup ?aCInvalidText ?xLInvalidText ?bVInvalidText ?saInvalidText ?nvInvalidText ?inInvalidText ?keInvalidText ?exInvalidText ?veInvalidText ?tyInvalidText ?hdInvalidText ?mDInvalidText ?suInvalidText ?gaInvalidText ?ggInvalidText ?haInvalidText ?hmInvalidText ?emInvalidText ?kvInvalidText ?aCGapOutOfRange ?xLGapOutOfRange ?bVGapOutOfRange ?saGapOutOfRange ?nvGapOutOfRange ?inGapOutOfRange ?keGapOutOfRange ?exGapOutOfRange ?veGapOutOfRange ?tyGapOutOfRange ?hdGapOutOfRange ?mDGapOutOfRange ?suGapOutOfRange ?gaGapOutOfRange ?ggGapOutOfRange ?haGapOutOfRange ?hmGapOutOfRange ?emGapOutOfRange ?kvGapOutOfRange ?aCDoNotMeet ?xLDoNotMeet ?bVDoNotMeet ?saDoNotMeet ?nvDoNotMeet ?inDoNotMeet ?keDoNotMeet ?exDoNotMeet ?veDoNotMeet ?tyDoNotMeet ?hdDoNotMeet ?mDDoNotMeet ?suDoNotMeet ?gaDoNotMeet ?ggDoNotMeet ?haDoNotMeet ?hmDoNotMeet ?emDoNotMeet ?kvDoNotMeet ?kiGrowsErrorInvalidGroup ?kiGrowsErrorInvalidText ?kiGrowsErrorGapOutOfRange ?kiGrowsErrorDoNotMeet ?kiInvalidGroupInvalidGroup ?kiInvalidGroupInvalidText ?kiInvalidGroupGapOutOfRange ?kiInvalidGroupDoNotMeet ?kiInvalidTextInvalidGroup ?kiInvalidTextInvalidText ?kiInvalidTextGapOutOfRange ?kiInvalidTextDoNotMeet ?kiGapOutOfRangeInvalidGroup ?kiGapOutOfRangeInvalidText ?kiGapOutOfRangeGapOutOfRange ?kiGapOutOfRangeDoNotMeet ?kiDoNotMeetInvalidGroup ?kiDoNotMeetInvalidText ?kiDoNotMeetGapOutOfRange ?kiDoNotMeetDoNotMeet
    (case hn => k_is)
    (case ht => k_is)
    (case aCGrowth => k_is)
    (case pgGrowth => first | k_is | rfl | kernel_rfl | decide +kernel)
    (case hdGrowth => k_is)
    (case poGrowth => first | k_is | rfl | kernel_rfl | decide +kernel)
    (case saGrowth => k_is)
    (case ocGrowth => k_is)
    (case omGrowth => k_is)
    (case naGrowthstart => k_is)
    (case naGrowthjoins => k_is)
    (case naGrowthrow => k_is)
    (case kiGrowthGrowth => first | k_is | rfl | kernel_rfl | decide +kernel)
    (case a0 => k_is)
    (case l0 => k_is)
    (case c0 => k_is)
    (case k0 => k_is)
    (case a1 => k_is)
    (case l1 => k_is)
    (case c1 => k_is)
    (case k1 => k_is)
    (case a2 => k_is)
    (case l2 => k_is)
    (case c2 => k_is)
    (case k2 => k_is)
    (case mk3 => first | k_is | rfl | kernel_rfl | decide +kernel)
    (case at3 => k_is)
    (case l3 => k_is)
    (case c3 => k_is)
    (case k3 => k_is)
    (case lT3 => first | k_is | rfl | kernel_rfl | decide +kernel)
    (case ln3 => first | k_is | rfl | kernel_rfl | decide +kernel)
    (case fn3 => first | k_is | rfl | kernel_rfl | decide +kernel)
    (case kc3 => k_is)
    (case at4 => k_is)
    (case ge4 => first | k_is | rfl | kernel_rfl | decide +kernel)
    (case ta4 => first | k_is | rfl | kernel_rfl | decide +kernel)
    (case rc4 => first | k_is | rfl | kernel_rfl | decide +kernel)
    (case l4 => k_is)
    (case c4 => k_is)
    (case k4 => k_is)
    (case at5 => k_is)
    (case l5 => k_is)
    (case c5 => k_is)
    (case k5 => k_is)
    (case fn5 => first | k_is | rfl | kernel_rfl | decide +kernel)
    (case fi5 => first | k_is | rfl | kernel_rfl | decide +kernel)
    (case a6 => k_is)
    (case l6 => k_is)
    (case c6 => k_is)
    (case k6 => k_is)
    (case a7 => k_is)
    (case l7 => k_is)
    (case c7 => k_is)
    (case k7 => k_is)
    (case a8 => k_is)
    (case l8 => k_is)
    (case c8 => k_is)
    (case k8 => k_is)
    (case a9 => k_is)
    (case l9 => k_is)
    (case c9 => k_is)
    (case k9 => k_is)
    (case a10 => k_is)
    (case l10 => k_is)
    (case c10 => k_is)
    (case k10 => k_is)
    (case a11 => k_is)
    (case l11 => k_is)
    (case c11 => k_is)
    (case k11 => k_is)
    (case a12 => k_is)
    (case l12 => k_is)
    (case c12 => k_is)
    (case k12 => k_is)
    (case a13 => k_is)
    (case l13 => k_is)
    (case c13 => k_is)
    (case k13 => k_is)
    (case a14 => k_is)
    (case l14 => k_is)
    (case c14 => k_is)
    (case k14 => k_is)
    (case a15 => k_is)
    (case l15 => k_is)
    (case c15 => k_is)
    (case k15 => k_is)
    (case a16 => k_is)
    (case l16 => k_is)
    (case c16 => k_is)
    (case k16 => k_is)
    (case a17 => k_is)
    (case l17 => k_is)
    (case c17 => k_is)
    (case k17 => k_is)
    (case a18 => k_is)
    (case l18 => k_is)
    (case c18 => k_is)
    (case k18 => k_is)
    (case a19 => k_is)
    (case l19 => k_is)
    (case c19 => k_is)
    (case k19 => k_is)
    (case a20 => k_is)
    (case l20 => k_is)
    (case c20 => k_is)
    (case k20 => k_is)
    (case a21 => k_is)
    (case l21 => k_is)
    (case c21 => k_is)
    (case k21 => k_is)
    (case a22 => k_is)
    (case l22 => k_is)
    (case c22 => k_is)
    (case k22 => k_is)
    (case b_ValueError => k_is)
    (case b_all => k_is)
    (case b_bool => k_is)
    (case b_enumerate => k_is)
    (case b_int => k_is)
    (case b_isinstance => k_is)
    (case b_len => k_is)
    (case b_list => k_is)
    (case b_property => k_is)
    (case b_range => k_is)
    (case b_str => k_is)
    (case b_tuple => k_is)
    (case g_LETTERS => k_is)
    (case aCGrowsError => k_is)
    (case inGrowsError => k_is)
    (case lI => k_is)
    (case cI => k_is)
    (case ld => k_is)
    (case vI => rfl)
    (case pI => first | rfl | decide +kernel)
    (case lc => k_is)
    (case dI => k_is)
    (case tI => k_is)
    (case oI => k_is)
    (case sI => k_is)
    (case xLGrowsError => k_is)
    (case bVGrowsError => first | rfl | decide +kernel)
    (case saGrowsError => k_is)
    (case nvGrowsError => k_is)
    (case keGrowsError => k_is)
    (case exGrowsError => k_is)
    (case veGrowsError => k_is)
    (case tyGrowsError => k_is)
    (case hdGrowsError => k_is)
    (case mDGrowsError => first | k_is | rfl | kernel_rfl | decide +kernel)
    (case suGrowsError => first | kernel_rfl | k_is)
    (case gaGrowsError => k_is)
    (case ggGrowsError => k_is)
    (case haGrowsError => k_is)
    (case hmGrowsError => k_is)
    (case emGrowsError => first | k_is | rfl | kernel_rfl | decide +kernel)
    (case kvGrowsError => first | k_is | rfl | kernel_rfl | decide +kernel)
    (case aCInvalidGroup => k_is)
    (case xLInvalidGroup => k_is)
    (case bVInvalidGroup => first | rfl | decide +kernel)
    (case saInvalidGroup => k_is)
    (case nvInvalidGroup => k_is)
    (case inInvalidGroup => k_is)
    (case keInvalidGroup => k_is)
    (case exInvalidGroup => k_is)
    (case veInvalidGroup => k_is)
    (case tyInvalidGroup => k_is)
    (case hdInvalidGroup => k_is)
    (case mDInvalidGroup => first | k_is | rfl | kernel_rfl | decide +kernel)
    (case suInvalidGroup => first | kernel_rfl | k_is)
    (case gaInvalidGroup => k_is)
    (case ggInvalidGroup => k_is)
    (case haInvalidGroup => k_is)
    (case hmInvalidGroup => k_is)
    (case emInvalidGroup => first | k_is | rfl | kernel_rfl | decide +kernel)
    (case kvInvalidGroup => first | k_is | rfl | kernel_rfl | decide +kernel)
    (case aCInvalidText => k_is)
    (case xLInvalidText => k_is)
    (case bVInvalidText => first | rfl | decide +kernel)
    (case saInvalidText => k_is)
    (case nvInvalidText => k_is)
    (case inInvalidText => k_is)
    (case keInvalidText => k_is)
    (case exInvalidText => k_is)
    (case veInvalidText => k_is)
    (case tyInvalidText => k_is)
    (case hdInvalidText => k_is)
    (case mDInvalidText => first | k_is | rfl | kernel_rfl | decide +kernel)
    (case suInvalidText => first | kernel_rfl | k_is)
    (case gaInvalidText => k_is)
    (case ggInvalidText => k_is)
    (case haInvalidText => k_is)
    (case hmInvalidText => k_is)
    (case emInvalidText => first | k_is | rfl | kernel_rfl | decide +kernel)
    (case kvInvalidText => first | k_is | rfl | kernel_rfl | decide +kernel)
    (case aCGapOutOfRange => k_is)
    (case xLGapOutOfRange => k_is)
    (case bVGapOutOfRange => first | rfl | decide +kernel)
    (case saGapOutOfRange => k_is)
    (case nvGapOutOfRange => k_is)
    (case inGapOutOfRange => k_is)
    (case keGapOutOfRange => k_is)
    (case exGapOutOfRange => k_is)
    (case veGapOutOfRange => k_is)
    (case tyGapOutOfRange => k_is)
    (case hdGapOutOfRange => k_is)
    (case mDGapOutOfRange => first | k_is | rfl | kernel_rfl | decide +kernel)
    (case suGapOutOfRange => first | kernel_rfl | k_is)
    (case gaGapOutOfRange => k_is)
    (case ggGapOutOfRange => k_is)
    (case haGapOutOfRange => k_is)
    (case hmGapOutOfRange => k_is)
    (case emGapOutOfRange => first | k_is | rfl | kernel_rfl | decide +kernel)
    (case kvGapOutOfRange => first | k_is | rfl | kernel_rfl | decide +kernel)
    (case aCDoNotMeet => k_is)
    (case xLDoNotMeet => k_is)
    (case bVDoNotMeet => first | rfl | decide +kernel)
    (case saDoNotMeet => k_is)
    (case nvDoNotMeet => k_is)
    (case inDoNotMeet => k_is)
    (case keDoNotMeet => k_is)
    (case exDoNotMeet => k_is)
    (case veDoNotMeet => k_is)
    (case tyDoNotMeet => k_is)
    (case hdDoNotMeet => k_is)
    (case mDDoNotMeet => first | k_is | rfl | kernel_rfl | decide +kernel)
    (case suDoNotMeet => first | kernel_rfl | k_is)
    (case gaDoNotMeet => k_is)
    (case ggDoNotMeet => k_is)
    (case haDoNotMeet => k_is)
    (case hmDoNotMeet => k_is)
    (case emDoNotMeet => first | k_is | rfl | kernel_rfl | decide +kernel)
    (case kvDoNotMeet => first | k_is | rfl | kernel_rfl | decide +kernel)
    (case kiGrowsErrorInvalidGroup => first | k_is | rfl | kernel_rfl | decide +kernel)
    (case kiGrowsErrorInvalidText => first | k_is | rfl | kernel_rfl | decide +kernel)
    (case kiGrowsErrorGapOutOfRange => first | k_is | rfl | kernel_rfl | decide +kernel)
    (case kiGrowsErrorDoNotMeet => first | k_is | rfl | kernel_rfl | decide +kernel)
    (case kiInvalidGroupInvalidGroup => first | k_is | rfl | kernel_rfl | decide +kernel)
    (case kiInvalidGroupInvalidText => first | k_is | rfl | kernel_rfl | decide +kernel)
    (case kiInvalidGroupGapOutOfRange => first | k_is | rfl | kernel_rfl | decide +kernel)
    (case kiInvalidGroupDoNotMeet => first | k_is | rfl | kernel_rfl | decide +kernel)
    (case kiInvalidTextInvalidGroup => first | k_is | rfl | kernel_rfl | decide +kernel)
    (case kiInvalidTextInvalidText => first | k_is | rfl | kernel_rfl | decide +kernel)
    (case kiInvalidTextGapOutOfRange => first | k_is | rfl | kernel_rfl | decide +kernel)
    (case kiInvalidTextDoNotMeet => first | k_is | rfl | kernel_rfl | decide +kernel)
    (case kiGapOutOfRangeInvalidGroup => first | k_is | rfl | kernel_rfl | decide +kernel)
    (case kiGapOutOfRangeInvalidText => first | k_is | rfl | kernel_rfl | decide +kernel)
    (case kiGapOutOfRangeGapOutOfRange => first | k_is | rfl | kernel_rfl | decide +kernel)
    (case kiGapOutOfRangeDoNotMeet => first | k_is | rfl | kernel_rfl | decide +kernel)
    (case kiDoNotMeetInvalidGroup => first | k_is | rfl | kernel_rfl | decide +kernel)
    (case kiDoNotMeetInvalidText => first | k_is | rfl | kernel_rfl | decide +kernel)
    (case kiDoNotMeetGapOutOfRange => first | k_is | rfl | kernel_rfl | decide +kernel)
    (case kiDoNotMeetDoNotMeet => first | k_is | rfl | kernel_rfl | decide +kernel)
end
