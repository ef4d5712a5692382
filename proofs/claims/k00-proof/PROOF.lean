import PyProof.Rows.All
import Wide.All
import OpenK.AllK
import Wide.FinOn
import PyProof.EqAt
import PyProof.EqKinds
import PyProof.TupleCall
import PyProof.FString
import PyProof.FString4
import KE.KFromBytes
import KE.KExcSuper
import HandS.ForMost
import HandS.ForExc
import HandS.ExcInit
import HandS.ExcField
import HandS.ExcIs
import HandS.FStr
import KE.KExcIs
import KE.KRevSl
import HandS.GenYield
import HandS.GenList
import KE.KDictList
import PyProof.StrOps2
import PyProof.StrWalks
import HandS.Conv
import HandS.Evl
import HandS.IsInst
import HandS.Style
import HandS.TryOnly
import PyProof.Rows.StrLawsPart
import PyProof.StrLawsIn
import HandS.GenCall
import KE.KStateDown
import Lean
import PySem.Challenge.RW_stillgrows_k00_words_and_their_refusals
section
set_option Elab.async false
set_option linter.all false
set_option maxRecDepth 100000
set_option maxHeartbeats 4000000
namespace PySem
namespace GrX
open PySem.W PySem.Calls PyProof.Rows PySem.HandSPX
/-- what it says of one of the errors, at C -/
structure OwnT (K : Frag) (D fI C : Addr) : Prop where
  cls : ∃ nm q N bs bm sn sub ab col dd k0 k1 k2 k3 k5, K.lookup C = some (excClassObj nm q C N bs bm true sn sub ab col dd k0 k1 k2 k3 k5 "ValueError.__new__") ∧ refsVE bm = true
  sa : findIn K (.ref C) "__setattr__" = some (some (.builtin "object.__setattr__"))
  noN : findIn K (.ref C) "value" = some none
  iC : findIn K (.ref C) "__init__" = some (some (.ref fI))
  kC : keepIn K (.ref C) = true
  exC : subIn K (.ref C) (.type "BaseException") = some true
  veC : subIn K (.ref C) (.type "ValueError") = some true
  tyC : typeIn K (.ref C) = some (.type "type")
  hdC : hasDictIn K C = true
  mD : mroIn K C (.ref D) = some true
  sup : ks_superIn K C D "__init__" = some (some (.builtin "ValueError.__init__"))
/-- a value whose repr is some short enough text, in whatever state -/
def Shows (prog : Program) (w : World) (A : Around) (h : Heap) (v : Value) : Prop := ∀ (s : Shared) (E : Value → Shared → Prop) (Q : Value → Shared → Prop), (∀ b o, h.get? b = some o → s.heap.get? b = some o) →
  (∀ (y : Str) t t', y.length ≤ 16000000 → Q (.str y t) { s with toks := t' }) → wpAny (model prog w) A (pyReprObj v) Q E s
/-- what the making leaves of a fresh exception at x -/
structure InitEnd (h h' : Heap) (x C dx t1 : Addr) (v : Value) : Prop where
  keep : ∀ b o, b ≠ x → h.get? b = some o → h'.get? b = some o
  obj : h'.get? x = some { cls := .ref C, dict := some dx, data := .fields #[.ref t1, .none, .none, .none, .bool false, .none] }
  dbig : h.objs.size ≤ dx
  dne : dx ≠ x
  ns : h'.Ns1 dx (fun y => if y = "value" then some v else none)
/-- a made error -/
structure OwnMade (h h' : Heap) (e C d : Addr) (v : Value) : Prop where
  keep : ∀ b o, h.get? b = some o → h'.get? b = some o
  new : h.objs.size ≤ e
  obj : ∃ oe vs, h'.get? e = some oe ∧ oe.cls = .ref C ∧ oe.dict = some d ∧ oe.data = .fields vs ∧ vs[1]? = some .none
  dbig : h.objs.size ≤ d
  dne : d ≠ e
  ns : h'.Ns1 d (fun y => if y = "value" then some v else none)
/-- what the written part says of the base error, at D, and that its making at fI ends well -/
structure BaseT (prog : Program) (K : Frag) (D fI : Addr) : Prop where
  cd : ∃ cdD, clsIn K D = some cdD
  tI : typeIn K (.ref fI) = some (.type "function")
  mke : ∀ (w : World) (A : Around) (R : Result → Shared → Prop) (s : Shared) (mg mb : Str → Option Value) (C : Addr), OwnT K D fI C → ∀ (x t0 : Addr) (v : Value), K.In s.heap → s.heap.Ns mainGlobals mg → s.heap.Ns builtinsNs mb → mb "super" = some (.type "super") → s.heap.NoLimit → s.heap.get? x = some (excO C t0) → K.lookup x = none →
    A.depth < recursionLimit → (∀ A', A'.depth = A.depth + 1 → Shows prog w A' s.heap v) →
    (∀ h' tk dx t1, InitEnd s.heap h' x C dx t1 v → R (.ok (.ret .none)) { s with heap := h', toks := tk }) →
    codeAny (model prog w) A (.call (.ref fI) ⟨[.ref x, v], []⟩) R s
theorem one_size (v : Value) : [v].length ≤ sizeLine := by
  rw [sizeLine_eq]
  exact (by decide : 1 ≤ 16777216)
theorem ldG {env : Env} {M : Model} {A : Around} {E : Value → Shared → Prop} {s : Shared} {m : Str → Option Value} {x : Str} {pos : Pos} {v : Value} {Q : Value → Shared → Prop} (hn : s.heap.Ns env.locals m) (hv : m x = some v) (h : Q v s)
    (hk : env.scope.kind = .function := by rfl) (hl : env.kindOf x = some .local := by rfl) (hd : (x == ("__debug__" : Str)) = false := by decide) : wpAny M A (eval (.Name x pos) env) Q E s := wpAny_Name (wpAny_loadName_local hk hl hn hv h) hd
section
variable {prog : Program} {w : World} {A : Around} {E : Value → Shared → Prop} {h : Heap} {g : Array GenState} {d : Drawn} {t : Nat} {os : OsState}
variable {nm q : Str} {C N : Addr} {bs bm : List Value} {hdct : Bool} {sn : List Str} {sub : List Value} {ab : Bool} {col : Option Bool} {dd : Option Addr} {k0 k1 k2 k3 k5 : Option Value}
theorem call_mw {u e t0 : Addr} {rest : List Value} {Q : Value → Shared → Prop}
    (hC : h.get? C = some (excClassObj nm q C N bs bm hdct sn sub ab col dd k0 k1 k2 k3 k5 "ValueError.__new__")) (he : h.get? e = some (excO C t0)) (hu : h.get? u = some (kxs_mw "ValueError.__init__" e)) (hrest : rest.length ≤ sizeLine)
    (hq : ∀ h' t1, (∀ b o, b ≠ e → h.get? b = some o → h'.get? b = some o) → h'.get? e = some (excO C t1) → Q .none ⟨h', g, d, t, os⟩) :
    wpAny (model prog w) A (call (.ref u) rest) Q E ⟨h, g, d, t, os⟩ := by
  refine wpAny_call (codeAny_of_tree ?_)
  show wpAny _ A.in1 (callAny (.ref u) ⟨rest, []⟩) _ _ _
  simp only [callAny]
  refine wpAny_bind (wpAny_load hu ?_)
  simp only [kxs_mw, show (Value.type "method-wrapper" == Value.type "method" || Value.type "method-wrapper" == Value.type "builtin_function_or_method" || Value.type "method-wrapper" == Value.type "method-wrapper") = true by decide, if_true]
  refine W.KFB.if_so (by decide) ?_
  refine wpAny_bind (check_bound_init F.excBase_ValueError.toExcCallFacts hC he rfl ?_)
  refine wpAny_bind (wpAny_pure (wpAny_pure ?_))
  refine ⟨Code.quiet_builtin _ (by decide +kernel), codeAny_builtin F.excBase_ValueError.initEntry ?_⟩
  rw [Around.under_plainId F.excBase_ValueError.init.plain _]
  wp_walk
  refine hq _ h.objs.size (fun b o hb ho => ?_) ?_
  · rw [Heap.get?_update_other _ _ (Ne.symm hb)]
    exact Heap.get?_push_of_some _ ho
  · rw [Heap.get?_update_self _ (Heap.get?_push_of_some _ he) rfl]
    rfl
end
section
variable {prog : Program} {w : World} {A : Around} {E : Value → Shared → Prop} {R : Result → Shared → Prop} {s : Shared} {K : Frag} {mg mb : Str → Option Value} {D fI C : Addr}
theorem keepK {h h' : Heap} {x : Addr} (X : K.In h) (hx : K.lookup x = none) (k : ∀ b o, b ≠ x → h.get? b = some o → h'.get? b = some o) : K.In h' := fun a o e =>
  k a o (fun z => by rw [z, hx] at e; cases e) (X a o e)
theorem callWith_mw {M : Model} {E : Value → Shared → Prop} {i : String} {u x : Addr} {pos : Pos} {env : Env} {e : Expr} {rest : List Expr} {Q : Value → Shared → Prop}
    (h : wpAny M A (spliced (backTo pos (starEach (e :: rest) env))) (fun vs s₁ => KxsAt i u x s₁.heap ∧ wpAny M A (call (.ref u) vs) Q E s₁) E s)
    (he : starEach (e :: rest) env = (false, eval e env) :: starEach rest env := by rfl) (hplain : (backTo pos (starEach rest env)).any (·.1) = false := by rfl) :
    wpAny M A (callWith pos (.ref u) [] (backTo pos (starEach (e :: rest) env)) []) Q E s := by
  rw [he] at h ⊢
  refine kxs_callWith (i := i) (x := x) (by show (false || (backTo pos (starEach rest env)).any (·.1)) = false; rw [hplain]; rfl) ?_
  exact evalArgs_plain h
theorem gr_init (T : BaseT prog K D fI) (O : OwnT K D fI C) {x t0 : Addr} {v : Value} (X : K.In s.heap) (G : s.heap.Ns mainGlobals mg) (Bt : s.heap.Ns builtinsNs mb) (hbt : mb "super" = some (.type "super")) (hlim : s.heap.NoLimit) (hx : s.heap.get? x = some (excO C t0)) (hnx : K.lookup x = none)
    (hroom : A.depth < recursionLimit) (hv : ∀ A', A'.depth = A.depth + 1 → Shows prog w A' s.heap v)
    (hq : ∀ h' tk dx t1, InitEnd s.heap h' x C dx t1 v → R (.ok (.ret .none)) { s with heap := h', toks := tk }) :
    codeAny (model prog w) A (.call (.ref fI) ⟨[.ref x, v], []⟩) R s :=
  T.mke w A R s mg mb C O x t0 v X G Bt hbt hlim hx hnx hroom hv hq
theorem gr_made (T : BaseT prog K D fI) (O : OwnT K D fI C) {v : Value} (X : K.In s.heap) (G : s.heap.Ns mainGlobals mg) (Bt : s.heap.Ns builtinsNs mb) (hbt : mb "super" = some (.type "super")) (hlim : s.heap.NoLimit)
    (hroom : A.depth + 1 < recursionLimit) (hv : ∀ A', A'.depth = A.depth + 2 → Shows prog w A' s.heap v)
    (hq : ∀ h' tk e d, OwnMade s.heap h' e C d v → R (.ok (.ret (.ref e))) { s with heap := h', toks := tk }) :
    codeAny (model prog w) A (.call (.ref C) ⟨[v], []⟩) R s := by
  obtain ⟨nm, q, N, bs, bm, sn, sub, ab, col, dd, k0, k1, k2, k3, k5, hC, hbm⟩ := O.cls
  obtain ⟨hp, g, dr, tk, os⟩ := s
  have k : ∀ b o, hp.get? b = some o → ((hp.push (kdv_tup [v])).push (excO C hp.objs.size)).get? b = some o := fun b o e => Heap.get?_push_of_some _ (Heap.get?_push_of_some _ e)
  have hget : ((hp.push (kdv_tup [v])).push (excO C hp.objs.size)).get? (hp.objs.size + 1) = some (excO C hp.objs.size) := by heap_get
  have hnx : K.lookup (hp.objs.size + 1) = none := by
    cases e : K.lookup (hp.objs.size + 1) with
    | none => rfl
    | some o =>
      have z : hp.get? (hp.objs.size + 1) = some o := X _ _ e
      exact absurd (Nat.lt_of_succ_lt (Heap.lt_size z)) (Nat.lt_irrefl _)
  refine call_own F.excBase_ValueError (fun X => refsVE_contains X bm hbm) (X _ _ hC) (looks_findIn X O.iC) (fun self => bind_fn X self T.tI) (one_size v) ?_
  refine gr_init (s := ⟨(hp.push (kdv_tup [v])).push (excO C hp.objs.size), g, dr, tk, os⟩) T O (X.keeps k) (G.keeps k) (Bt.keeps k) hbt (hlim.keeps k) hget hnx ?_ (fun A' hA => ?_) fun h' tk' dx t1 ⟨k', hx, dn, dne, hns⟩ => ?_
  · show A.depth + 1 < recursionLimit
    exact hroom
  · exact fun s' E Q kk hq => hv A' hA s' E Q (fun b o z => kk b o (k b o z)) hq
  · have old : ∀ b o, hp.get? b = some o → h'.get? b = some o := fun b o e => k' b o (Nat.ne_of_lt (Nat.lt_succ_of_lt (Heap.lt_size e))) (k b o e)
    have z : hp.objs.size + 1 + 1 ≤ dx := by
      first
        | (simpa only [Heap.size_push] using dn)
        | exact dn
        | (have q := dn; rw [Heap.size_push, Heap.size_push] at q; exact q)
    exact ⟨rfl, hq h' tk' (hp.objs.size + 1) dx ⟨old, Nat.le_succ _, ⟨_, _, hx, rfl, rfl, rfl, rfl⟩, Nat.le_trans (Nat.le_trans (Nat.le_succ _) (Nat.le_succ _)) z, dne, hns⟩⟩
end
theorem shows_str {prog : Program} {w : World} {A : Around} {h : Heap} {x : Str} {t : Tok} (hx : ∀ c ∈ x.cps.toList, c < 16 ^ 8) (hl : x.length ≤ 1000000) : Shows prog w A h (.str x t) := fun s E Q _ hq => by
  have z := StrLaws.reprText_len x hx
  exact pyReprObj_str (hq _ _ _ (by omega)) (by rw [sizeLine_eq]; omega)
theorem shows_int {prog : Program} {w : World} {A : Around} {h : Heap} {i : Int} {t : Tok} (hi : i.natAbs < 2 ^ 64) : Shows prog w A h (.int i t) := fun s E Q _ hq => by
  have hl : i.natAbs.log2 < 1920 := by
    by_cases h0 : i.natAbs = 0
    · rw [h0]; decide
    · exact Nat.lt_of_lt_of_le ((Nat.log2_lt h0).2 hi) (by decide)
  refine pyReprObj_int hl (hq _ _ _ ?_)
  have e := int_text_length_le10 (a := i) (k := 4300) (by decide) (Nat.lt_of_lt_of_le hi (by decide +kernel))
  rw [ofString_length]
  omega
end GrX
end PySem

namespace L2
open PySem PySem.Spec PyProof.Rows
theorem relO_val {v : V} {v' : Value} (r : RelV v v') (f : Str) : RelO (List.lookup f [(("value" : Str), v)]) (if f = "value" then some v' else none) := by
  by_cases hw : f = "value"
  · subst hw
    rw [if_pos rfl]
    have q : List.lookup ("value" : Str) [(("value" : Str), v)] = some v := by simp [List.lookup]
    rw [q]
    exact r
  · rw [if_neg hw]
    have qw : (f == ("value" : Str)) = false := by simpa using hw
    have q2 : List.lookup f [(("value" : Str), v)] = none := by simp [List.lookup, qw]
    rw [q2]
    trivial
/-- a value that an error may be made of -/
def ShowV (P : Program) (w : World) (H : Hp) (v : V) : Prop := ∀ (u : Value) (h : Heap) (A : Around), RelV v u → HOk P w H h → PySem.GrX.Shows P w A h u
theorem showV_str {P : Program} {w : World} {H : Hp} {x : Str} (hx : ∀ c ∈ x.cps.toList, c < 16 ^ 8) (hl : x.length ≤ 1000000) : ShowV P w H (.str x) := fun u h A r _ => by
  obtain ⟨t, rfl⟩ := r
  exact PySem.GrX.shows_str hx hl
theorem showV_int {P : Program} {w : World} {H : Hp} {i : Int} (hi : i.natAbs < 2 ^ 64) : ShowV P w H (.int i) := fun u h A r _ => by
  obtain ⟨t, rfl⟩ := r
  exact PySem.GrX.shows_int hi
section
variable {X : Cx} {D fI C : Addr}
/-- C(e) -/
def tMkGr (P : Program) (w : World) (C : Addr) (ta : TA) : St → Hp → XK → Prop := fun σ H Q => ta σ H fun vs H1 => ∃ v, vs = [v] ∧ ShowV P w H1 v ∧ ∀ d, H1 d = none → Q (.ref C) (some d) (upd H1 d (.xd [(("value" : Str), v)]))
theorem pmk_gr {x : Str} {a : Expr} {ta : TA} {p pos : Pos} {k : Nat} (T : PySem.GrX.BaseT X.prog X.K D fI) (O : PySem.GrX.OwnT X.K D fI C) (hr : Room k X.A) (gC : X.mg x = some (.ref C)) (ha : PA X [a] ta) (hg : Gl X x := by rfl)
    (hdb : (x == ("__debug__" : Str)) = false := by decide) (he : starEach (a :: []) X.env = (false, eval a X.env) :: starEach [] X.env := by rfl) (hpl : (backTo pos (starEach [] X.env)).any (·.1) = false := by rfl) :
    PMk X (.Call (.Name x p) [a] [] pos) (tMkGr X.prog X.w C ta) := by
  intro pins s σ H Q I h
  refine wpAny_Call_Name_kw (ld_glob I hg gC ?_ hdb)
  refine PySem.W.callWith_K (h₀ := X.base) I.ok.mod.kin O.kC (thn (ha.run pos pins s σ H _ I h) fun us s1 hh => ?_) he hpl
  obtain ⟨vs, H1, I1, r1, v, ev, sv, q1⟩ := hh
  subst ev
  refine ⟨I1.kIn, ?_⟩
  cases r1 with
  | cons rv rn =>
    rename_i v' us'
    cases rn
    show wpAny _ _ (call (.ref C) [v']) _ _ _
    have hlim := I1.nolimit
    have glob := I1.ok.mod.glob.keeps I1.bk
    obtain ⟨mb, blt, hbl⟩ := I1.ok.mod.blt
    have blt' := blt.keeps I1.bk
    have hok1 := I1.hok
    have hsup : mb "super" = some (.type "super") := (hbl "super" (by decide +kernel)).trans (by decide +kernel)
    obtain ⟨hp, g, dr, tk, os⟩ := s1
    refine wpAny_call (PySem.GrX.gr_made T O I1.kIn glob blt' hsup hlim (by have := hr.dp; omega) (fun A' _ => sv v' hp A' rv hok1) fun h' tk' e d M => ?_)
    show MkP X pins σ Q (.ref e) ⟨h', g, dr, tk', os⟩
    obtain ⟨oe, fv, hoe, hc, hd, hdat, h1⟩ := M.obj
    have hns := M.ns
    obtain ⟨G', g1, g2⟩ := restrict h' fun b => decide (b ≠ e)
    have gk : ∀ b, b ≠ e → G'.get? b = h'.get? b := fun b hb => g1 b (decide_eq_true hb)
    have ge : G'.get? e = none := g2 e (by simp)
    have old : ∀ b o, hp.get? b = some o → G'.get? b = some o := fun b o q => (gk b (Nat.ne_of_lt (Nat.lt_of_lt_of_le (Heap.lt_size q) M.new))).trans (M.keep b o q)
    have ob : ObjOk X.prog X.w (upd H1 d (.xd [(("value" : Str), v)])) G' d (.xd [(("value" : Str), v)]) :=
      ⟨_, hns.at (fun o q => (gk d M.dne).trans q), fun f => relO_val rv f⟩
    have J : Inv X pins σ (upd H1 d (.xd [(("value" : Str), v)])) ⟨G', g, dr, tk', os⟩ := I1.laid (t' := tk') old M.dbig ob
    refine ⟨e, oe, fv, ⟨G', g, dr, tk', os⟩, _, .ref C, some d, rfl, J, fun b o q => ?_, ge, hoe, ⟨hc, hd⟩, hdat, h1, ?_, rfl, I1.bare, raises_own O.exC O.tyC, q1 d (I1.hok.fresh M.dbig)⟩
    · by_cases hb : b = e
      · have q' : G'.get? b = some o := q
        rw [hb, ge] at q'; cases q'
      · exact (gk b hb).symm.trans q
    · rw [upd_ne (Ne.symm M.dne)]
      exact I1.hok.fresh M.new
/-- raise C(e) -/
theorem ps_raiseGr {x : Str} {a : Expr} {ta : TA} {W : WX} {p pos pos2 : Pos} {k : Nat} (hc : X.calm = true) (T : PySem.GrX.BaseT X.prog X.K D fI) (O : PySem.GrX.OwnT X.K D fI C) (hr : Room k X.A) (gC : X.mg x = some (.ref C)) (tk : Takes X W) (ha : PA X [a] ta) (hg : Gl X x := by rfl)
    (hdb : (x == ("__debug__" : Str)) = false := by decide) (he : starEach (a :: []) X.env = (false, eval a X.env) :: starEach [] X.env := by rfl) (hpl : (backTo pos (starEach [] X.env)).any (·.1) = false := by rfl) :
    PS X (.Raise (some (.Call (.Name x p) [a] [] pos)) none pos2) (fun _ σ H => tMkGr X.prog X.w C ta σ H fun cls d H' => W cls d σ H') := ps_raise hc tk (pmk_gr T O hr gC ha hg hdb he hpl)
end
end L2
end

section
set_option Elab.async false
set_option linter.all false
set_option maxRecDepth 100000
set_option maxHeartbeats 4000000
namespace L2
open PySem PySem.Spec PyProof.Rows
/-- isinstance(e, c), e the exception that the suite holds, of an own class C, its dict at d -/
def rIsG (K : PySem.W.Frag) (a : Addr) (cls : Value) (d : Option Addr) : List V → Hp → VK → Prop := fun xs H Q => ∃ (C : Addr) (c : V) (cv : Value) (b : Bool) (dd : Addr) (fs : List (Str × V)),
  cls = .ref C ∧ ExcC K C ∧ xs = [.ref a, c] ∧ (∀ u, RelV c u → u = cv) ∧ PySem.W.kitOne K (.ref C) cv = some b ∧ d = some dd ∧ H dd = some (.xd fs) ∧ Q (.bl b) H
theorem call_isG {X : Cx} {a : Addr} {oe : Obj} {cls : Value} {d : Option Addr} {pn : List (Addr × Obj)} (hz : Zc cls d oe) (hf : ∃ vs, oe.data = .fields vs) : CallR (X.suite a ((a, oe) :: pn)) (.builtin "isinstance") (rIsG X.K a cls d) := by
  intro pins s σ H xs us Q I r h
  obtain ⟨C, c, cv, b, dd, fs, ecl, EC, rfl, hcv, e, ed, ea, q⟩ := h
  subst ecl
  subst ed
  cases r with
  | cons rx rr =>
    cases rr with
    | cons rt rr =>
      cases rr
      cases rx
      have ec := hcv _ rt
      subst ec
      obtain ⟨hget, _⟩ := I.pin (a, oe) (List.mem_append.mpr (.inl List.mem_cons_self))
      obtain ⟨vs, hv⟩ := hf
      have hx : ObjOk X.prog X.w H s.heap dd (.xd fs) := I.hok dd _ ea
      obtain ⟨mA, hns, hr⟩ := hx
      obtain ⟨od, ho, hl⟩ := lookIn_ns hns
      have J : PySem.W.InstAt s.heap a oe C (some od) := ⟨hget, hz.1, by unfold PySem.W.notCls; rw [hv] <;> rfl, by rw [hz.2]; exact ho⟩
      have hcl : (PySem.W.clsIn X.K C).isSome = true := by
        obtain ⟨cd, hc, _⟩ := PySem.W.any_some EC.hd
        rw [hc]; rfl
      exact PySem.W.kia_one (PySem.W.kitx_exc hcl EC.hg EC.hk EC.hs EC.ha EC.hn EC.ht EC.hm) I.kIn J e (fun z => nomatch z) fun tk => ⟨.bl b, H, I.kept (t' := tk) fun _ _ z => z, rfl, q⟩
/-- e.n, e the exception that the suite holds -/
def tXg (K : PySem.W.Frag) (a : Addr) (cls : Value) (d : Option Addr) (f : Str) (te : TE) : TE := fun σ H Q => te σ H fun x H1 => ∃ (C dd : Addr) (fs : List (Str × V)) (v : V), x = .ref a ∧ cls = .ref C ∧ XfC K C ∧ PySem.W.findIn K (.ref C) f = some none ∧
  d = some dd ∧ H1 dd = some (.xd fs) ∧ fs.lookup f = some v ∧ Q v H1
theorem pe_xg {X : Cx} {a : Addr} {oe : Obj} {cls : Value} {d : Option Addr} {pn : List (Addr × Obj)} {e : Expr} {te : TE} {pos : Pos} {n : Str}
    (hz : Zc cls d oe) (hf : ∃ vs, oe.data = .fields vs) (he : PE (X.suite a ((a, oe) :: pn)) e te) (hb : attributeBase e n X.env (eval e X.env) = eval e X.env := by rfl) :
    PE (X.suite a ((a, oe) :: pn)) (.Attribute e n pos) (tXg X.K a cls d n te) := by
  refine ⟨fun pins s σ H Q I h => ?_⟩
  refine attr_of hb (thn (he.run pins s σ H _ I h) fun u s1 hh => ?_)
  obtain ⟨x, H1, I1, rx, C, dd, fs, v, ex, ec, T, hno, ed, ea, l, q⟩ := hh
  subst ex
  obtain rfl : u = Value.ref a := rx
  subst ec
  subst ed
  obtain ⟨ha, _⟩ := I1.pin (a, oe) (List.mem_append_left _ List.mem_cons_self)
  obtain ⟨vs, hd⟩ := hf
  have hx : ObjOk X.prog X.w H1 s1.heap dd (.xd fs) := I1.hok dd _ ea
  obtain ⟨mA, hns, hr⟩ := hx
  obtain ⟨od, ho, hl⟩ := lookIn_ns hns
  obtain ⟨u, hu, ru⟩ := RelO.some_of (v := v) (o := mA n) (by rw [← l]; exact hr n)
  have J : PySem.W.InstAt s1.heap a oe C (some od) := ⟨ha, hz.1, by unfold PySem.W.notCls; rw [hd] <;> rfl, by rw [hz.2]; exact ho⟩
  exact HandSPX.exc_get I1.kIn J T.ga T.gg T.exC (PySem.W.findObj_own T.hdC hno rfl (by rw [hl, hu])) (handed_of ru) ⟨v, H1, I1.tok _, ru, q⟩
end L2

/-! ### a text read from its end -/
namespace PySem
/-- z[::-1] -/
def revS (z : Str) : Str := ⟨z.cps.toList.reverse.toArray⟩
theorem revS_slice (z : Str) : (⟨((Builtin.Str.strSliceIndices none none (-1) z.length).filterMap (z.cps[·]?)).toArray⟩ : Str) = revS z := by
  have e : Builtin.Str.strSliceIndices none none (-1) z.length = sliceRange ((z.cps.size : Int) - 1) (-1) (-1) := rfl
  rw [e, PySem.W.krv_sliceRange, PySem.W.krv_range, List.filterMap_reverse, PySem.W.krv_all]
  rfl
theorem revS_len (z : Str) : (revS z).length = z.length := by
  show z.cps.toList.reverse.toArray.size = z.cps.size
  simp
end PySem
namespace L2
open PySem PySem.Spec PyProof.Rows
def tRevS (te : TE) : TE := fun σ H Q => te σ H fun x H1 => ∃ z, x = .str z ∧ z.length ≤ sizeLine ∧ Q (.str (revS z)) H1
theorem pe_revS {X : Cx} {e : Expr} {te : TE} {k : Nat} {p1 p2 p3 pos : Pos} (he : PE X e te) : PE X (.Subscript e (.Slice none none (some (.UnaryOp .USub (.Constant (.int 1) k p1) p2)) p3) pos) (tRevS te) := by
  refine ⟨fun pins s σ H Q I h => ?_⟩
  refine Subscript_ (thn (he.run pins s σ H _ I h) fun v s1 ⟨x, H1, I1, r1, q1⟩ => ?_)
  obtain ⟨z, ex, hz, q⟩ := q1
  subst ex
  obtain ⟨t, rfl⟩ := r1
  have hst : PO X (some (.UnaryOp .USub (.Constant (.int 1) k p1) p2)) (tPart (tUn (rU fun i => .int (-i)) (tC (.int 1)))) := po_some (pe_un un_neg pe_int)
  refine wpAny_Slice (thn (po_none.run pins s1 σ H1 (fun o H2 => o = none ∧ H2 = H1) I1 ⟨rfl, rfl⟩) fun vl s2 ⟨l, H2, I2, pl, el, e2⟩ => ?_)
  subst el e2
  refine thn (po_none.run pins s2 σ H2 (fun o H3 => o = none ∧ H3 = H2) I2 ⟨rfl, rfl⟩) fun vu s3 ⟨u, H3, I3, pu, eu, e3⟩ => ?_
  subst eu e3
  refine thn (hst.run pins s3 σ H3 (fun o H4 => o = some (-1) ∧ H4 = H3) I3 ⟨1, rfl, -1, rfl, rfl, rfl⟩) fun vs s4 ⟨o, H4, I4, ps, eo, e4⟩ => ?_
  subst eo e4
  have I5 : Inv X pins σ H4 { s4 with heap := s4.heap.push { cls := .type "slice", data := .fields #[vl, vu, vs] } } := I4.kept (t' := s4.toks) fun b ob q => Heap.get?_push_of_some _ q
  show wpAny (model X.prog X.w) X.A (subscriptTail e (.Slice none none (some (.UnaryOp .USub (.Constant (.int 1) k p1) p2)) p3) (.str z t) (.ref s4.heap.objs.size)) (EP X pins σ Q) X.xe { s4 with heap := s4.heap.push { cls := .type "slice", data := .fields #[vl, vu, vs] } }
  refine tail_any (ops := [.ref s4.heap.objs.size, .str z t]) (typeIs_str _ _ _) (F.slot_str_getitem.lookup) ?_ (by with_unfolding_all rfl)
  obtain ⟨l0, rfl, hl0⟩ := IsPart.raw pl
  obtain ⟨u0, rfl, hu0⟩ := IsPart.raw pu
  obtain ⟨st0, rfl, hst0⟩ := IsPart.raw ps
  have el0 : l0 = none := by cases l0 with | none => rfl | some _ => cases hl0
  have eu0 : u0 = none := by cases u0 with | none => rfl | some _ => cases hu0
  subst el0 eu0
  obtain ⟨j, tj, rfl⟩ : ∃ j tj, st0 = some (j, tj) := by cases st0 with | none => cases hst0 | some q => exact ⟨q.1, q.2, rfl⟩
  have ej : j = -1 := (Option.some.inj hst0)
  subst ej
  refine wpAny_getItem_str_slice (l := none) (u := none) (st := some (-1, tj)) (Heap.IsSliceOf.new _ _ _ _) rfl ?_
  show Made.post (if ((-1 : Int) == 1 && (Builtin.Str.strSliceIndices none none (-1) z.length).length == z.length) = true then Made.val (.str z t)
    else Made.str ⟨((Builtin.Str.strSliceIndices none none (-1) z.length).filterMap (z.cps[·]?)).toArray⟩) (EP X pins σ Q) _
  rw [if_neg (by simp)]
  rw [revS_slice]
  exact ⟨by rw [revS_len]; exact hz, .str _, H4, I5.tok _, ⟨_, rfl⟩, q⟩
end L2
end

section
set_option Elab.async false
set_option linter.all false
set_option maxRecDepth 100000
set_option maxHeartbeats 4000000
/-! a text times a number; list(text); yield from a list -/
namespace L2
open PySem PySem.Spec PyProof.Rows
/-- z, n times -/
def repS (z : Str) (n : Nat) : Str := ⟨(List.replicate n z.cps.toList).flatten.toArray⟩
theorem fold_reps (a : Array Nat) : ∀ (n : Nat) (b : Array Nat), List.foldl (fun x1 x2 => x1 ++ x2) b (List.replicate n a) = b ++ (List.replicate n a.toList).flatten.toArray
  | 0, b => by simp
  | n + 1, b => by
    rw [List.replicate_succ, List.foldl_cons, fold_reps a n (b ++ a), List.replicate_succ, List.flatten_cons]
    apply Array.toList_inj.mp
    simp
theorem repS_len (z : Str) (n : Nat) : (repS z n).length = n * z.length := by
  show ((List.replicate n z.cps.toList).flatten.toArray).size = n * z.cps.size
  simp
def rMulS : R2 := fun x y H Q => ∃ (z : Str) (n : Nat), x = .str z ∧ y = .int (n : Int) ∧ n ≤ 1000 ∧ z.length ≤ 10000 ∧ Q (.str (repS z n)) H
theorem op_mul_str {X : Cx} : OpR X (binaryOp .Mult) rMulS := by
  intro pins s σ H x y v u Q I rx ry h
  obtain ⟨z, n, rfl, rfl, hn, hz, q⟩ := h
  obtain ⟨t, rfl⟩ := rx
  obtain ⟨t', rfl⟩ := ry
  have hmul : z.length * n ≤ 10000 * 1000 := Nat.mul_le_mul hz hn
  refine PySem.P.mul_str ?_ (fun _ _ => ?_) (fun _ _ => ?_) ?_
  · have h1 : ¬ ((n : Int) < -(2 ^ 63)) := by omega
    have h2 : ¬ ((n : Int) ≥ 2 ^ 63) := by omega
    rw [decide_eq_false h1, decide_eq_false h2]
    rfl
  · have hp : 0 < (n : Int) := by omega
    have a1 : ((z.length : Int)) * (n : Int) ≤ 10000000 := by
      have := (Int.ofNat_le.mpr hmul)
      simpa using this
    intro hgt
    have hd : (2 ^ 63 - 1 : Int) / (n : Int) < (z.length : Int) := hgt
    have h3 : (2 ^ 63 - 1 : Int) < (z.length : Int) * (n : Int) := (Int.ediv_lt_iff_lt_mul hp).mp hd
    omega
  · show decide (z.length * (n : Int).toNat > sizeLine) = false
    rw [decide_eq_false_iff_not]
    have e2 : sizeLine = 16777216 := rfl
    have : z.length * (n : Int).toNat ≤ 10000000 := by simpa using hmul
    omega
  · have sz : (repS z n).length ≤ sizeLine := by
      rw [repS_len]
      have e2 : sizeLine = 16777216 := rfl
      have : n * z.length = z.length * n := Nat.mul_comm _ _
      omega
    by_cases h1 : (n : Int) < 1
    · rw [if_pos h1]
      have e : n = 0 := by omega
      subst e
      exact ⟨by decide, .str (repS z 0), H, I.tok _, ⟨_, rfl⟩, q⟩
    · rw [if_neg h1]
      by_cases h2 : ((n : Int) == 1 || z.length == 0) = true
      · rw [if_pos h2]
        have e : repS z n = z := by
          rcases Bool.or_eq_true_iff.mp h2 with h3 | h3
          · have e1 : n = 1 := by
              have := eq_of_beq h3
              omega
            subst e1
            unfold repS
            simp
          · have e0 : z.cps.size = 0 := eq_of_beq h3
            have ea : z.cps = #[] := Array.eq_empty_of_size_eq_zero e0
            obtain ⟨c⟩ := z
            simp only at ea
            subst ea
            unfold repS
            simp
        rw [e] at q
        exact ⟨.str z, H, I, ⟨_, rfl⟩, q⟩
      · rw [if_neg h2]
        have e : (⟨(List.replicate (n : Int).toNat z.cps).foldl (· ++ ·) #[]⟩ : Str) = repS z n := by
          unfold repS
          have := fold_reps z.cps (n : Int).toNat #[]
          simp only [Int.toNat_natCast] at this ⊢
          rw [this]
          simp
        rw [e]
        exact ⟨sz, .str (repS z n), H, I.tok _, ⟨_, rfl⟩, q⟩
end L2
end

section
set_option Elab.async false
set_option linter.all false
set_option maxRecDepth 100000
set_option maxHeartbeats 4000000
/-! yield from a list; list(text) -/
namespace L2
open PySem PySem.Spec PyProof.Rows GenW
section
variable {prog : Program} {w : World} {A : Around} {E : Value → Shared → Prop} {s : Shared}
theorem nx_listit {it l : Addr} {i : Nat} {ws : Array Value} {x : Value} {Q : Option Value → Shared → Prop} (a1 : s.heap.IsListIter it l i) (a2 : s.heap.IsList l ws) (hx : ws[i]? = some x)
    (hQ : ∀ h', h'.IsListIter it l (i + 1) → Heap.SameBut it s.heap h' → Q (some x) { s with heap := h' }) : wpAny (model prog w) A (callSpecial? (.ref it) "__next__") Q E s := by
  obtain ⟨oi, b1, b2, b3⟩ := id a1
  obtain ⟨ol, c1, _, nl, c2⟩ := a2
  refine wpAny_callSpecial?_slot (name := Str.ofString "__next__") a1.typeIs slot_listiter_next (wpAny_call_entry slot_listiter_next a1.typeIs entry_listiter_next ?_ (args_listiter_next _))
  show wpAny _ _ (field (.ref it) 0 >>= _) _ _ _
  refine wpAny_bind (wpAny_field b1 b3 (x := .ref l) rfl ?_)
  show wpAny _ _ (if (Value.ref l == Value.none) = true then _ else _) _ _ _
  rw [if_neg (show ¬ ((Value.ref l == Value.none) = true) from fun z => by cases z)]
  show wpAny _ _ (field (.ref it) 1 >>= _) _ _ _
  refine wpAny_bind (wpAny_field b1 b3 (x := .int i 0) rfl ?_)
  show wpAny _ _ (seqItems? (.ref l) >>= _) _ _ _
  refine wpAny_bind (wpAny_seqItems c1 c2 ?_)
  simp only [Int.toNat_natCast, hx]
  refine wpAny_bind (wpAny_setField b1 b3 (by simp) (wpAny_pure ⟨x, rfl, hQ _ ?_ (Heap.SameBut.update ..)⟩))
  exact ⟨_, Heap.get?_update_self _ b1 (Obj.isFreed_of_fields (Obj.data_mapFields b3 _)), (Obj.cls_mapFields ..).trans b2, by rw [Obj.data_mapFields b3]; simp [rawInt]⟩
theorem nx_listend {it l : Addr} {i : Nat} {ws : Array Value} {Q : Option Value → Shared → Prop} (hA : A.handled = none) (a1 : s.heap.IsListIter it l i) (a2 : s.heap.IsList l ws) (hx : ws[i]? = none)
    (hE : ∀ e h', StopX e h' → Heap.ExtBut it s.heap h' → E e { s with heap := h' }) : wpAny (model prog w) A (callSpecial? (.ref it) "__next__") Q E s := by
  obtain ⟨oi, b1, b2, b3⟩ := id a1
  obtain ⟨ol, c1, _, nl, c2⟩ := a2
  refine wpAny_callSpecial?_slot (name := Str.ofString "__next__") a1.typeIs slot_listiter_next (wpAny_call_entry slot_listiter_next a1.typeIs entry_listiter_next ?_ (args_listiter_next _))
  show wpAny _ _ (field (.ref it) 0 >>= _) _ _ _
  refine wpAny_bind (wpAny_field b1 b3 (x := .ref l) rfl ?_)
  show wpAny _ _ (if (Value.ref l == Value.none) = true then _ else _) _ _ _
  rw [if_neg (show ¬ ((Value.ref l == Value.none) = true) from fun z => by cases z)]
  show wpAny _ _ (field (.ref it) 1 >>= _) _ _ _
  refine wpAny_bind (wpAny_field b1 b3 (x := .int i 0) rfl ?_)
  show wpAny _ _ (seqItems? (.ref l) >>= _) _ _ _
  refine wpAny_bind (wpAny_seqItems c1 c2 ?_)
  simp only [Int.toNat_natCast, hx]
  refine wpAny_bind (wpAny_rule (wpAny_bind (wpAny_setField b1 b3 (by simp) ?_)))
  show wpAny _ _ (newExc (.type "StopIteration") [] >>= _) _ _ _
  refine wpAny_bind ?_
  simp only [newExc, newTuple]
  refine wpAny_bind (wpAny_newObj_type ?_ (by size_fits))
  refine wpAny_bind (m := firstArgMember _ _) (wpAny_of_eq (a := Value.none) (by first | rfl | (simp only [firstArgMember]; rfl)) ?_)
  refine wpAny_newObj_type ?_ (by size_fits)
  simp only [raiseNew]
  refine wpAny_bind (wpAny_handled ?_)
  first | rw [show A.in1.handled = none from hA] | rw [hA]
  refine wpAny_bind (wpAny_pure (wpAny_throw ?_))
  refine hE _ _ ⟨_, _, _, rfl, Heap.get?_push_size _ rfl, rfl, rfl, ?_⟩ (((Heap.SameBut.update ..).extBut.push _).push _)
  first
    | rfl
    | (rw [Array.getElem?_append_left (by decide)]; rfl)
    | kernel_rfl
end
section
variable {X : Cx} {e : Expr} {te : TE}
def tYfLst (te : TE) : TYf := fun σ H Q => te σ H fun x H1 => ∃ a xs, x = .ref a ∧ H1 a = some (.lst xs) ∧ Q xs H1
theorem close_lst : typeLookup (.type "list_iterator") "close" = pure none := by
  rw [typeLookup_type, builtinLookup_eq_fast]
  kernel_rfl
theorem yf_list (he : PE X e te) : YfE X e (tYfLst te) := by
  refine ⟨fun pins s σ H Q I h => ?_⟩
  refine thn (he.run pins s σ H _ I h) fun v s1 ⟨x, H1, I1, r1, a, xs, ex, ha, hq⟩ => ?_
  subst ex
  obtain rfl : v = Value.ref a := r1
  obtain ⟨hlen, its, c0, rits, hget⟩ := I1.hok a _ ha
  have hl : s1.heap.IsList a its.toArray := ⟨_, hget, rfl, c0, rfl⟩
  have hlt : a < s1.heap.objs.size := Heap.lt_size hget
  refine ⟨"list", hl.typeIs, by decide, wpAny_pyIter_list hl ?_⟩
  have ksz : ∀ b o, s1.heap.get? b = some o → b ≠ s1.heap.objs.size := fun b o e => Nat.ne_of_lt (Heap.lt_size e)
  have kp : ∀ b o, s1.heap.get? b = some o → (s1.heap.push { cls := .type "list_iterator", data := .fields #[.ref a, .int 0 0] }).get? b = some o := fun b o e => Heap.get?_push_of_some _ e
  refine ⟨s1.heap.objs.size, H1, xs, fun j h => h.IsListIter s1.heap.objs.size a j ∧ h.IsList a its.toArray, rfl, I1.kept (t' := s1.toks) kp, .inr I1.sz, Nat.ne_of_gt I1.lt, fun y c hy => ?_, I1.hok.fresh (Nat.le_refl _), fun p hp => ?_,
    ⟨⟨_, Heap.get?_push_size _ rfl, rfl, rfl⟩, hl.push _⟩, ⟨⟨"list_iterator", fun j h q => ?_, close_lst, by decide⟩, fun j h h' q hk => ?_, fun A' j x s2 Q' E' hA hx q hQ => ?_, fun A' s2 Q' E' hA q hE => ?_⟩, hq⟩
  · obtain ⟨v, o, ho, _⟩ := I1.cell y c hy
    exact ksz c o ho
  · exact ksz p.1 _ (I1.pin p hp).1
  · obtain ⟨⟨o, ho, hc, _⟩, _⟩ := q
    exact ⟨o, ho, hc⟩
  · obtain ⟨⟨o, ho, r⟩, o2, ho2, r2⟩ := q
    exact ⟨⟨o, hk _ o (.inl rfl) ho, r⟩, o2, hk _ o2 (.inr (by rw [ha]; exact fun z => by cases z)) ho2, r2⟩
  · obtain ⟨q1, q2⟩ := q
    obtain ⟨u, hu, ru⟩ := rits.get hx
    have hne : a ≠ s1.heap.objs.size := Nat.ne_of_lt hlt
    exact nx_listit q1 q2 (x := u) (by simpa using hu) fun h' q1' hs => hQ u h' s2.toks ru ⟨q1', q2.extBut hs.extBut hne⟩ fun b o hb eb => hs.extBut b o hb eb
  · obtain ⟨q1, q2⟩ := q
    have hnone : its.toArray[xs.length]? = none := by
      have e := rits.length
      have e2 : its[xs.length]? = none := List.getElem?_eq_none_iff.mpr (by omega)
      simpa using e2
    exact nx_listend hA q1 q2 hnone fun e h' hS hk => hE e h' s2.toks hS fun b o hb eb => hk b o hb eb
end
end L2
end

section
set_option Elab.async false
set_option linter.all false
set_option maxRecDepth 100000
set_option maxHeartbeats 4000000
/-! list(text) -/
namespace PySem.W
open PySem PySem.Calls PyProof.Rows PyProof.V PySem.Spec
section
variable {prog : Program} {w : World} {A : Around} {E : Value → Shared → Prop} {s : Shared} {x : Str} {t : Tok}
theorem ltx_hint {Q : Bool → Shared → Prop} (h : Q false s) : wpAny (model prog w) A (Builtin.List.listLengthHint (.str x t)) Q E s := by
  unfold Builtin.List.listLengthHint
  refine wpAny_bind (wpAny_specialOf (typeIs_str s x t) PySem.F.slot_str_len.lookup ?_)
  generalize hid : ("str.__len__" : String) = id0
  wp_delta
  rw [show splitId id0 = some ("str", "__len__") from by subst hid; decide +kernel]
  subst hid
  refine wpAny_bind (wpAny_isInstance (T := "str") (b := true) (typeIs_str s x t) (by rw [isSubtype_type]; kernel_rfl) ?_)
  refine wpAny_ite_split (fun z => absurd z (by decide)) (fun _ => ?_)
  refine wpAny_ite_split (fun _ => ?_) (fun z => absurd (by decide +kernel) z)
  refine wpAny_bind (wpAny_typeOf (typeIs_str s x t) ?_)
  exact wpAny_pure h
theorem ltx_extend {R : Result → Shared → Prop} (hh : A.handled = none) (S : Addr) (res : Value) (c₀ : Nat) (hS : s.heap.get? S = some { cls := .type "list", data := .seq #[] c₀ })
    (hR : ∀ h' tk acc' c', (∀ b o, b ≠ S → s.heap.get? b = some o → h'.get? b = some o) → h'.get? S = some { cls := .type "list", dict := none, data := .seq acc' c', slots := #[] } → ItemsOf (SignAt x) acc' x.cps.size → R (.ok (.ret res)) { s with heap := h', toks := tk }) (hn : x.cps.size ≤ sizeLine) :
    wpAny (model prog w) A.in1 (Builtin.List.listExtendWith (.ref S) (.str x t) res)
      (fun fin s' => match fin with | .done f => R (.ok f) s' | .again c' => c'.quiet = true ∧ codeAny (model prog w) A c' R s') (fun e s' => R (.error e) s') s := by
  have hSI : S ≠ s.heap.objs.size := Nat.ne_of_lt (Heap.lt_size hS)
  unfold Builtin.List.listExtendWith
  refine wpAny_bind (wpAny_typeOf (T := "str") (typeIs_str s x t) ?_)
  have h1 : Builtin.List.listSameRef (.ref S) (.str x t) = false := rfl
  have h2 : (Value.type "str" == Value.type "list") = false := by decide
  have h3 : (Value.type "str" == Value.type "tuple") = false := by decide
  simp only [h1, h2, h3, Bool.or_false, Bool.false_eq_true, if_false]
  refine wpAny_bind (wpAny_pyIter_str fun o St hW st => ?_)
  have hSf : S ∉ [s.heap.objs.size] := by
    simp only [List.mem_singleton]
    exact hSI
  have W := hW A.in1 hh
  have hS1 := Heap.get?_push_of_some o hS
  refine wpAny_bind (wpAny_holding (ltx_hint ?_))
  have nohint : (false || ["set", "frozenset", "dict", "dict_keys", "dict_values", "dict_items"].any (fun y => Value.type "str" == Value.type y)) = false := by decide
  refine wpAny_ite_split (fun z => absurd z (by decide)) (fun _ => ?_)
  refine wpAny_pure ⟨plainId_quiet PySem.F.plain_extend_loop _, ?_⟩
  show codeAny (model prog w) A (.builtin "list.extend.loop" ⟨[.ref S, .ref s.heap.objs.size, res], []⟩) R _
  refine codeAny_extend_loopS W.toS hn S hSf res x.cps.size 0 _ #[] c₀ rfl (Nat.zero_le _) st hS1 (ItemsOf.nil _) fun s' acc' c' hm hS' hacc => ?_
  rw [Moved.eq_with hm]
  refine hR s'.heap s'.toks acc' c' (fun b ob hb e => hm.heap b ob (fun hmem => ?_) (Heap.get?_push_of_some _ e)) hS' hacc
  rcases List.mem_cons.mp hmem with e' | hmem
  · exact hb e'
  · exact absurd (Heap.lt_size e) (by rw [List.mem_singleton.mp hmem]; exact Nat.lt_irrefl _)
theorem ltx_init {R : Result → Shared → Prop} (hh : A.handled = none) (S : Addr) (hS : s.heap.get? S = some { cls := .type "list", data := .seq #[] })
    (hR : ∀ h' tk acc' c', (∀ b o, b ≠ S → s.heap.get? b = some o → h'.get? b = some o) → h'.get? S = some { cls := .type "list", dict := none, data := .seq acc' c', slots := #[] } → ItemsOf (SignAt x) acc' x.cps.size → R (.ok (.ret .none)) { s with heap := h', toks := tk }) (hn : x.cps.size ≤ sizeLine) :
    wpAny (model prog w) A.in1 (Builtin.«list.__init__» ⟨[.ref S, .str x t], []⟩)
      (fun fin s' => match fin with | .done f => R (.ok f) s' | .again c' => c'.quiet = true ∧ codeAny (model prog w) A c' R s') (fun e s' => R (.error e) s') s := by
  show wpAny _ _ (do let old ← Builtin.List.listItems (.ref S); Builtin.List.listUpdate (.ref S) (fun _ => #[]); letGo old.toList.reverse; Builtin.List.listExtendWith (.ref S) (.str x t) .none) _ _ s
  refine wpAny_bind ?_
  unfold Builtin.List.listItems
  refine wpAny_bind (wpAny_seqItems hS rfl (wpAny_pure ?_))
  show wpAny _ _ (updateSeq S (fun _ => #[]) >>= fun _ => letGo (#[] : Array Value).toList.reverse >>= fun _ => Builtin.List.listExtendWith (.ref S) (.str x t) .none) _ _ s
  refine wpAny_bind (wpAny_updateSeq hS rfl ?_)
  have hS2 := Heap.get?_update_self (Obj.mapSeq (fun _ => (#[] : Array Value))) hS rfl
  have oth : ∀ b o, b ≠ S → s.heap.get? b = some o → (s.heap.update S (Obj.mapSeq (fun _ => (#[] : Array Value)))).get? b = some o := fun b o hb e => (Heap.get?_update_other _ _ (Ne.symm hb)).trans e
  refine wpAny_bind (wpAny_letGo ?_)
  refine ltx_extend hh S .none _ hS2 (fun h' tk acc' c' hk hS' hacc => ?_) hn
  exact hR h' tk acc' c' (fun b o hb e => hk b o hb (oth b o hb e)) hS' hacc
theorem ltx_call {Q : Value → Shared → Prop} (hh : A.handled = none) (hn : x.cps.size ≤ sizeLine)
    (hQ : ∀ h' tk acc' c', (∀ b o, s.heap.get? b = some o → h'.get? b = some o) → h'.get? s.heap.objs.size = some { cls := .type "list", dict := none, data := .seq acc' c', slots := #[] } → ItemsOf (SignAt x) acc' x.cps.size → Q (.ref s.heap.objs.size) { s with heap := h', toks := tk }) :
    wpAny (model prog w) A (call (.type "list") [.str x t]) Q E s := by
  refine callType_codes (Q₁ := fun obj s₁ => obj = .ref s.heap.objs.size ∧ s₁ = { s with heap := s.heap.push { cls := .type "list", data := .seq #[] } }) PySem.F.called_list (PySem.F.typeCall_list_1 _) PySem.F.entry_list_init
    (code_list_new _ ⟨rfl, rfl⟩) fun obj s₁ h₁ => ?_
  obtain ⟨rfl, rfl⟩ := h₁
  have hS : (s.heap.push { cls := .type "list", data := .seq #[] }).get? s.heap.objs.size = some { cls := .type "list", data := .seq #[] } := Heap.get?_push_size _ rfl
  refine ⟨⟨_, hS, rfl⟩, PySem.F.args_list_init_2 _ _, ltx_init (A := A.in1) hh _ hS (fun h' tk acc' c' hk hS' hacc => ?_) hn⟩
  exact ⟨rfl, hQ h' tk acc' c' (fun b o e => hk b o (Nat.ne_of_lt (Heap.lt_size e)) (Heap.get?_push_of_some _ e)) hS' hacc⟩
end
end PySem.W
namespace L2
open PySem PySem.Spec PyProof.Rows
/-- the signs of a text, each a text -/
def signsV (z : Str) : List V := z.cps.toList.map fun c => V.str ⟨#[c]⟩
theorem signsV_len (z : Str) : (signsV z).length = z.length := by
  unfold signsV
  rw [List.length_map, Array.length_toList]
  rfl
theorem call_list_str {X : Cx} (hc : X.calm = true) : CallR X (.type "list") (fun xs H Q => ∃ z, xs = [.str z] ∧ z.length ≤ sizeLine ∧ ∀ l, H l = none → Q (.ref l) (upd H l (.lst (signsV z)))) := by
  intro pins s σ H xs us Q I r h
  obtain ⟨z, rfl, hz, q⟩ := h
  obtain ⟨u, rfl, t, rfl⟩ := vals1 r
  refine PySem.W.ltx_call (I.ok.hd hc) hz fun h' tk acc c' hk e' hi => ?_
  have rv : Vals (signsV z) acc.toList := by
    refine vals_of_at ?_ fun j y w h1 h2 => ?_
    · rw [signsV_len, Array.length_toList, hi.1]
      rfl
    · obtain ⟨c, tt, hcx, rfl⟩ := hi.2 j w (by rw [← Array.getElem?_toList]; exact h2)
      have e1 : (signsV z)[j]? = some (.str ⟨#[c]⟩) := by
        unfold signsV
        rw [List.getElem?_map, Array.getElem?_toList, hcx]
        rfl
      have e2 : y = .str ⟨#[c]⟩ := Option.some.inj (h1.symm.trans e1)
      subst e2
      exact ⟨tt, rfl⟩
  refine ⟨.ref s.heap.objs.size, upd H s.heap.objs.size (.lst (signsV z)), I.laid hk (Nat.le_refl _) (show ObjOk X.prog X.w _ _ _ (.lst (signsV z)) from ⟨?_, acc.toList, c', rv, ?_⟩), rfl, q _ (I.hok.fresh (Nat.le_refl _))⟩
  · rw [signsV_len]
    exact hz
  · rw [Array.toArray_toList]
    exact e'
end L2
end

section
set_option Elab.async false
set_option linter.all false
set_option maxRecDepth 100000
set_option maxHeartbeats 4000000
/-! loops and comprehensions over a text; what a reading evaluates to, further -/
namespace Evl
open PySem PySem.Spec PyProof.Rows L2
section
variable {g : TG} {tb : TS} {D : Ends} {σ : L2.St} {H : Hp} {z : Str}
theorem for_text (Pv : Nat → L2.St → Hp → Prop) (h0 : Pv 0 σ H)
    (hs : ∀ i c σ' H', z.cps[i]? = some c → Pv i σ' H' → g (.str ⟨#[c]⟩) σ' H' fun σ2 H2 => tb { D with nx := Pv (i + 1), ct := Pv (i + 1), bk := D.nx } σ2 H2) (hd : ∀ σ' H', Pv z.cps.size σ' H' → D.nx σ' H') :
    ∃ W : Nat → Nat → L2.St → Hp → Prop, (∃ m, W 0 m σ H) ∧ ∀ i m σ H, W i m σ H →
      ((Its z).stop i H ∧ D.nx σ H) ∨ ((Its z).go i H ∧ ∃ N : L2.St → Hp → Prop, (∀ σ' H', N σ' H' → ∃ m', m' < m ∧ W (i + 1) m' σ' H') ∧ ∀ x H', (Its z).yld i H x H' → g x σ H' fun σ2 H2 => tb { D with nx := N, ct := N, bk := D.nx } σ2 H2) := by
  refine ⟨fun i m σ H => m = z.cps.size - i ∧ i ≤ z.cps.size ∧ Pv i σ H, ⟨z.cps.size, by simp, Nat.zero_le _, h0⟩, ?_⟩
  rintro i m σ' H' ⟨rfl, hi, p⟩
  by_cases hlt : i < z.cps.size
  · refine .inr ⟨hlt, Pv (i + 1), fun σ2 H2 p' => ⟨z.cps.size - (i + 1), by omega, rfl, hlt, p'⟩, fun x H2 y => ?_⟩
    obtain ⟨e, c, hc, ex⟩ := y
    subst e
    subst ex
    exact hs i c σ' _ hc p
  · have e : i = z.cps.size := by omega
    subst e
    exact .inl ⟨Nat.le_refl _, hd σ' H' p⟩
theorem lc_text {tt : TT} {te : TE} {vs : List Nat} {H1 : Hp} {Dl : Addr} {Qd : Hp → Prop} (Pv : Nat → Hp → Prop) (h0 : Pv 0 (upd H1 Dl (.lst [])))
    (hs : ∀ i c H, z.cps[i]? = some c → Pv i H → g (.str ⟨#[c]⟩) (wipe σ vs) H fun σ2 H2 => wipe σ2 vs = wipe σ vs ∧ tt σ2 H2 fun b H3 =>
      if b = true then te σ2 H3 fun y H4 => ∃ acc, H4 Dl = some (.lst acc) ∧ acc.length < sizeLine ∧ Pv (i + 1) (upd H4 Dl (.lst (acc ++ [y]))) else Pv (i + 1) H3) (hd : ∀ H, Pv z.cps.size H → Qd H) :
    ∃ W : Nat → Nat → Hp → Prop, (∃ m, W 0 m (upd H1 Dl (.lst []))) ∧ ∀ i m H, W i m H →
      ((Its z).stop i H ∧ Qd H) ∨ ((Its z).go i H ∧ ∃ Nx : Hp → Prop, (∀ H', Nx H' → ∃ m', m' < m ∧ W (i + 1) m' H') ∧ ∀ x H', (Its z).yld i H x H' → g x (wipe σ vs) H' fun σ2 H2 => wipe σ2 vs = wipe σ vs ∧ tt σ2 H2 fun b H3 =>
        if b = true then te σ2 H3 fun y H4 => ∃ acc, H4 Dl = some (.lst acc) ∧ acc.length < sizeLine ∧ Nx (upd H4 Dl (.lst (acc ++ [y]))) else Nx H3) := by
  refine ⟨fun i m H => m = z.cps.size - i ∧ i ≤ z.cps.size ∧ Pv i H, ⟨z.cps.size, by simp, Nat.zero_le _, h0⟩, ?_⟩
  rintro i m H ⟨rfl, hi, p⟩
  by_cases hlt : i < z.cps.size
  · refine .inr ⟨hlt, Pv (i + 1), fun H' p' => ⟨z.cps.size - (i + 1), by omega, rfl, hlt, p'⟩, fun x H' y => ?_⟩
    obtain ⟨e, c, hc, ex⟩ := y
    subst e
    subst ex
    exact hs i c _ hc p
  · have e : i = z.cps.size := by omega
    subst e
    exact .inl ⟨Nat.le_refl _, hd H p⟩
end
section
variable {σ : L2.St} {H : Hp} {te : TE} {t : TT} {D : Ends} {tu tz : TS} {g : TG}
/-- [e for c in z if ..] -/
theorem el_lcS {z : Str} {tl : TE} {j : Nat} {vs : List Nat} (f : Nat → Bool) (v : Nat → V) (h : Ev tl σ H (.str z)) (hz : z.length ≤ 40000) (hw : ∀ x, wipe ((wipe σ vs).set j (some x)) vs = wipe σ vs)
    (ht : ∀ (i c : Nat) H1, Ex H H1 → z.cps[i]? = some c → EvT t ((wipe σ vs).set j (some (.str ⟨#[c]⟩))) H1 (f i)) (he : ∀ (i c : Nat) H1, Ex H H1 → z.cps[i]? = some c → f i = true → Ev te ((wipe σ vs).set j (some (.str ⟨#[c]⟩))) H1 (v i)) :
    EvL (tLc (iStr tl) (gName j) t te vs) σ H (given z.cps.size f v) := fun H0 e Q q => h H0 e _ fun H1 e1 => ⟨z, rfl, fun Dl hD =>
  lc_text (z := z) (Cw H1 f v Dl) ⟨hD, Ex.new hD, upd_same⟩ (fun i c H' hi p => ⟨hw _, cw_turn p (by have h1 := (Array.getElem?_eq_some_iff.mp hi).1; have h2 : z.cps.size ≤ 40000 := hz; omega) (ht i c H1 (e.trans e1) hi) (fun hf => he i c H1 (e.trans e1) hi hf)⟩)
    (fun H' p => q Dl H' (fresh_back e1 p.1) (e1.trans p.2.1) p.2.2)⟩
theorem s_forS {z : Str} {tl : TE} {j : Nat} (h : Ev tl σ H (.str z)) (Pv : Nat → L2.St → Hp → Prop) (h0 : ∀ H1, Ex H H1 → Pv 0 σ H1)
    (hs : ∀ i c σ' H', z.cps[i]? = some c → Pv i σ' H' → tu { D with nx := Pv (i + 1), ct := Pv (i + 1), bk := D.nx } (σ'.set j (some (.str ⟨#[c]⟩))) H') (hd : ∀ σ' H', Pv z.cps.size σ' H' → D.nx σ' H') : tFor (iStr tl) (gName j) tu D σ H :=
  h H (Ex.refl H) _ fun H1 e => ⟨z, rfl, for_text Pv (h0 H1 e) hs hd⟩
theorem q_forS {z : Str} {tl : TE} {j : Nat} (h : Ev tl σ H (.str z)) (Pv : Nat → L2.St → Hp → Prop) (h0 : ∀ H1, Ex H H1 → Pv 0 σ H1)
    (hs : ∀ i c σ' H', z.cps[i]? = some c → Pv i σ' H' → tu { D with nx := Pv (i + 1), ct := Pv (i + 1), bk := tz D } (σ'.set j (some (.str ⟨#[c]⟩))) H') (hd : ∀ σ' H', Pv z.cps.size σ' H' → tz D σ' H') : tSeq (tFor (iStr tl) (gName j) tu) tz D σ H :=
  s_forS (D := { D with nx := tz D }) h Pv h0 hs hd
variable {ta tb tc : TE} {x y v : V} {K : PySem.W.Frag}
theorem et_yes : EvT tYes σ H true := fun H1 _ _ q => q H1 (Ex.refl H1)
/-- text + text; the order of texts; a sign in a text -/
theorem ev_addS {a b : Str} (ha : Ev ta σ H (.str a)) (hb : Ev tb σ H (.str b)) (hz : a.length + b.length ≤ 100000) : Ev (tOp (fun x y H Q => ∃ i j, x = .str i ∧ y = .str j ∧ i.length + j.length ≤ sizeLine ∧ Q (.str (i ++ j)) H) ta tb) σ H (.str (a ++ b)) :=
  ev_op ha hb fun H1 _ _ q => ⟨a, b, rfl, rfl, sz_of hz, q H1 (Ex.refl H1)⟩
theorem ev_lenS {z : Str} (h : Ev te σ H (.str z)) (hz : z.length ≤ 100000) : Ev (tCB (fun xs H Q => ∃ z : Str, xs = [.str z] ∧ z.length ≤ sizeLine ∧ Q (.int z.length) H) (tCons te tNil)) σ H (.int z.length) := fun H1 e Q q =>
  h H1 e _ fun H2 e2 => ⟨z, rfl, sz_of hz, q H2 e2⟩
theorem ev_all {xs : List V} (bs : List Bool) (h : EvL te σ H xs) (hb : xs = bs.map V.bl) : Ev (tCB (rAll K) (tCons te tNil)) σ H (.bl (bs.all id)) := fun H1 e Q q =>
  h H1 e _ fun p H2 hp e2 h2 => ⟨p, bs, rfl, sq_of (by rw [h2, hb]), q H2 e2⟩
end

section
variable {σ : L2.St} {H : Hp} {te ta tb tc : TE} {t : TT} {D : Ends} {tu tz : TS} {g : TG} {x y v z : V} {K : PySem.W.Frag}
/-- int(n), int(flag) -/
def rInt1 : List V → Hp → VK → Prop := fun xs H Q => (∃ i, xs = [.int i] ∧ Q (.int i) H) ∨ ∃ k, xs = [.bl k] ∧ Q (.int (if k then 1 else 0)) H
theorem ev_int1 {i : Int} (h : Ev te σ H (.int i)) : Ev (tCB rInt1 (tCons te tNil)) σ H (.int i) := fun H1 e Q q => h H1 e _ fun H2 e2 => Or.inl ⟨i, rfl, q H2 e2⟩
theorem ev_intB {b : Bool} (h : Ev te σ H (.bl b)) : Ev (tCB rInt1 (tCons te tNil)) σ H (.int (if b then 1 else 0)) := fun H1 e Q q => h H1 e _ fun H2 e2 => Or.inr ⟨b, rfl, q H2 e2⟩
/-- by values -/
def rAddT : R2 := fun x y H Q => ∃ i j, x = .str i ∧ y = .str j ∧ i.length + j.length ≤ sizeLine ∧ Q (.str (i ++ j)) H
def rInSg : R2 := fun x y H Q => ∃ (c : Nat) (z : Str), x = .str ⟨#[c]⟩ ∧ y = .str z ∧ Q (.bl (decide (c ∈ z.cps.toList))) H
def rNiSg : R2 := fun x y H Q => ∃ (c : Nat) (z : Str), x = .str ⟨#[c]⟩ ∧ y = .str z ∧ Q (.bl (!decide (c ∈ z.cps.toList))) H
def rLtS : R2 := fun x y H Q => ∃ i j, x = .str i ∧ y = .str j ∧ Q (.bl (decide (i.cps.toList < j.cps.toList))) H
theorem rv_addT {a b : Str} (hz : a.length + b.length ≤ 100000) : RV rAddT (.str a) (.str b) H (.str (a ++ b)) := fun H1 _ _ q => ⟨a, b, rfl, rfl, sz_of hz, q H1 (Ex.refl H1)⟩
theorem rv_inSg {c : Nat} {z : Str} : RV rInSg (.str ⟨#[c]⟩) (.str z) H (.bl (decide (c ∈ z.cps.toList))) := fun H1 _ _ q => ⟨c, z, rfl, rfl, q H1 (Ex.refl H1)⟩
theorem rv_niSg {c : Nat} {z : Str} : RV rNiSg (.str ⟨#[c]⟩) (.str z) H (.bl (!decide (c ∈ z.cps.toList))) := fun H1 _ _ q => ⟨c, z, rfl, rfl, q H1 (Ex.refl H1)⟩
theorem rv_ltS {a b : Str} : RV rLtS (.str a) (.str b) H (.bl (decide (a.cps.toList < b.cps.toList))) := fun H1 _ _ q => ⟨a, b, rfl, rfl, q H1 (Ex.refl H1)⟩
theorem rv_mulS {a : Str} {n : Nat} (hn : n ≤ 1000) (hz : a.length ≤ 10000) : RV rMulS (.str a) (.int (n : Int)) H (.str (repS a n)) := fun H1 _ _ q => ⟨a, n, rfl, rfl, hn, hz, q H1 (Ex.refl H1)⟩
theorem ev_chain {r r' : R2} {b1 b2 : Bool} (ha : Ev ta σ H x) (hb : Ev tb σ H y) (hr : RV r x y H (.bl b1)) (hc : Ev tc σ H z) (hr2 : RV r' y z H (.bl b2)) : Ev (tChain r r' ta tb tc) σ H (.bl (b1 && b2)) := fun H1 e Q q => by
  refine ha H1 e _ fun H2 e2 => hb H2 (e.trans e2) _ fun H3 e3 => hr H3 ((e.trans e2).trans e3) _ fun H4 e4 => ⟨b1, rfl, ?_⟩
  cases b1 with
  | true =>
    show tc σ H4 _
    exact hc H4 (((e.trans e2).trans e3).trans e4) _ fun H5 e5 => hr2 H5 ((((e.trans e2).trans e3).trans e4).trans e5) _ fun H6 e6 => q H6 ((((e2.trans e3).trans e4).trans e5).trans e6)
  | false =>
    show Q (.bl false) H4
    exact q H4 ((e2.trans e3).trans e4)
end
section
variable {σ : L2.St} {H : Hp} {te ta tb tc : TE} {t : TT} {x y v z : V} {K : PySem.W.Frag}
/-- range(n), n perhaps below 0 -/
theorem el_lcR0 {ta : TA} {j : Nat} {vs : List Nat} {n : Int} (f : Nat → Bool) (v : Nat → V) (h : EvA ta σ H [.int n]) (hn : -100000 ≤ n ∧ n ≤ 40000) (hw : ∀ x, wipe ((wipe σ vs).set j (some x)) vs = wipe σ vs)
    (ht : ∀ (i : Nat) H1, Ex H H1 → (i : Int) < n → EvT t ((wipe σ vs).set j (some (.int (i : Int)))) H1 (f i)) (he : ∀ (i : Nat) H1, Ex H H1 → (i : Int) < n → f i = true → Ev te ((wipe σ vs).set j (some (.int (i : Int)))) H1 (v i)) :
    EvL (tLc (iRng1 ta) (gName j) t te vs) σ H (given n.toNat f v) := fun H0 e Q q => h H0 e _ fun H1 e1 => ⟨n, rfl, by omega, by omega, fun Dl hD =>
  lc_range (lo := 0) (n := n.toNat) (Cw H1 f v Dl) ⟨hD, Ex.new hD, upd_same⟩ (fun i H' hi p => by
    have e0 : (0 : Int) + (i : Int) = (i : Int) := Int.zero_add _
    show wipe ((wipe σ vs).set j (some (.int ((0 : Int) + (i : Int))))) vs = wipe σ vs ∧ t ((wipe σ vs).set j (some (.int ((0 : Int) + (i : Int))))) H' fun b H3 => if b = true then te ((wipe σ vs).set j (some (.int ((0 : Int) + (i : Int))))) H3 fun y H4 => ∃ acc, H4 Dl = some (.lst acc) ∧ acc.length < sizeLine ∧ Cw H1 f v Dl (i + 1) (upd H4 Dl (.lst (acc ++ [y]))) else Cw H1 f v Dl (i + 1) H3
    rw [e0]
    exact ⟨hw _, cw_turn p (by omega) (ht i H1 (e.trans e1) (by omega)) (fun hf => he i H1 (e.trans e1) (by omega) hf)⟩) (fun H' p => q Dl H' (fresh_back e1 p.1) (e1.trans p.2.1) p.2.2)⟩
/-- the place i of a list, told as a value -/
def vOf {α : Type} (l : List α) (g : α → V) (i : Nat) : V := match l[i]? with
  | some a => g a
  | none => .non
theorem vOf_at {α : Type} {l : List α} {g : α → V} {i : Nat} {a : α} (h : l[i]? = some a) : vOf l g i = g a := by
  unfold vOf
  rw [h]
theorem given_map {α : Type} (l : List α) (g : α → V) : given l.length (fun _ => true) (vOf l g) = l.map g := by
  unfold given
  rw [List.filter_eq_self.mpr (fun _ _ => rfl)]
  apply List.ext_getElem?
  intro i
  rw [List.getElem?_map, List.getElem?_map]
  by_cases hi : i < l.length
  · rw [List.getElem?_range hi, List.getElem?_eq_getElem hi]
    show some (vOf l g i) = some (g l[i])
    rw [vOf_at (List.getElem?_eq_getElem hi)]
  · rw [List.getElem?_eq_none (l := l) (by omega), List.getElem?_eq_none (l := List.range l.length) (by rw [List.length_range]; omega)]
    rfl
theorem given_range (n : Nat) (v : Nat → V) : given n (fun _ => true) v = (List.range n).map v := by
  unfold given
  rw [List.filter_eq_self.mpr (fun _ _ => rfl)]
theorem cps_at {z : Str} {i c : Nat} (h : z.cps[i]? = some c) : z.cps.toList[i]? = some c := by
  rw [Array.getElem?_toList]
  exact h
theorem cps_len (z : Str) : z.cps.size = z.cps.toList.length := Array.length_toList.symm
theorem ev_lenS' {z : Str} (h : Ev te σ H (.str z)) (hz : z.length ≤ 100000) : Ev (tCB (fun xs H Q => ∃ z : Str, xs = [.str z] ∧ z.length ≤ sizeLine ∧ Q (.int z.length) H) (tCons te tNil)) σ H (.int (z.length : Int)) := ev_lenS h hz
end
section
variable {σ : L2.St} {H : Hp} {te : TE} {D : Ends} {tu tz : TS}
theorem s_forR0 {ta : TA} {j : Nat} {n : Int} (h : EvA ta σ H [.int n]) (hn : -100000 ≤ n ∧ n ≤ 100000) (Pv : Nat → L2.St → Hp → Prop) (h0 : ∀ H1, Ex H H1 → Pv 0 σ H1)
    (hs : ∀ (i : Nat) σ' H', (i : Int) < n → Pv i σ' H' → tu { D with nx := Pv (i + 1), ct := Pv (i + 1), bk := D.nx } (σ'.set j (some (.int (i : Int)))) H') (hd : ∀ σ' H', Pv n.toNat σ' H' → D.nx σ' H') : tFor (iRng1 ta) (gName j) tu D σ H :=
  h H (Ex.refl H) _ fun H1 e => ⟨n, rfl, by omega, by omega, for_range (lo := 0) (n := n.toNat) Pv (h0 H1 e) (fun i σ' H' hi p => by
    have e0 : (0 : Int) + (i : Int) = (i : Int) := Int.zero_add _
    show tu { D with nx := Pv (i + 1), ct := Pv (i + 1), bk := D.nx } (σ'.set j (some (.int ((0 : Int) + (i : Int))))) H'
    rw [e0]
    exact hs i σ' H' (by omega) p) hd⟩
theorem q_forR0 {ta : TA} {j : Nat} {n : Int} (h : EvA ta σ H [.int n]) (hn : -100000 ≤ n ∧ n ≤ 100000) (Pv : Nat → L2.St → Hp → Prop) (h0 : ∀ H1, Ex H H1 → Pv 0 σ H1)
    (hs : ∀ (i : Nat) σ' H', (i : Int) < n → Pv i σ' H' → tu { D with nx := Pv (i + 1), ct := Pv (i + 1), bk := tz D } (σ'.set j (some (.int (i : Int)))) H') (hd : ∀ σ' H', Pv n.toNat σ' H' → tz D σ' H') : tSeq (tFor (iRng1 ta) (gName j) tu) tz D σ H :=
  s_forR0 (D := { D with nx := tz D }) h hn Pv h0 hs hd
end
/-! ### texts -/
theorem str_ext {a b : Str} (h : a.cps.toList = b.cps.toList) : a = b := by
  obtain ⟨x⟩ := a
  obtain ⟨y⟩ := b
  congr 1
  exact Array.toList_inj.mp h
theorem cps_append (a b : Str) : (a ++ b).cps.toList = a.cps.toList ++ b.cps.toList := TL.tl_append a b
theorem joinL_none : ∀ ps : List (List Nat), TL.joinL [] ps = ps.flatten
  | [] => rfl
  | [p] => by simp [TL.joinL]
  | p :: q :: r => by
    show p ++ ([] ++ TL.joinL [] (q :: r)) = _
    rw [joinL_none (q :: r)]
    simp
theorem join_signs (l : List Nat) : PySem.Txt.join "" (l.map fun c => (⟨#[c]⟩ : Str)) = ⟨l.toArray⟩ := by
  apply str_ext
  rw [TL.join_eq]
  have h := TL.tl_join ("" : Str) (l.map fun c => (⟨#[c]⟩ : Str))
  refine h.trans ?_
  clear h
  rw [show TL.tl ("" : Str) = [] from rfl, joinL_none, List.map_map]
  induction l with
  | nil => rfl
  | cons a r ih =>
    rw [List.map_cons, List.flatten_cons, ih]
    rfl
theorem find_no {z : Str} {c : Nat} (h : c ∉ z.cps.toList) : PySem.Txt.find z ⟨#[c]⟩ = -1 := by
  have e := PySem.StrLaws.found_one z c
  rw [decide_eq_false h] at e
  unfold PySem.Txt.find
  cases q : PySem.Builtin.Str.occurrences z ⟨#[c]⟩ 0 z.length 1 with
  | nil => rfl
  | cons i r =>
    rw [q] at e
    cases e
theorem find_yes {z : Str} {c : Nat} (h : c ∈ z.cps.toList) : ∃ k : Nat, PySem.Txt.find z ⟨#[c]⟩ = (k : Int) ∧ k < z.length := by
  have e := PySem.StrLaws.found_one z c
  rw [decide_eq_true h] at e
  unfold PySem.Txt.find
  cases q : PySem.Builtin.Str.occurrences z ⟨#[c]⟩ 0 z.length 1 with
  | nil =>
    rw [q] at e
    cases e
  | cons i r =>
    have h2 := (PySem.StrLaws.occ_spec z ⟨#[c]⟩ 0 z.length 1 i (by rw [q]; exact List.mem_cons_self)).1
    have h3 : i + 1 ≤ z.length := h2
    exact ⟨i, rfl, by omega⟩
end Evl
end

section
set_option Elab.async false
set_option linter.all false
set_option maxRecDepth 100000
set_option maxHeartbeats 4000000
namespace K0
open PySem PySem.Spec PyProof.Rows L2
def topS (i : Nat) : Stmt := PySem.Challenge.pw_stillgrows_k00_words_and_their_refusals.main.body.getD i (.Pass ⟨0, 0, 0, 0⟩)
abbrev s_is_letters : Stmt := topS 8
abbrev N_is_letters : List Str := ["text", "sign"]
theorem sc_is_letters : FnScope N_is_letters ["text"] (defScope s_is_letters) := ⟨rfl, rfl, rfl, by decide +kernel, rfl, by decide +kernel, by decide +kernel⟩

abbrev s_check_signs : Stmt := topS 9
abbrev N_check_signs : List Str := ["signs", "ascending", "k"]
theorem sc_check_signs : FnScope N_check_signs ["signs"] (defScope s_check_signs) := ⟨rfl, rfl, rfl, by decide +kernel, rfl, by decide +kernel, by decide +kernel⟩

abbrev s_is_group : Stmt := topS 10
abbrev N_is_group : List Str := ["text"]
theorem sc_is_group : FnScope N_is_group ["text"] (defScope s_is_group) := ⟨rfl, rfl, rfl, by decide +kernel, rfl, by decide +kernel, by decide +kernel⟩

abbrev s_check_group : Stmt := topS 11
abbrev N_check_group : List Str := ["group"]
theorem sc_check_group : FnScope N_check_group ["group"] (defScope s_check_group) := ⟨rfl, rfl, rfl, by decide +kernel, rfl, by decide +kernel, by decide +kernel⟩

abbrev s_check_row : Stmt := topS 12
abbrev N_check_row : List Str := ["row", "signs", "sign"]
theorem sc_check_row : FnScope N_check_row ["row", "signs"] (defScope s_check_row) := ⟨rfl, rfl, rfl, by decide +kernel, rfl, by decide +kernel, by decide +kernel⟩

abbrev s_turned : Stmt := topS 13
abbrev N_turned : List Str := ["row"]
theorem sc_turned : FnScope N_turned ["row"] (defScope s_turned) := ⟨rfl, rfl, rfl, by decide +kernel, rfl, by decide +kernel, by decide +kernel⟩

abbrev s_renamed : Stmt := topS 14
abbrev N_renamed : List Str := ["row", "old", "new", "sign"]
theorem sc_renamed : FnScope N_renamed ["row", "old", "new"] (defScope s_renamed) := ⟨rfl, rfl, rfl, by decide +kernel, rfl, by decide +kernel, by decide +kernel⟩

abbrev s_rows_up_to : Stmt := topS 15
abbrev N_rows_up_to : List Str := ["signs", "longest", "level", "_", "row", "sign"]
theorem sc_rows_up_to : GScope N_rows_up_to ["signs", "longest"] (defScope s_rows_up_to) := ⟨rfl, rfl, rfl, by decide +kernel, rfl, by decide +kernel, by decide +kernel⟩

abbrev s_l_new : Stmt := topS 17
abbrev N_l_new : List Str := ["_law_script"]
theorem sc_l_new : FnScope N_l_new ["_law_script"] (defScope s_l_new) := ⟨rfl, rfl, rfl, by decide +kernel, rfl, by decide +kernel, by decide +kernel⟩

abbrev s_l_draw : Stmt := topS 18
abbrev N_l_draw : List Str := ["_law_state", "_law_many", "_law_cell", "_law_digit"]
theorem sc_l_draw : FnScope N_l_draw ["_law_state", "_law_many"] (defScope s_l_draw) := ⟨rfl, rfl, rfl, by decide +kernel, rfl, by decide +kernel, by decide +kernel⟩

abbrev s_l_same : Stmt := topS 19
abbrev N_l_same : List Str := ["_law_actual", "_law_due", "_law_k"]
theorem sc_l_same : FnScope N_l_same ["_law_actual", "_law_due"] (defScope s_l_same) := ⟨rfl, rfl, rfl, by decide +kernel, rfl, by decide +kernel, by decide +kernel⟩

abbrev s_l_signs : Stmt := topS 20
abbrev N_l_signs : List Str := ["_law_state", "_law_top", "_law_small", "_law_count", "_law_at", "_law_signs_here", "_law_k"]
theorem sc_l_signs : FnScope N_l_signs ["_law_state", "_law_top"] (defScope s_l_signs) := ⟨rfl, rfl, rfl, by decide +kernel, rfl, by decide +kernel, by decide +kernel⟩

abbrev s_l_word : Stmt := topS 21
abbrev N_l_word : List Str := ["_law_state", "_law_signs_here", "_law_least", "_law_top", "_law_row", "_law_k"]
theorem sc_l_word : FnScope N_l_word ["_law_state", "_law_signs_here", "_law_least", "_law_top"] (defScope s_l_word) := ⟨rfl, rfl, rfl, by decide +kernel, rfl, by decide +kernel, by decide +kernel⟩

abbrev s_l_rows : Stmt := topS 22
abbrev N_l_rows : List Str := ["_law_signs_here", "_law_top", "_law_found", "_law_level", "_law_k", "_law_longer", "_law_row", "_law_sign"]
theorem sc_l_rows : FnScope N_l_rows ["_law_signs_here", "_law_top"] (defScope s_l_rows) := ⟨rfl, rfl, rfl, by decide +kernel, rfl, by decide +kernel, by decide +kernel⟩

abbrev s_l_renamed : Stmt := topS 23
abbrev N_l_renamed : List Str := ["_law_row", "_law_old", "_law_new_here", "_law_out", "_law_sign", "_law_at"]
theorem sc_l_renamed : FnScope N_l_renamed ["_law_row", "_law_old", "_law_new_here"] (defScope s_l_renamed) := ⟨rfl, rfl, rfl, by decide +kernel, rfl, by decide +kernel, by decide +kernel⟩

abbrev s_l_char : Stmt := topS 24
abbrev N_l_char : List Str := ["_law_state", "_law_small", "_law_other"]
theorem sc_l_char : FnScope N_l_char ["_law_state"] (defScope s_l_char) := ⟨rfl, rfl, rfl, by decide +kernel, rfl, by decide +kernel, by decide +kernel⟩

abbrev s_l_bent : Stmt := topS 25
abbrev N_l_bent : List Str := ["_law_state", "_law_text", "_law_way", "_law_at"]
theorem sc_l_bent : FnScope N_l_bent ["_law_state", "_law_text"] (defScope s_l_bent) := ⟨rfl, rfl, rfl, by decide +kernel, rfl, by decide +kernel, by decide +kernel⟩

abbrev s_l_unlike : Stmt := topS 26
abbrev N_l_unlike : List Str := ["_law_state", "_law_pool", "_law_count", "_law_left", "_law_out", "_law_k"]
theorem sc_l_unlike : FnScope N_l_unlike ["_law_state", "_law_pool", "_law_count"] (defScope s_l_unlike) := ⟨rfl, rfl, rfl, by decide +kernel, rfl, by decide +kernel, by decide +kernel⟩

abbrev s_l_is_group : Stmt := topS 27
abbrev N_l_is_group : List Str := ["_law_text", "_law_char_here"]
theorem sc_l_is_group : FnScope N_l_is_group ["_law_text"] (defScope s_l_is_group) := ⟨rfl, rfl, rfl, by decide +kernel, rfl, by decide +kernel, by decide +kernel⟩

abbrev s_l_is_alphabet : Stmt := topS 28
abbrev N_l_is_alphabet : List Str := ["_law_text", "_law_k"]
theorem sc_l_is_alphabet : FnScope N_l_is_alphabet ["_law_text"] (defScope s_l_is_alphabet) := ⟨rfl, rfl, rfl, by decide +kernel, rfl, by decide +kernel, by decide +kernel⟩

abbrev s_l_strange : Stmt := topS 29
abbrev N_l_strange : List Str := ["_law_row", "_law_signs_here", "_law_char_here"]
theorem sc_l_strange : FnScope N_l_strange ["_law_row", "_law_signs_here"] (defScope s_l_strange) := ⟨rfl, rfl, rfl, by decide +kernel, rfl, by decide +kernel, by decide +kernel⟩

abbrev s_l_signs_told : Stmt := topS 30
abbrev N_l_signs_told : List Str := ["_law_text", "error"]
theorem sc_l_signs_told : FnScope N_l_signs_told ["_law_text"] (defScope s_l_signs_told) := ⟨rfl, rfl, rfl, by decide +kernel, rfl, by decide +kernel, by decide +kernel⟩

abbrev s_l_group_told : Stmt := topS 31
abbrev N_l_group_told : List Str := ["_law_text", "error"]
theorem sc_l_group_told : FnScope N_l_group_told ["_law_text"] (defScope s_l_group_told) := ⟨rfl, rfl, rfl, by decide +kernel, rfl, by decide +kernel, by decide +kernel⟩

abbrev s_l_row_told : Stmt := topS 32
abbrev N_l_row_told : List Str := ["_law_row", "_law_signs_here", "error"]
theorem sc_l_row_told : FnScope N_l_row_told ["_law_row", "_law_signs_here"] (defScope s_l_row_told) := ⟨rfl, rfl, rfl, by decide +kernel, rfl, by decide +kernel, by decide +kernel⟩

abbrev s_l_raised : Stmt := topS 33
abbrev N_l_raised : List Str := ["_law_value", "error"]
theorem sc_l_raised : FnScope N_l_raised ["_law_value"] (defScope s_l_raised) := ⟨rfl, rfl, rfl, by decide +kernel, rfl, by decide +kernel, by decide +kernel⟩

abbrev s_l_texts_kept : Stmt := topS 34
abbrev N_l_texts_kept : List Str := ["_law_texts", "_law_text", "_law_due"]
theorem sc_l_texts_kept : FnScope N_l_texts_kept ["_law_texts"] (defScope s_l_texts_kept) := ⟨rfl, rfl, rfl, by decide +kernel, rfl, by decide +kernel, by decide +kernel⟩

abbrev s_l_rows_kept : Stmt := topS 35
abbrev N_l_rows_kept : List Str := ["_law_rows_here", "_law_signs_here", "_law_row", "_law_due", "_law_strange_here"]
theorem sc_l_rows_kept : FnScope N_l_rows_kept ["_law_rows_here", "_law_signs_here"] (defScope s_l_rows_kept) := ⟨rfl, rfl, rfl, by decide +kernel, rfl, by decide +kernel, by decide +kernel⟩

abbrev s_l_row_changed : Stmt := topS 36
abbrev N_l_row_changed : List Str := ["_law_row", "_law_old", "_law_new_here", "_law_back", "_law_k"]
theorem sc_l_row_changed : FnScope N_l_row_changed ["_law_row", "_law_old", "_law_new_here"] (defScope s_l_row_changed) := ⟨rfl, rfl, rfl, by decide +kernel, rfl, by decide +kernel, by decide +kernel⟩

abbrev s_law : Stmt := topS 37
abbrev N_law : List Str := ["_law_script", "_law_state", "_law_letters", "_law_pool", "_law_count", "_law_old", "_law_new_here", "_law_row", "_law_signs_here", "_law_length", "_law_top", "_law_word_here", "_law_spare", "_law_bent_here", "_law_rows_here", "_law_texts", "_law_sign"]
theorem sc_law : FnScope N_law ["_law_script"] (defScope s_law) := ⟨rfl, rfl, rfl, by decide +kernel, rfl, by decide +kernel, by decide +kernel⟩

structure DefT (K : PySem.W.Frag) (mg : Str → Option Value) (x : Str) (st : Stmt) (ps : List Str) where
  f : Addr
  fd : FuncData
  F : Fun K x x st f fd
  B : Binds K fd ps []
  g : mg x = some (.ref f)
structure Tx (prog : Program) (K : PySem.W.Frag) (mg : Str → Option Value) where
  is_letters : DefT K mg "is_letters" s_is_letters ["text"]
  check_signs : DefT K mg "check_signs" s_check_signs ["signs"]
  is_group : DefT K mg "is_group" s_is_group ["text"]
  check_group : DefT K mg "check_group" s_check_group ["group"]
  check_row : DefT K mg "check_row" s_check_row ["row", "signs"]
  turned : DefT K mg "turned" s_turned ["row"]
  renamed : DefT K mg "renamed" s_renamed ["row", "old", "new"]
  rows_up_to : DefT K mg "rows_up_to" s_rows_up_to ["signs", "longest"]
  l_new : DefT K mg "_law_new" s_l_new ["_law_script"]
  l_draw : DefT K mg "_law_draw" s_l_draw ["_law_state", "_law_many"]
  l_same : DefT K mg "_law_same" s_l_same ["_law_actual", "_law_due"]
  l_signs : DefT K mg "_law_signs" s_l_signs ["_law_state", "_law_top"]
  l_word : DefT K mg "_law_word" s_l_word ["_law_state", "_law_signs_here", "_law_least", "_law_top"]
  l_rows : DefT K mg "_law_rows" s_l_rows ["_law_signs_here", "_law_top"]
  l_renamed : DefT K mg "_law_renamed" s_l_renamed ["_law_row", "_law_old", "_law_new_here"]
  l_char : DefT K mg "_law_char" s_l_char ["_law_state"]
  l_bent : DefT K mg "_law_bent" s_l_bent ["_law_state", "_law_text"]
  l_unlike : DefT K mg "_law_unlike" s_l_unlike ["_law_state", "_law_pool", "_law_count"]
  l_is_group : DefT K mg "_law_is_group" s_l_is_group ["_law_text"]
  l_is_alphabet : DefT K mg "_law_is_alphabet" s_l_is_alphabet ["_law_text"]
  l_strange : DefT K mg "_law_strange" s_l_strange ["_law_row", "_law_signs_here"]
  l_signs_told : DefT K mg "_law_signs_told" s_l_signs_told ["_law_text"]
  l_group_told : DefT K mg "_law_group_told" s_l_group_told ["_law_text"]
  l_row_told : DefT K mg "_law_row_told" s_l_row_told ["_law_row", "_law_signs_here"]
  l_raised : DefT K mg "_law_raised" s_l_raised ["_law_value"]
  l_texts_kept : DefT K mg "_law_texts_kept" s_l_texts_kept ["_law_texts"]
  l_rows_kept : DefT K mg "_law_rows_kept" s_l_rows_kept ["_law_rows_here", "_law_signs_here"]
  l_row_changed : DefT K mg "_law_row_changed" s_l_row_changed ["_law_row", "_law_old", "_law_new_here"]
  law : DefT K mg "law" s_law ["_law_script"]
  b_all : mg "all" = none
  b_bool : mg "bool" = none
  b_int : mg "int" = none
  b_isinstance : mg "isinstance" = none
  b_len : mg "len" = none
  b_list : mg "list" = none
  b_range : mg "range" = none
  b_str : mg "str" = none
  b_tuple : mg "tuple" = none
  b_ValueError : mg "ValueError" = none
  g_LETTERS : ∃ t, mg "LETTERS" = some (.str "abcdefghijklmnopqrstuvwxyz" t)
  g_MOST_SIGNS : ∃ t, mg "MOST_SIGNS" = some (.int 4 t)
  a_GrowsError : Addr
  g_GrowsError : mg "GrowsError" = some (.ref a_GrowsError)
  fI : Addr
  base : PySem.GrX.BaseT prog K a_GrowsError fI
  o_GrowsError : PySem.GrX.OwnT K a_GrowsError fI a_GrowsError
  a_InvalidSigns : Addr
  g_InvalidSigns : mg "InvalidSigns" = some (.ref a_InvalidSigns)
  o_InvalidSigns : PySem.GrX.OwnT K a_GrowsError fI a_InvalidSigns
  a_UnknownSign : Addr
  g_UnknownSign : mg "UnknownSign" = some (.ref a_UnknownSign)
  o_UnknownSign : PySem.GrX.OwnT K a_GrowsError fI a_UnknownSign
  a_InvalidGroup : Addr
  g_InvalidGroup : mg "InvalidGroup" = some (.ref a_InvalidGroup)
  o_InvalidGroup : PySem.GrX.OwnT K a_GrowsError fI a_InvalidGroup
  x_GrowsError : ExcC K a_GrowsError
  f_GrowsError : XfC K a_GrowsError
  m_GrowsError : PySem.W.exmOne K (.ref a_GrowsError) (.ref a_GrowsError) = some true
  v_GrowsError : PySem.W.kitOne K (.ref a_GrowsError) (.type "ValueError") = some true
  k_GrowsError_InvalidSigns : PySem.W.kitOne K (.ref a_GrowsError) (.ref a_InvalidSigns) = some false
  k_GrowsError_UnknownSign : PySem.W.kitOne K (.ref a_GrowsError) (.ref a_UnknownSign) = some false
  k_GrowsError_InvalidGroup : PySem.W.kitOne K (.ref a_GrowsError) (.ref a_InvalidGroup) = some false
  x_InvalidSigns : ExcC K a_InvalidSigns
  f_InvalidSigns : XfC K a_InvalidSigns
  m_InvalidSigns : PySem.W.exmOne K (.ref a_InvalidSigns) (.ref a_GrowsError) = some true
  v_InvalidSigns : PySem.W.kitOne K (.ref a_InvalidSigns) (.type "ValueError") = some true
  k_InvalidSigns_InvalidSigns : PySem.W.kitOne K (.ref a_InvalidSigns) (.ref a_InvalidSigns) = some true
  k_InvalidSigns_UnknownSign : PySem.W.kitOne K (.ref a_InvalidSigns) (.ref a_UnknownSign) = some false
  k_InvalidSigns_InvalidGroup : PySem.W.kitOne K (.ref a_InvalidSigns) (.ref a_InvalidGroup) = some false
  x_UnknownSign : ExcC K a_UnknownSign
  f_UnknownSign : XfC K a_UnknownSign
  m_UnknownSign : PySem.W.exmOne K (.ref a_UnknownSign) (.ref a_GrowsError) = some true
  v_UnknownSign : PySem.W.kitOne K (.ref a_UnknownSign) (.type "ValueError") = some true
  k_UnknownSign_InvalidSigns : PySem.W.kitOne K (.ref a_UnknownSign) (.ref a_InvalidSigns) = some false
  k_UnknownSign_UnknownSign : PySem.W.kitOne K (.ref a_UnknownSign) (.ref a_UnknownSign) = some true
  k_UnknownSign_InvalidGroup : PySem.W.kitOne K (.ref a_UnknownSign) (.ref a_InvalidGroup) = some false
  x_InvalidGroup : ExcC K a_InvalidGroup
  f_InvalidGroup : XfC K a_InvalidGroup
  m_InvalidGroup : PySem.W.exmOne K (.ref a_InvalidGroup) (.ref a_GrowsError) = some true
  v_InvalidGroup : PySem.W.kitOne K (.ref a_InvalidGroup) (.type "ValueError") = some true
  k_InvalidGroup_InvalidSigns : PySem.W.kitOne K (.ref a_InvalidGroup) (.ref a_InvalidSigns) = some false
  k_InvalidGroup_UnknownSign : PySem.W.kitOne K (.ref a_InvalidGroup) (.ref a_UnknownSign) = some false
  k_InvalidGroup_InvalidGroup : PySem.W.kitOne K (.ref a_InvalidGroup) (.ref a_InvalidGroup) = some true
end K0
end

section
set_option Elab.async false
set_option linter.all false
set_option maxRecDepth 100000
set_option maxHeartbeats 4000000
namespace K0
open PySem PySem.Spec PyProof.Rows L2 Evl
local macro_rules | `(tactic| walk_at "rv") => `(tactic| first
  | exact rv_I0
  | (apply rv_I; first | exact (by decide) | (refine Or.inr ⟨?_, ?_⟩ <;> decide) | (refine Or.inl ⟨?_, ?_⟩ <;> decide) | (refine ⟨?_, ?_⟩ <;> first | decide | omega) | (refine ⟨?_, ?_, ?_⟩ <;> first | decide | omega) | omega | assumption)
  | (apply rv_eq; rfl)
  | (apply rv_ne; rfl)
  | (apply rv_ixL; (focus (apply sq_of; assumption)); (focus rfl))
  | exact rv_inSg
  | exact rv_niSg
  | exact rv_ltS
  | (apply rv_addT; first | assumption | omega))
local macro_rules | `(tactic| walk_at "ev") => `(tactic| first
  | exact ev_c
  | (apply ev_var; rfl)
  | assumption
  | (apply ev_op; (focus walk_at "ev"); (focus walk_at "ev"); (focus walk_at "rv"))
  | (apply ev_len; (focus walk_at "ev"); (focus (apply sq_of; assumption)))
  | (apply ev_lenS; (focus walk_at "ev"); (focus (first | assumption | omega)))
  | (apply ev_int1; (focus walk_at "ev"))
  | (apply ev_intB; (focus walk_at "ev"))
  | (apply ev_notV; (focus walk_at "ev"))
  | (apply ev_chain; (focus walk_at "ev"); (focus walk_at "ev"); (focus walk_at "rv"); (focus walk_at "ev"); (focus walk_at "rv")))
local macro_rules | `(tactic| walk_at "et") => `(tactic| first
  | (apply et_and; (focus walk_at "et"); (focus (intro _; walk_at "et")))
  | (apply et_or; (focus walk_at "et"); (focus (intro _; walk_at "et")))
  | (apply et_not; (focus walk_at "et"))
  | (apply et_test; (focus walk_at "ev"))
  | (apply et_B; (focus walk_at "ev")))
local macro_rules | `(tactic| walk_at "ea") => `(tactic| first
  | exact ea_nil
  | (apply ea_cons; (focus walk_at "ev"); (focus walk_at "ea")))
local macro_rules | `(tactic| walk_at "ev") => `(tactic| (apply ev_call; (focus walk_at "ea"); (focus walk_at "spv")))
/-- the drawing state at p -/
def DS (p : Addr) (H : Hp) : Prop := ∃ (q : Addr) (ns : List Int) (i : Nat) (b c d : Int), H p = some (.lst [.ref q, .int (i : Int), .int b, .int c, .int d]) ∧ H q = some (.lst (ns.map V.int)) ∧ ns.length ≤ 100
/-- all but the drawing state is as it was -/
def Fr (p : Addr) (H H' : Hp) : Prop := DS p H' ∧ ∀ a o, a ≠ p → H a = some o → H' a = some o
theorem Fr.refl {p : Addr} {H : Hp} (h : DS p H) : Fr p H H := ⟨h, fun _ _ _ e => e⟩
theorem Fr.trans {p : Addr} {H H1 H2 : Hp} (a : Fr p H H1) (b : Fr p H1 H2) : Fr p H H2 := ⟨b.1, fun x o n e => b.2 x o n (a.2 x o n e)⟩
theorem DS.ne {p q : Addr} {H : Hp} {ns : List Int} {i b c d : Int} (h : H p = some (.lst [.ref q, .int i, .int b, .int c, .int d])) (hq : H q = some (.lst (ns.map V.int))) : q ≠ p := fun e => by
  rw [e, h] at hq
  have e2 := Option.some.inj hq
  injection e2 with e3
  cases ns with
  | nil => cases e3
  | cons n r =>
    rw [List.map_cons] at e3
    injection e3 with e4 _
    cases e4
theorem Ex.ds {p : Addr} {H H' : Hp} (e : Ex H H') (h : DS p H) : DS p H' := by
  obtain ⟨q, ns, i, b, c, d, h1, h2, h3⟩ := h
  exact ⟨q, ns, i, b, c, d, e _ _ h1, e _ _ h2, h3⟩
theorem Ex.fr {p : Addr} {H H' : Hp} (e : Ex H H') (h : DS p H) : Fr p H H' := ⟨Ex.ds e h, fun a o _ k => e a o k⟩
theorem Fr.ds {p : Addr} {H H' : Hp} (h : Fr p H H') : DS p H' := h.1
theorem Fr.get {p : Addr} {H H' : Hp} (h : Fr p H H') {a : Addr} {o : HO} (n : a ≠ p) (e : H a = some o) : H' a = some o := h.2 a o n e
def At (p : Addr) (o : HO) (H0 H : Hp) : Prop := H p = some o ∧ ∀ a o', a ≠ p → H0 a = some o' → H a = some o'
theorem At.ex {p : Addr} {o : HO} {H0 H H1 : Hp} (h : At p o H0 H) (e : Ex H H1) : At p o H0 H1 := ⟨e _ _ h.1, fun a o' n k => e _ _ (h.2 a o' n k)⟩
theorem At.put {p : Addr} {o o2 : HO} {H0 H H1 : Hp} (h : At p o H0 H) (e : Ex H H1) : At p o2 H0 (upd H1 p o2) := ⟨upd_same, fun a o' n k => by rw [upd_ne n]; exact e _ _ (h.2 a o' n k)⟩
section
variable {K : PySem.W.Frag} {σ : L2.St} {H H0 : Hp} {te : TE} {tz : TS} {D : Ends} {p : Addr} {xs : List V} {v : V} {x : V}
theorem q_st {i : Nat} {n : Int} (j : Nat) (ys : List V) (hA : At p (.lst xs) H0 H) (hs : σ[i]? = some (some (.ref p))) (h : Ev te σ H v) (hj : Nat.blt j xs.length = true) (en : n = (j : Int)) (ey : xs.set j v = ys) (k : ∀ H1, At p (.lst ys) H0 H1 → H1 p = some (.lst ys) → tz D σ H1) :
    tSeq (tAsg te (gSub (tVar i) (tC (.int n)) rSetL)) tz D σ H := by
  subst en
  subst ey
  exact q_setL hA.1 h (ev_var hs) ev_c (Nat.le_of_ble_eq_true hj) fun H1 e1 => k _ (hA.put e1) upd_same
theorem s_st {i : Nat} {n : Int} (j : Nat) (ys : List V) (hA : At p (.lst xs) H0 H) (hs : σ[i]? = some (some (.ref p))) (h : Ev te σ H v) (hj : Nat.blt j xs.length = true) (en : n = (j : Int)) (ey : xs.set j v = ys) (k : ∀ H1, At p (.lst ys) H0 H1 → H1 p = some (.lst ys) → D.nx σ H1) :
    tAsg te (gSub (tVar i) (tC (.int n)) rSetL) D σ H := by
  subst en
  subst ey
  exact s_setL hA.1 h (ev_var hs) ev_c (Nat.le_of_ble_eq_true hj) fun H1 e1 => k _ (hA.put e1) upd_same
end
section
variable {P : Program} {w : World} {K : PySem.W.Frag} {mg : Str → Option Value} {base : Heap}
def sp_l_draw : Sp := fun vs H Q _ => ∃ (p : Addr) (m : Int), vs = [.ref p, .int m] ∧ DS p H ∧ 1 ≤ m ∧ m < 1073741824 ∧ ∀ (r : Nat) (H' : Hp), (r : Int) < m → Fr p H H' → Q (.int (r : Int)) H'
/-- what a reading of an item of the state asks -/
theorem draw_mod {x m : Int} (h : 1 ≤ m) : ∃ r : Nat, x.fmod m = (r : Int) ∧ (r : Int) < m := by
  refine ⟨(x.fmod m).toNat, ?_, ?_⟩
  · have := Int.fmod_nonneg_of_pos x (show 0 < m by omega)
    omega
  · have h1 := Int.fmod_nonneg_of_pos x (show 0 < m by omega)
    have h2 := Int.fmod_lt_of_pos x (show 0 < m by omega)
    omega
theorem ok_l_draw (T : Tx P K mg) : FnOk P w K mg base (L2.CX P w) 1 T.l_draw.f T.l_draw.fd ["_law_state", "_law_many"] sp_l_draw := by
  refine T.l_draw.F.okX sc_l_draw (fun vs H Q E h => ?_) (fun cdv A outer s H vs Q E hr h => ?_)
  · obtain ⟨p, m, rfl, _⟩ := h
    rfl
  · obtain ⟨p, m, rfl, hds, hm1, hm2, q⟩ := h
    refine ⟨_, (Evl.pss_cut (ps_if (PW.pt (pw_and (pt_cmpR op_eq (pe_ix ix_list (pv 0) pe_int (fun _ _ => rfl)) pe_int (nomark _)) (pw_and1 (pt_cmpR op_lt (pe_ix ix_list (pv 0) pe_int (fun _ _ => rfl)) (pe_callB call_len_seq (by rfl) T.b_len PySem.boot_len (pa_cons (pe_ix ix_list (pv 0) pe_int (fun _ _ => rfl)) pa_nil)) (nomark _)))))
        (pss_cons (ps_set (i := 2) sc_l_draw.nd rfl (Or.inl rfl) (pe_ix ix_list (pe_ix ix_list (pv 0) pe_int (fun _ _ => rfl)) (pe_ix ix_list (pv 0) pe_int (fun _ _ => rfl)) (fun _ _ => rfl)))
        (pss_cons (ps_asg (pe_callTy call_int1 (by rfl) T.b_int (by decide +kernel) (pa_cons (pe_cmpR op_ge (pv 2) (pe_op op_pow pe_int pe_int) (nomark _)) pa_nil)) (pg_sub (pv 0) pe_int set_list))
        (pss_cons (ps_asg pe_int (pg_sub (pv 0) pe_int set_list))
        (pss_cons (ps_asg (pe_op op_modN (pe_callTy call_int1 (by rfl) T.b_int (by decide +kernel) (pa_cons (pe_op op_add (pe_op op_mul (pv 2) pe_int) (pe_op op_mul pe_int (pe_ix ix_list (pv 0) pe_int (fun _ _ => rfl)))) pa_nil)) pe_int) (pg_sub (pv 0) pe_int set_list))
        (Evl.pss_cut (ps_if (pt_cmpR op_eq (pe_ix ix_list (pv 0) pe_int (fun _ _ => rfl)) pe_int (nomark _))
          (pss_cons (ps_asg pe_int (pg_sub (pv 0) pe_int set_list))
          (pss_one (ps_asg (pe_op op_sub (pv 2) (pe_op op_pow pe_int pe_int)) (pg_sub (pv 0) pe_int set_list)))) pss_nil)
        (pss_one (ps_asg (pe_op op_add (pe_ix ix_list (pv 0) pe_int (fun _ _ => rfl)) pe_int) (pg_sub (pv 0) pe_int set_list)))))))) pss_nil)
      (pss_cons (ps_if (pt_cmpR op_eq (pe_ix ix_list (pv 0) pe_int (fun _ _ => rfl)) pe_int (nomark _))
        (pss_one (ps_ret pe_int)) pss_nil)
      (pss_cons (ps_asg (pe_op op_sub (pe_ix ix_list (pv 0) pe_int (fun _ _ => rfl)) pe_int) (pg_sub (pv 0) pe_int set_list))
      (pss_cons (ps_if (pt_cmpR op_eq (pe_ix ix_list (pv 0) pe_int (fun _ _ => rfl)) pe_int (nomark _))
        (pss_cons (ps_set (i := 3) sc_l_draw.nd rfl (Or.inl rfl) (pe_op op_modN (pe_callTy call_int1 (by rfl) T.b_int (by decide +kernel) (pa_cons (pe_ix ix_list (pv 0) pe_int (fun _ _ => rfl)) pa_nil)) (pv 1)))
        (pss_cons (ps_asg (pe_op op_fdivN (pe_ix ix_list (pv 0) pe_int (fun _ _ => rfl)) (pv 1)) (pg_sub (pv 0) pe_int set_list))
        (Evl.pss_cut (ps_if (pt_cmpR op_eq (pe_ix ix_list (pv 0) pe_int (fun _ _ => rfl)) pe_int (nomark _))
          (pss_one (ps_asg pe_int (pg_sub (pv 0) pe_int set_list))) pss_nil)
        (pss_one (ps_ret (pv 3)))))) pss_nil)
      (pss_cons (ps_asg (pe_op op_modN (pe_callTy call_int1 (by rfl) T.b_int (by decide +kernel) (pa_cons (pe_op op_mul (pe_ix ix_list (pv 0) pe_int (fun _ _ => rfl)) pe_int) pa_nil)) pe_int) (pg_sub (pv 0) pe_int set_list))
      (pss_one (ps_ret (pe_op op_modN (pe_callTy call_int1 (by rfl) T.b_int (by decide +kernel) (pa_cons (pe_op op_fdivN (pe_ix ix_list (pv 0) pe_int (fun _ _ => rfl)) pe_int) pa_nil)) (pv 1))))))))), ?_⟩
    obtain ⟨qa, ns, i0, b0, c0, d0, hp, hq, hn⟩ := hds
    have hne : qa ≠ p := DS.ne hp hq
    have hA : At p (.lst [.ref qa, .int (i0 : Int), .int b0, .int c0, .int d0]) H H := ⟨hp, fun _ _ _ e => e⟩
    -- behind the refilling
    refine ⟨(fun σ' H' => ∃ (x2 : Option V) (i : Nat) (b c d : Int), σ' = [some (.ref p), some (.int m), x2, none] ∧ At p (.lst [.ref qa, .int (i : Int), .int b, .int c, .int d]) H H'), ?_, ?_⟩
    · refine s_if (by walk_at "et") (fun hb H1 e1 => ?_) (fun hb H1 e1 => ?_)
      · have hi : i0 < ns.length := by
          have h2 := (Bool.and_eq_true_iff.mp hb).2
          have h3 := of_decide_eq_true h2
          rw [List.length_map] at h3
          omega
        have hA := hA.ex e1
        have hp := hA.1
        have hq1 := hA.2 _ _ hne hq
        have hx : atI (ns.map V.int) (i0 : Int) = some (.int ns[i0]) := by
          refine atI_nat ?_
          rw [List.getElem?_map, List.getElem?_eq_getElem hi]
          rfl
        refine q_asg (v := .int ns[i0]) (ev_op (x := .ref qa) (y := .int (i0 : Int)) (by walk_at "ev") (by walk_at "ev") (rv_ixL (sq_of hq1) hx)) fun H1 e1 => ?_
        have hA := hA.ex e1
        have hp := hA.1
        generalize hcell : ns[i0] = cell
        refine q_st 4 _ hA rfl (by walk_at "ev") rfl rfl rfl fun H1 hA hp => ?_
        refine q_st 3 _ hA rfl (by walk_at "ev") rfl rfl rfl fun H1 hA hp => ?_
        refine q_st 2 _ hA rfl (by walk_at "ev") rfl rfl rfl fun H1 hA hp => ?_
        refine ⟨(fun σ' H' => ∃ (b c d : Int), σ' = [some (.ref p), some (.int m), some (.int cell), none] ∧ At p (.lst [.ref qa, .int (i0 : Int), .int b, .int c, .int d]) H H'), ?_, ?_⟩
        · refine s_if (by walk_at "et") (fun hb H1 e1 => ?_) (fun hb H1 e1 => ?_)
          · have hA := hA.ex e1
            have hp := hA.1
            refine q_st 3 _ hA rfl (by walk_at "ev") rfl rfl rfl fun H1 hA hp => ?_
            refine s_st 2 _ hA rfl (by walk_at "ev") rfl rfl rfl fun H1 hA hp => ?_
            exact ⟨_, _, _, rfl, hA⟩
          · exact ⟨_, _, _, rfl, hA.ex e1⟩
        · rintro σ' H' ⟨b, c, d, rfl, hA⟩
          have hp := hA.1
          refine s_st 1 _ hA rfl (by walk_at "ev") rfl rfl rfl fun H1 hA hp => ?_
          exact ⟨_, i0 + 1, _, _, _, rfl, hA⟩
      · exact ⟨none, i0, b0, c0, d0, rfl, hA.ex e1⟩
    · rintro σ' H' ⟨x2, i, b, c, d, rfl, hA⟩
      have fin : ∀ {i : Nat} {b c d : Int} {H' : Hp}, At p (.lst [.ref qa, .int (i : Int), .int b, .int c, .int d]) H H' → Fr p H H' := fun {i b c d H'} hA => ⟨⟨qa, ns, i, b, c, d, hA.1, hA.2 _ _ hne hq, hn⟩, hA.2⟩
      have hp := hA.1
      refine q_when (by walk_at "et") (fun hb H1 e1 => ?_) (fun hb H1 e1 => ?_)
      · exact s_ret ev_c fun H2 e2 => q 0 H2 (by omega) (fin ((hA.ex e1).ex e2))
      have hA := hA.ex e1
      have hp := hA.1
      refine q_st 3 _ hA rfl (by walk_at "ev") rfl rfl rfl fun H1 hA hp => ?_
      refine q_when (by walk_at "et") (fun hb H1 e1 => ?_) (fun hb H1 e1 => ?_)
      · have hA := hA.ex e1
        have hp := hA.1
        obtain ⟨r, hr1, hr2⟩ := draw_mod (x := b) hm1
        have hmne : m ≠ 0 := by omega
        have hmd : CDivN b m := ⟨hmne, by omega⟩
        refine q_asg (by walk_at "ev") fun H1 e1 => ?_
        have hA := hA.ex e1
        have hp := hA.1
        refine q_st 2 _ hA rfl (by walk_at "ev") rfl rfl rfl fun H1 hA hp => ?_
        refine ⟨(fun σ' H' => ∃ (c : Int), σ' = [some (.ref p), some (.int m), x2, some (.int (b.fmod m))] ∧ At p (.lst [.ref qa, .int (i : Int), .int (b.fdiv m), .int c, .int d]) H H'), ?_, ?_⟩
        · refine s_if (by walk_at "et") (fun hb H1 e1 => ?_) (fun hb H1 e1 => ?_)
          · have hA := hA.ex e1
            have hp := hA.1
            refine s_st 3 _ hA rfl (by walk_at "ev") rfl rfl rfl fun H1 hA hp => ?_
            exact ⟨_, rfl, hA⟩
          · exact ⟨_, rfl, hA.ex e1⟩
        · rintro σ' H' ⟨c, rfl, hA⟩
          rw [hr1]
          exact s_ret (by walk_at "ev") fun H2 e2 => q r H2 hr2 (fin (hA.ex e2))
      · have hA := hA.ex e1
        have hp := hA.1
        have hmne : m ≠ 0 := by omega
        refine q_st 2 _ hA rfl (by walk_at "ev") rfl rfl rfl fun H1 hA hp => ?_
        obtain ⟨r, hr1, hr2⟩ := draw_mod (x := ((b * 48271).fmod 2147483629).fdiv 8) hm1
        refine s_ret (v := .int (((b * 48271).fmod 2147483629).fdiv 8 |>.fmod m)) (by walk_at "ev") fun H2 e2 => ?_
        rw [hr1]
        exact q r H2 hr2 (fin (hA.ex e2))
end
end K0
end

section
set_option Elab.async false
set_option linter.all false
set_option maxRecDepth 100000
set_option maxHeartbeats 4000000
namespace K0
open PySem PySem.Spec PyProof.Rows L2 Evl
local macro_rules | `(tactic| walk_at "rv") => `(tactic| first
  | exact rv_I0
  | (apply rv_I; first | exact (by decide) | (refine Or.inr ⟨?_, ?_⟩ <;> decide) | (refine Or.inl ⟨?_, ?_⟩ <;> decide) | (refine ⟨?_, ?_⟩ <;> first | decide | omega) | (refine ⟨?_, ?_, ?_⟩ <;> first | decide | omega) | omega | assumption)
  | (apply rv_eq; rfl)
  | (apply rv_ne; rfl)
  | (apply rv_ixL; (focus (apply sq_of; assumption)); (focus rfl))
  | exact rv_inSg
  | exact rv_niSg
  | exact rv_ltS
  | (apply rv_addT; first | assumption | omega))
local macro_rules | `(tactic| walk_at "ev") => `(tactic| first
  | exact ev_c
  | (apply ev_var; rfl)
  | assumption
  | (apply ev_op; (focus walk_at "ev"); (focus walk_at "ev"); (focus walk_at "rv"))
  | (apply ev_len; (focus walk_at "ev"); (focus (apply sq_of; assumption)))
  | (apply ev_lenS; (focus walk_at "ev"); (focus (first | assumption | omega)))
  | (apply ev_int1; (focus walk_at "ev"))
  | (apply ev_intB; (focus walk_at "ev"))
  | (apply ev_notV; (focus walk_at "ev"))
  | (apply ev_chain; (focus walk_at "ev"); (focus walk_at "ev"); (focus walk_at "rv"); (focus walk_at "ev"); (focus walk_at "rv")))
local macro_rules | `(tactic| walk_at "et") => `(tactic| first
  | (apply et_and; (focus walk_at "et"); (focus (intro _; walk_at "et")))
  | (apply et_or; (focus walk_at "et"); (focus (intro _; walk_at "et")))
  | (apply et_not; (focus walk_at "et"))
  | (apply et_test; (focus walk_at "ev"))
  | (apply et_B; (focus walk_at "ev")))
local macro_rules | `(tactic| walk_at "ea") => `(tactic| first
  | exact ea_nil
  | (apply ea_cons; (focus walk_at "ev"); (focus walk_at "ea")))
local macro_rules | `(tactic| walk_at "ev") => `(tactic| (apply ev_call; (focus walk_at "ea"); (focus walk_at "spv")))
/-- the 26 letters -/
def LETL : List Nat := ("abcdefghijklmnopqrstuvwxyz" : Str).cps.toList
def lowB (z : Str) : Bool := z.cps.toList.all fun c => decide (c ∈ LETL)
def ascB (z : Str) : Bool := (List.range (z.length - 1)).all fun k => decide ([z.cps.toList.getD k 0] < [z.cps.toList.getD (k + 1) 0])
def alphaB (z : Str) : Bool := (decide (1 ≤ z.length) && decide (z.length ≤ 4)) && (lowB z && ascB z)
def groupB (z : Str) : Bool := decide (z ≠ "") && lowB z
/-- a text of plain size -/
def Sm (z : Str) : Prop := z.length ≤ 1000 ∧ ∀ c ∈ z.cps.toList, c < 16 ^ 8
section
variable {P : Program} {w : World} {K : PySem.W.Frag} {mg : Str → Option Value} {base : Heap} {H : Hp}
def sp_is_letters : Sp := fun vs H Q _ => ∃ z, vs = [.str z] ∧ z.length ≤ 1000 ∧ ∀ H', Ex H H' → Q (.bl (lowB z)) H'
theorem spv_is_letters {z : Str} (h : z.length ≤ 1000) : SpV sp_is_letters [.str z] H (.bl (lowB z)) := fun H1 _ Q q E => ⟨z, rfl, h, q⟩
theorem ok_is_letters (T : Tx P K mg) : FnOk P w K mg base (L2.CX P w) 1 T.is_letters.f T.is_letters.fd ["text"] sp_is_letters := by
  obtain ⟨tL, gL_LETTERS⟩ := T.g_LETTERS
  refine T.is_letters.F.okX sc_is_letters (fun vs H Q E h => ?_) (fun cdv A outer s H vs Q E hr h => ?_)
  · obtain ⟨z, rfl, _⟩ := h
    rfl
  · obtain ⟨z, rfl, hz, q⟩ := h
    refine ⟨_, (pss_one (ps_ret (pe_callB (cr_all rfl) (by rfl) T.b_all (by decide +kernel) (pa_cons (pe_lc (own := [("sign", 1)]) (g := gName 1) (tt := tYes) rfl sc_is_letters.nd (pi_str (pv 0)) (blkOk_by (N := N_is_letters) (sc := defScope s_is_letters) (by decide +kernel)) (fun _ _ _ _ _ => pg_name (i := 1) sc_is_letters.nd rfl (Or.inl rfl)) (fun _ _ _ _ _ => pts_nil) (fun _ _ _ _ _ => (pe_cmpR op_in_sign (pv 1) (pe_glob (v := .str "abcdefghijklmnopqrstuvwxyz") (by rfl) gL_LETTERS ⟨_, rfl⟩) (by rfl)))) pa_nil)))), ?_⟩
    refine s_ret (ev_is (ev_all (z.cps.toList.map fun c => decide (c ∈ LETL)) (el_lcS (z := z) (fun _ => true) (vOf z.cps.toList fun c => .bl (decide (c ∈ LETL))) (by walk_at "ev") (by omega) (fun _ => rfl) (fun _ _ _ _ _ => et_yes) (fun i c H1 _ hc _ => ?_)) ?_) ?_) q
    · rw [vOf_at (cps_at hc)]
      walk_at "ev"
    · rw [cps_len, given_map, List.map_map]
      rfl
    · rw [List.all_map]
      rfl
end
local macro_rules | `(tactic| walk_at "spv") => `(tactic| (apply spv_is_letters; first | assumption | omega))
section
variable {P : Program} {w : World} {K : PySem.W.Frag} {mg : Str → Option Value} {base : Heap} {H : Hp}
/-- what a refusing def does: C the class, x the value -/
def Refuses (C : Addr) (x : V) (H : Hp) (E : XK) : Prop := ∀ H' d, Ex H H' → H d = none → H' d = some (.xd [(("value" : Str), x)]) → E (.ref C) (some d) H'
def sp_check_signs (C : Addr) : Sp := fun vs H Q E => ∃ z, vs = [.str z] ∧ Sm z ∧ (alphaB z = true → ∀ H', Ex H H' → Q (.str z) H') ∧ (alphaB z = false → Refuses C (.str z) H E)
theorem ok_check_signs (T : Tx P K mg) : FnOk P w K mg base (L2.CX P w) 2 T.check_signs.f T.check_signs.fd ["signs"] (sp_check_signs T.a_InvalidSigns) := by
  obtain ⟨tL, gL_MOST_SIGNS⟩ := T.g_MOST_SIGNS
  have G_is_letters : FnOk P w K mg base (L2.CX P w) 1 T.is_letters.f T.is_letters.fd ["text"] sp_is_letters := ok_is_letters T
  refine T.check_signs.F.okX sc_check_signs (fun vs H Q E h => ?_) (fun cdv A outer s H vs Q E hr h => ?_)
  · obtain ⟨z, rfl, _⟩ := h
    rfl
  · obtain ⟨z, rfl, ⟨hz, hc⟩, q, qe⟩ := h
    refine ⟨_, (pss_cons (ps_set (i := 1) sc_check_signs.nd rfl (Or.inl rfl) (pe_callB (cr_all rfl) (by rfl) T.b_all (by decide +kernel) (pa_cons (pe_lc (own := [("k", 2)]) (g := gName 2) (tt := tYes) rfl sc_check_signs.nd (pi_range1 (by rfl) T.b_range (pa_cons (pe_op op_sub (pe_callB call_len_str (by rfl) T.b_len PySem.boot_len (pa_cons (pv 0) pa_nil)) pe_int) pa_nil)) (blkOk_by (N := N_check_signs) (sc := defScope s_check_signs) (by decide +kernel)) (fun _ _ _ _ _ => pg_name (i := 2) sc_check_signs.nd rfl (Or.inl rfl)) (fun _ _ _ _ _ => pts_nil) (fun _ _ _ _ _ => (pe_cmpR op_lt_str (pe_ix ix_str (pv 0) (pv 2) (fun _ _ => rfl)) (pe_ix ix_str (pv 0) (pe_op op_add (pv 2) pe_int) (fun _ _ => rfl)) (nomark _)))) pa_nil)))
      (pss_cons (ps_if (PW.pt (pw_or (pt_not (pt_chain op_le op_le pe_int (pe_callB call_len_str (by rfl) T.b_len PySem.boot_len (pa_cons (pv 0) pa_nil)) (pe_glob (v := .int 4) (by rfl) gL_MOST_SIGNS ⟨_, rfl⟩))) (pw_or (pt_not (pt_val (pe_call (E := E0) G_is_letters (hr.mono (by decide)) (by rfl) T.is_letters.g T.is_letters.F.kp T.is_letters.B .nil passL (pa_cons (pv 0) pa_nil)))) (pw_or1 (pt_not (pt_val (pv 1)))))))
        (pss_one (ps_raiseGr rfl T.base T.o_InvalidSigns hr T.g_InvalidSigns (takes_of rfl rfl rfl rfl) (pa_cons (pv 0) pa_nil))) pss_nil)
      (pss_one (ps_ret (pv 0))))), ?_⟩
    have hz' : z.length ≤ 100000 := by omega
    have at0 : ∀ i : Nat, i < z.length → atI z.cps.toList (i : Int) = some (z.cps.toList.getD i 0) := fun i hi => by
      refine atI_nat ?_
      have h1 : i < z.cps.toList.length := by rw [← cps_len]; exact hi
      rw [List.getElem?_eq_getElem h1, List.getD_eq_getElem?_getD, List.getElem?_eq_getElem h1]
      rfl
    refine q_asg (v := .bl (ascB z)) (ev_is (ev_all ((List.range (z.length - 1)).map fun k => decide ([z.cps.toList.getD k 0] < [z.cps.toList.getD (k + 1) 0])) (el_lcR0 (n := (z.length : Int) - 1) (fun _ => true) (fun k => .bl (decide ([z.cps.toList.getD k 0] < [z.cps.toList.getD (k + 1) 0]))) (by walk_at "ea") (by omega) (fun _ => rfl) (fun _ _ _ _ => et_yes) (fun i H1 _ hi _ => ?_)) ?_) ?_) fun H1 e1 => ?_
    · have a1 := at0 i (by omega)
      have a2 := at0 (i + 1) (by omega)
      have a2' : atI z.cps.toList ((i : Int) + 1) = some (z.cps.toList.getD (i + 1) 0) := a2
      refine ev_op (ev_op (by walk_at "ev") (by walk_at "ev") (rv_ixS hz' a1)) (ev_op (by walk_at "ev") (y := .int ((i : Int) + 1)) (by walk_at "ev") (rv_ixS hz' a2')) rv_ltS
    · rw [given_range, List.map_map, show ((z.length : Int) - 1).toNat = z.length - 1 by omega]
      rfl
    · rw [List.all_map]
      rfl
    · refine q_when (by walk_at "et") (fun hb H2 e2 => ?_) (fun hb H2 e2 => ?_)
      · have ha : alphaB z = false := by
          unfold alphaB
          revert hb
          have e1 : decide ((1 : Int) ≤ (z.length : Int)) = decide (1 ≤ z.length) := decide_eq_decide.mpr (by omega)
          have e2 : decide ((z.length : Int) ≤ 4) = decide (z.length ≤ 4) := decide_eq_decide.mpr (by omega)
          rw [e1, e2]
          cases decide (1 ≤ z.length) <;> cases decide (z.length ≤ 4) <;> cases lowB z <;> cases ascB z <;> simp
        refine ⟨_, rfl, _, rfl, showV_str hc (by omega), fun d hd => ?_⟩
        exact qe ha _ d ((e1.trans e2).trans (Ex.new hd)) (fresh_back (e1.trans e2) hd) upd_same
      · have ha : alphaB z = true := by
          unfold alphaB
          revert hb
          have e1 : decide ((1 : Int) ≤ (z.length : Int)) = decide (1 ≤ z.length) := decide_eq_decide.mpr (by omega)
          have e2 : decide ((z.length : Int) ≤ 4) = decide (z.length ≤ 4) := decide_eq_decide.mpr (by omega)
          rw [e1, e2]
          cases decide (1 ≤ z.length) <;> cases decide (z.length ≤ 4) <;> cases lowB z <;> cases ascB z <;> simp
        exact s_ret (by walk_at "ev") fun H3 e3 => q ha _ ((e1.trans e2).trans e3)
def sp_is_group : Sp := fun vs H Q _ => ∃ z, vs = [.str z] ∧ z.length ≤ 1000 ∧ ∀ H', Ex H H' → Q (.bl (groupB z)) H'
theorem spv_is_group {z : Str} (h : z.length ≤ 1000) : SpV sp_is_group [.str z] H (.bl (groupB z)) := fun H1 _ Q q E => ⟨z, rfl, h, q⟩
local macro_rules | `(tactic| walk_at "ev") => `(tactic| (apply ev_andV; (focus walk_at "ev"); (focus (intro _; walk_at "ev"))))
theorem ok_is_group (T : Tx P K mg) : FnOk P w K mg base (L2.CX P w) 2 T.is_group.f T.is_group.fd ["text"] sp_is_group := by
  have G_is_letters : FnOk P w K mg base (L2.CX P w) 1 T.is_letters.f T.is_letters.fd ["text"] sp_is_letters := ok_is_letters T
  refine T.is_group.F.okX sc_is_group (fun vs H Q E h => ?_) (fun cdv A outer s H vs Q E hr h => ?_)
  · obtain ⟨z, rfl, _⟩ := h
    rfl
  · obtain ⟨z, rfl, hz, q⟩ := h
    refine ⟨_, (pss_one (ps_ret (pe_and (pe_cmpR op_ne (pv 0) pe_str (nomark _)) (pe_one (pe_call (E := E0) G_is_letters (hr.mono (by decide)) (by rfl) T.is_letters.g T.is_letters.F.kp T.is_letters.B .nil passL (pa_cons (pv 0) pa_nil)))))), ?_⟩
    have ed : (!decide (V.str z = V.str "")) = decide (z ≠ "") := by
      by_cases e : z = ""
      · subst e
        rfl
      · rw [decide_eq_true (p := z ≠ "") e, decide_eq_false (p := V.str z = V.str "") (fun k => e (V.str.inj k))]
        rfl
    refine s_ret (ev_is (by walk_at "ev") ?_) q
    unfold groupB
    rw [ed]
local macro_rules | `(tactic| walk_at "spv") => `(tactic| (apply spv_is_group; first | assumption | omega))
def sp_check_group (C : Addr) : Sp := fun vs H Q E => ∃ z, vs = [.str z] ∧ Sm z ∧ (groupB z = true → ∀ H', Ex H H' → Q (.str z) H') ∧ (groupB z = false → Refuses C (.str z) H E)
theorem ok_check_group (T : Tx P K mg) : FnOk P w K mg base (L2.CX P w) 3 T.check_group.f T.check_group.fd ["group"] (sp_check_group T.a_InvalidGroup) := by
  have G_is_group : FnOk P w K mg base (L2.CX P w) 2 T.is_group.f T.is_group.fd ["text"] sp_is_group := ok_is_group T
  refine T.check_group.F.okX sc_check_group (fun vs H Q E h => ?_) (fun cdv A outer s H vs Q E hr h => ?_)
  · obtain ⟨z, rfl, _⟩ := h
    rfl
  · obtain ⟨z, rfl, ⟨hz, hc⟩, q, qe⟩ := h
    refine ⟨_, (pss_cons (ps_if (pt_not (pt_val (pe_call (E := E0) G_is_group (hr.mono (by decide)) (by rfl) T.is_group.g T.is_group.F.kp T.is_group.B .nil passL (pa_cons (pv 0) pa_nil))))
        (pss_one (ps_raiseGr rfl T.base T.o_InvalidGroup hr T.g_InvalidGroup (takes_of rfl rfl rfl rfl) (pa_cons (pv 0) pa_nil))) pss_nil)
      (pss_one (ps_ret (pv 0)))), ?_⟩
    refine q_when (b := !groupB z) (by walk_at "et") (fun hb H2 e2 => ?_) (fun hb H2 e2 => ?_)
    · have ha : groupB z = false := by simpa using hb
      refine ⟨_, rfl, _, rfl, showV_str hc (by omega), fun d hd => ?_⟩
      exact qe ha _ d (e2.trans (Ex.new hd)) (fresh_back e2 hd) upd_same
    · have ha : groupB z = true := by simpa using hb
      exact s_ret (by walk_at "ev") fun H3 e3 => q ha _ (e2.trans e3)
/-- the first sign of a row that another text lacks -/
def strangeB (z g : Str) : Option Nat := z.cps.toList.find? fun c => !decide (c ∈ g.cps.toList)
theorem find_take {α : Type} {p : α → Bool} : ∀ {l : List α} {i : Nat} {x : α}, l[i]? = some x → (l.take i).find? p = none → p x = true → l.find? p = some x
  | [], i, x, h, _, _ => by simp at h
  | a :: l, 0, x, h, _, hp => by
    have e : a = x := Option.some.inj h
    subst e
    simp [List.find?_cons, hp]
  | a :: l, i + 1, x, h, hn, hp => by
    rw [List.take_succ_cons, List.find?_cons] at hn
    cases hpa : p a with
    | true => rw [hpa] at hn; simp at hn
    | false =>
      rw [hpa] at hn
      rw [List.find?_cons, hpa]
      exact find_take (l := l) (i := i) h hn hp
theorem find_take_no {α : Type} {p : α → Bool} {l : List α} {i : Nat} {x : α} (h : l[i]? = some x) (hn : (l.take i).find? p = none) (hp : p x = false) : (l.take (i + 1)).find? p = none := by
  rw [List.take_add_one, h, List.find?_append, hn]
  simp [hp]
def sp_check_row (C : Addr) : Sp := fun vs H Q E => ∃ z g, vs = [.str z, .str g] ∧ Sm z ∧ (strangeB z g = none → ∀ H', Ex H H' → Q (.str z) H') ∧ (∀ c, strangeB z g = some c → Refuses C (.str ⟨#[c]⟩) H E)
theorem ok_check_row (T : Tx P K mg) : FnOk P w K mg base (L2.CX P w) 2 T.check_row.f T.check_row.fd ["row", "signs"] (sp_check_row T.a_UnknownSign) := by
  refine T.check_row.F.okX sc_check_row (fun vs H Q E h => ?_) (fun cdv A outer s H vs Q E hr h => ?_)
  · obtain ⟨z, g, rfl, _⟩ := h
    rfl
  · obtain ⟨z, g, rfl, ⟨hz, hc⟩, q, qe⟩ := h
    refine ⟨_, (pss_cons (ps_for (passes_of rfl) rfl (pi_str (pv 0)) (pg_name (i := 2) sc_check_row.nd rfl (Or.inl rfl))
        (pss_one (ps_if (pt_cmpR op_notIn_sign (pv 2) (pv 1) (by rfl))
          (pss_one (ps_raiseGr rfl T.base T.o_UnknownSign hr T.g_UnknownSign (takes_of rfl rfl rfl rfl) (pa_cons (pv 2) pa_nil))) pss_nil)))
      (pss_one (ps_ret (pv 0)))), ?_⟩
    refine q_forS (z := z) (by walk_at "ev") (fun i σ' H' => ∃ x2, σ' = [some (.str z), some (.str g), x2] ∧ Ex H H' ∧ (z.cps.toList.take i).find? (fun c => !decide (c ∈ g.cps.toList)) = none) (fun H1 e1 => ⟨none, rfl, e1, rfl⟩) (fun i c σ' H' hi hP => ?_) (fun σ' H' hP => ?_)
    · obtain ⟨x2, rfl, e1, hn⟩ := hP
      have hci := cps_at hi
      refine s_when (by walk_at "et") (fun hb H2 e2 => ?_) (fun hb H2 e2 => ?_)
      · have hs : strangeB z g = some c := find_take hci hn hb
        have hmem : c ∈ z.cps.toList := List.mem_of_getElem? hci
        refine ⟨_, rfl, _, rfl, showV_str (fun y hy => ?_) (by show (1 : Nat) ≤ 1000000; omega), fun d hd => ?_⟩
        · have : y = c := by simpa using hy
          rw [this]
          exact hc c hmem
        · exact qe c hs _ d ((e1.trans e2).trans (Ex.new hd)) (fresh_back (e1.trans e2) hd) upd_same
      · exact ⟨_, rfl, e1.trans e2, find_take_no hci hn hb⟩
    · obtain ⟨x2, rfl, e1, hn⟩ := hP
      rw [cps_len, List.take_length] at hn
      exact s_ret (by walk_at "ev") fun H3 e3 => q hn _ (e1.trans e3)
def sp_turned : Sp := fun vs H Q _ => ∃ z, vs = [.str z] ∧ z.length ≤ 1000 ∧ ∀ H', Ex H H' → Q (.str (revS z)) H'
theorem ok_turned (T : Tx P K mg) : FnOk P w K mg base (L2.CX P w) 1 T.turned.f T.turned.fd ["row"] sp_turned := by
  refine T.turned.F.okX sc_turned (fun vs H Q E h => ?_) (fun cdv A outer s H vs Q E hr h => ?_)
  · obtain ⟨z, rfl, _⟩ := h
    rfl
  · obtain ⟨z, rfl, hz, q⟩ := h
    refine ⟨_, (pss_one (ps_ret (pe_revS (pv 0)))), ?_⟩
    exact ⟨_, rfl, z, rfl, sz_of (by omega), q H (Ex.refl H)⟩
/-- one sign under its new name -/
def renC (old new : Str) (c : Nat) : Nat := if c ∈ old.cps.toList then new.cps.toList.getD (PySem.Txt.find old ⟨#[c]⟩).toNat 0 else c
def renS (z old new : Str) : Str := ⟨(z.cps.toList.map (renC old new)).toArray⟩
theorem renS_len (z old new : Str) : (renS z old new).length = z.length := by
  show (z.cps.toList.map (renC old new)).toArray.size = z.cps.size
  rw [List.size_toArray, List.length_map, Array.length_toList]
theorem get_at {l : List Nat} {k : Nat} (h : k < l.length) : atI l (k : Int) = some (l.getD k 0) := by
  refine atI_nat ?_
  rw [List.getElem?_eq_getElem h, List.getD_eq_getElem?_getD, List.getElem?_eq_getElem h]
  rfl
def sp_renamed : Sp := fun vs H Q _ => ∃ z old new, vs = [.str z, .str old, .str new] ∧ z.length ≤ 1000 ∧ new.length = old.length ∧ old.length ≤ 100 ∧ ∀ H', Ex H H' → Q (.str (renS z old new)) H'
theorem ok_renamed (T : Tx P K mg) : FnOk P w K mg base (L2.CX P w) 1 T.renamed.f T.renamed.fd ["row", "old", "new"] sp_renamed := by
  refine T.renamed.F.okX sc_renamed (fun vs H Q E h => ?_) (fun cdv A outer s H vs Q E hr h => ?_)
  · obtain ⟨z, old, new, rfl, _⟩ := h
    rfl
  · obtain ⟨z, old, new, rfl, hz, hl, ho, q⟩ := h
    refine ⟨_, (pss_one (ps_ret (pe_join pe_str (pe_lc (own := [("sign", 3)]) (g := gName 3) (tt := tYes) rfl sc_renamed.nd (pi_str (pv 0)) (blkOk_by (N := N_renamed) (sc := defScope s_renamed) (by decide +kernel)) (fun _ _ _ _ _ => pg_name (i := 3) sc_renamed.nd rfl (Or.inl rfl)) (fun _ _ _ _ _ => pts_nil) (fun _ _ _ _ _ => (pe_ifExp (pt_cmpR op_in_sign (pv 3) (pv 1) (by rfl)) (pe_ix ix_str (pv 2) (pe_m1 PySem.F.slot_str_find PySem.F.type_str_find mt_find (pv 1) (pv 3)) (fun _ _ => rfl)) (pv 3))))))), ?_⟩
    have hn : new.length ≤ 100000 := by omega
    refine ⟨⟨_, rfl⟩, ?_⟩
    refine el_lcS (z := z) (H := H) (fun _ => true) (vOf z.cps.toList fun c => .str ⟨#[renC old new c]⟩) (by walk_at "ev") (by omega) (fun _ => rfl) (fun _ _ _ _ _ => et_yes) (fun i c H1 _ hc _ => ?_) H (Ex.refl H) _ fun p H1 hp e1 h1 => ?_
    · rw [vOf_at (cps_at hc)]
      by_cases hm : c ∈ old.cps.toList
      · obtain ⟨k, hk1, hk2⟩ := find_yes hm
        have hk3 : k < new.cps.toList.length := by rw [← cps_len]; show k < new.length; omega
        have er : renC old new c = new.cps.toList.getD k 0 := by
          unfold renC
          rw [if_pos hm, hk1]
          rfl
        rw [er]
        refine ev_if (b := true) (et_is (by walk_at "et") (decide_eq_true hm)) (fun _ => ?_) (fun z => by cases z)
        refine ev_op (x := .str new) (y := .int (k : Int)) (by walk_at "ev") (fun H2 e2 Q2 q2 => ?_) (rv_ixS hn (get_at hk3))
        refine ⟨_, rfl, ⟨_, rfl⟩, _, rfl, old, ⟨#[c]⟩, rfl, rfl, ?_⟩
        rw [hk1]
        exact q2 H2 (Ex.refl H2)
      · have er : renC old new c = c := by
          unfold renC
          rw [if_neg hm]
        rw [er]
        exact ev_if (b := false) (et_is (by walk_at "et") (decide_eq_false hm)) (fun z => by cases z) (fun _ => by walk_at "ev")
    · rw [cps_len, given_map] at h1
      refine ⟨"", p, (z.cps.toList.map (renC old new)).map fun c => (⟨#[c]⟩ : Str), rfl, rfl, Or.inl (sq_of ?_), ?_, ?_⟩
      · rw [h1, List.map_map, List.map_map]
        rfl
      · rw [List.map_map, List.length_map, List.length_map]
        have e0 : ∀ l : List Nat, (l.map ((fun x => Str.length x) ∘ fun c => (⟨#[c]⟩ : Str))).sum = l.length := fun l => by
          induction l with
          | nil => rfl
          | cons a r ih =>
            rw [List.map_cons, List.sum_cons, ih, List.length_cons]
            show 1 + r.length = _
            omega
        rw [e0, List.length_map, ← cps_len]
        have : ("" : Str).length = 0 := rfl
        have h2 : z.cps.size ≤ 1000 := hz
        rw [this]
        omega
      · rw [join_signs]
        exact q H1 e1
end
end K0
end

section
set_option Elab.async false
set_option linter.all false
set_option maxRecDepth 100000
set_option maxHeartbeats 4000000
namespace K0
open PySem PySem.Spec PyProof.Rows L2 Evl
local macro_rules | `(tactic| walk_at "rv") => `(tactic| first
  | exact rv_I0
  | (apply rv_I; first | exact (by decide) | (refine Or.inr ⟨?_, ?_⟩ <;> decide) | (refine Or.inl ⟨?_, ?_⟩ <;> decide) | (refine ⟨?_, ?_⟩ <;> first | decide | omega) | (refine ⟨?_, ?_, ?_⟩ <;> first | decide | omega) | omega | assumption)
  | (apply rv_eq; rfl)
  | (apply rv_ne; rfl)
  | (apply rv_ixL; (focus (apply sq_of; assumption)); (focus rfl))
  | exact rv_inSg
  | exact rv_niSg
  | exact rv_ltS
  | (apply rv_addT; first | assumption | omega))
local macro_rules | `(tactic| walk_at "ev") => `(tactic| first
  | exact ev_c
  | (apply ev_var; rfl)
  | assumption
  | (apply ev_op; (focus walk_at "ev"); (focus walk_at "ev"); (focus walk_at "rv"))
  | (apply ev_len; (focus walk_at "ev"); (focus (apply sq_of; assumption)))
  | (apply ev_lenS; (focus walk_at "ev"); (focus (first | assumption | omega)))
  | (apply ev_int1; (focus walk_at "ev"))
  | (apply ev_intB; (focus walk_at "ev"))
  | (apply ev_notV; (focus walk_at "ev"))
  | (apply ev_chain; (focus walk_at "ev"); (focus walk_at "ev"); (focus walk_at "rv"); (focus walk_at "ev"); (focus walk_at "rv")))
local macro_rules | `(tactic| walk_at "et") => `(tactic| first
  | (apply et_and; (focus walk_at "et"); (focus (intro _; walk_at "et")))
  | (apply et_or; (focus walk_at "et"); (focus (intro _; walk_at "et")))
  | (apply et_not; (focus walk_at "et"))
  | (apply et_test; (focus walk_at "ev"))
  | (apply et_B; (focus walk_at "ev")))
local macro_rules | `(tactic| walk_at "ea") => `(tactic| first
  | exact ea_nil
  | (apply ea_cons; (focus walk_at "ev"); (focus walk_at "ea")))
local macro_rules | `(tactic| walk_at "ev") => `(tactic| (apply ev_call; (focus walk_at "ea"); (focus walk_at "spv")))
section
variable {P : Program} {w : World} {K : PySem.W.Frag} {mg : Str → Option Value} {base : Heap} {H : Hp}
theorem take_succ_map {l : List Nat} {i c : Nat} {f : Nat → Nat} (h : l[i]? = some c) : (l.take (i + 1)).map f = (l.take i).map f ++ [f c] := by
  rw [List.take_add_one, h, List.map_append]
  rfl
def sp_l_renamed : Sp := fun vs H Q _ => ∃ z old new, vs = [.str z, .str old, .str new] ∧ z.length ≤ 1000 ∧ new.length = old.length ∧ old.length ≤ 100 ∧ ∀ H', Ex H H' → Q (.str (renS z old new)) H'
theorem ok_l_renamed (T : Tx P K mg) : FnOk P w K mg base (L2.CX P w) 1 T.l_renamed.f T.l_renamed.fd ["_law_row", "_law_old", "_law_new_here"] sp_l_renamed := by
  refine T.l_renamed.F.okX sc_l_renamed (fun vs H Q E h => ?_) (fun cdv A outer s H vs Q E hr h => ?_)
  · obtain ⟨z, old, new, rfl, _⟩ := h
    rfl
  · obtain ⟨z, old, new, rfl, hz, hl, ho, q⟩ := h
    refine ⟨_, (pss_cons (ps_set (i := 3) sc_l_renamed.nd rfl (Or.inl rfl) pe_str)
      (pss_cons (ps_for (passes_of rfl) rfl (pi_str (pv 0)) (pg_name (i := 4) sc_l_renamed.nd rfl (Or.inl rfl))
        (pss_cons (ps_set (i := 5) sc_l_renamed.nd rfl (Or.inl rfl) (pe_m1 PySem.F.slot_str_find PySem.F.type_str_find mt_find (pv 1) (pv 4)))
        (pss_one (ps_set (i := 3) sc_l_renamed.nd rfl (Or.inl rfl) (pe_op op_add_str (pv 3) (pe_ifExp (pt_cmpR op_lt (pv 5) pe_int (nomark _)) (pv 4) (pe_ix ix_str (pv 2) (pv 5) (fun _ _ => rfl))))))))
      (pss_one (ps_ret (pv 3))))), ?_⟩
    have hn : new.length ≤ 100000 := by omega
    refine q_asg (by walk_at "ev") fun H1 e1 => ?_
    refine q_forS (z := z) (by walk_at "ev") (fun i σ' H' => ∃ x4 x5, σ' = [some (.str z), some (.str old), some (.str new), some (.str ⟨((z.cps.toList.take i).map (renC old new)).toArray⟩), x4, x5] ∧ Ex H H') (fun H2 e2 => ⟨none, none, rfl, e1.trans e2⟩) (fun i c σ' H' hi hP => ?_) (fun σ' H' hP => ?_)
    · obtain ⟨x4, x5, rfl, e2⟩ := hP
      have hci := cps_at hi
      have hile : i < z.cps.toList.length := (List.getElem?_eq_some_iff.mp hci).1
      have hsz : z.cps.toList.length ≤ 1000 := by rw [← cps_len]; exact hz
      refine q_asg (v := .int (PySem.Txt.find old ⟨#[c]⟩)) (fun H2 e3 Q2 q2 => ⟨_, rfl, ⟨_, rfl⟩, _, rfl, old, ⟨#[c]⟩, rfl, rfl, q2 H2 (Ex.refl H2)⟩) fun H2 e3 => ?_
      have hlen : (⟨((z.cps.toList.take i).map (renC old new)).toArray⟩ : Str).length + (⟨#[renC old new c]⟩ : Str).length ≤ 100000 := by
        show ((z.cps.toList.take i).map (renC old new)).toArray.size + 1 ≤ 100000
        rw [List.size_toArray, List.length_map, List.length_take]
        omega
      have step : (⟨((z.cps.toList.take i).map (renC old new)).toArray⟩ : Str) ++ (⟨#[renC old new c]⟩ : Str) = ⟨((z.cps.toList.take (i + 1)).map (renC old new)).toArray⟩ := by
        apply str_ext
        rw [cps_append, take_succ_map hci]
      refine s_asg (v := .str ((⟨((z.cps.toList.take i).map (renC old new)).toArray⟩ : Str) ++ (⟨#[renC old new c]⟩ : Str))) (ev_op (y := .str ⟨#[renC old new c]⟩) (by walk_at "ev") ?_ (rv_addT hlen)) fun H3 e4 => ?_
      · by_cases hm : c ∈ old.cps.toList
        · obtain ⟨k, hk1, hk2⟩ := find_yes hm
          have hk3 : k < new.cps.toList.length := by rw [← cps_len]; show k < new.length; omega
          have er : renC old new c = new.cps.toList.getD k 0 := by
            unfold renC
            rw [if_pos hm, hk1]
            rfl
          rw [er, hk1]
          exact ev_if (b := false) (et_is (by walk_at "et") (decide_eq_false (by omega))) (fun z => by cases z) (fun _ => ev_op (x := .str new) (y := .int (k : Int)) (by walk_at "ev") (by walk_at "ev") (rv_ixS hn (get_at hk3)))
        · have er : renC old new c = c := by
            unfold renC
            rw [if_neg hm]
          rw [er, find_no hm]
          exact ev_if (b := true) (et_is (by walk_at "et") (decide_eq_true (by omega))) (fun _ => by walk_at "ev") (fun z => by cases z)
      · rw [step]
        exact ⟨_, _, rfl, (e2.trans e3).trans e4⟩
    · obtain ⟨x4, x5, rfl, e2⟩ := hP
      refine s_ret (by walk_at "ev") fun H3 e3 => ?_
      rw [cps_len, List.take_length]
      exact q _ (e2.trans e3)
def sp_l_is_group : Sp := fun vs H Q _ => ∃ z, vs = [.str z] ∧ z.length ≤ 1000 ∧ ∀ H', Ex H H' → Q (.bl (groupB z)) H'
theorem spv_l_is_group {z : Str} (h : z.length ≤ 1000) : SpV sp_l_is_group [.str z] H (.bl (groupB z)) := fun H1 _ Q q E => ⟨z, rfl, h, q⟩
theorem all_take_yes {α : Type} {p : α → Bool} {l : List α} {i : Nat} {x : α} (h : l[i]? = some x) (hn : (l.take i).all p = true) (hp : p x = true) : (l.take (i + 1)).all p = true := by
  rw [List.take_add_one, h, List.all_append, hn]
  simp [hp]
theorem all_no {α : Type} {p : α → Bool} {l : List α} {i : Nat} {x : α} (h : l[i]? = some x) (hp : p x = false) : l.all p = false := by
  rw [List.all_eq_false]
  exact ⟨x, List.mem_of_getElem? h, by simp [hp]⟩
theorem ok_l_is_group (T : Tx P K mg) : FnOk P w K mg base (L2.CX P w) 1 T.l_is_group.f T.l_is_group.fd ["_law_text"] sp_l_is_group := by
  refine T.l_is_group.F.okX sc_l_is_group (fun vs H Q E h => ?_) (fun cdv A outer s H vs Q E hr h => ?_)
  · obtain ⟨z, rfl, _⟩ := h
    rfl
  · obtain ⟨z, rfl, hz, q⟩ := h
    refine ⟨_, (pss_cons (ps_for (passes_of rfl) rfl (pi_str (pv 0)) (pg_name (i := 1) sc_l_is_group.nd rfl (Or.inl rfl))
        (pss_one (ps_if (pt_cmpR op_notIn_sign (pv 1) pe_str (by rfl))
          (pss_one (ps_ret pe_bl)) pss_nil)))
      (pss_one (ps_ret (pe_cmpR op_ne (pv 0) pe_str (nomark _))))), ?_⟩
    refine q_forS (z := z) (by walk_at "ev") (fun i σ' H' => ∃ x1, σ' = [some (.str z), x1] ∧ Ex H H' ∧ (z.cps.toList.take i).all (fun c => decide (c ∈ LETL)) = true) (fun H1 e1 => ⟨none, rfl, e1, rfl⟩) (fun i c σ' H' hi hP => ?_) (fun σ' H' hP => ?_)
    · obtain ⟨x1, rfl, e1, hn⟩ := hP
      have hci := cps_at hi
      refine s_when (b := !decide (c ∈ LETL)) (et_is (by walk_at "et") rfl) (fun hb H2 e2 => ?_) (fun hb H2 e2 => ?_)
      · refine s_ret ev_c fun H3 e3 => ?_
        have h1 : decide (c ∈ LETL) = false := by simpa using hb
        have h2 : groupB z = false := by
          unfold groupB lowB
          rw [all_no hci h1, Bool.and_false]
        rw [← h2]
        exact q _ ((e1.trans e2).trans e3)
      · have h1 : decide (c ∈ LETL) = true := by simpa using hb
        exact ⟨_, rfl, e1.trans e2, all_take_yes hci hn h1⟩
    · obtain ⟨x1, rfl, e1, hn⟩ := hP
      rw [cps_len, List.take_length] at hn
      refine s_ret (by walk_at "ev") fun H3 e3 => ?_
      have h2 : (!decide (V.str z = V.str "")) = groupB z := by
        unfold groupB lowB
        rw [hn, Bool.and_true]
        by_cases e : z = ""
        · subst e
          rfl
        · rw [decide_eq_true (p := z ≠ "") e, decide_eq_false (p := V.str z = V.str "") (fun k => e (V.str.inj k))]
          rfl
      rw [h2]
      exact q _ (e1.trans e3)
end
local macro_rules | `(tactic| walk_at "spv") => `(tactic| (apply spv_l_is_group; first | assumption | omega))
section
variable {P : Program} {w : World} {K : PySem.W.Frag} {mg : Str → Option Value} {base : Heap} {H : Hp}
def sp_l_is_alphabet : Sp := fun vs H Q _ => ∃ z, vs = [.str z] ∧ z.length ≤ 1000 ∧ ∀ H', Ex H H' → Q (.bl (alphaB z)) H'
theorem spv_l_is_alphabet {z : Str} (h : z.length ≤ 1000) : SpV sp_l_is_alphabet [.str z] H (.bl (alphaB z)) := fun H1 _ Q q E => ⟨z, rfl, h, q⟩
theorem len_pos {z : Str} : decide (z ≠ "") = decide (1 ≤ z.length) := by
  apply decide_eq_decide.mpr
  constructor
  · intro h
    by_cases e : z.cps.toList = []
    · exact absurd (str_ext (a := z) (b := "") e) h
    · have : 0 < z.cps.toList.length := List.length_pos_iff.mpr e
      rw [← cps_len] at this
      exact this
  · intro h e
    subst e
    exact absurd h (by decide)
theorem ok_l_is_alphabet (T : Tx P K mg) : FnOk P w K mg base (L2.CX P w) 2 T.l_is_alphabet.f T.l_is_alphabet.fd ["_law_text"] sp_l_is_alphabet := by
  have G_l_is_group : FnOk P w K mg base (L2.CX P w) 1 T.l_is_group.f T.l_is_group.fd ["_law_text"] sp_l_is_group := ok_l_is_group T
  refine T.l_is_alphabet.F.okX sc_l_is_alphabet (fun vs H Q E h => ?_) (fun cdv A outer s H vs Q E hr h => ?_)
  · obtain ⟨z, rfl, _⟩ := h
    rfl
  · obtain ⟨z, rfl, hz, q⟩ := h
    refine ⟨_, (pss_cons (ps_if (PW.pt (pw_or (pt_not (pt_val (pe_call (E := E0) G_l_is_group (hr.mono (by decide)) (by rfl) T.l_is_group.g T.l_is_group.F.kp T.l_is_group.B .nil passL (pa_cons (pv 0) pa_nil)))) (pw_or1 (pt_cmpR op_gt (pe_callB call_len_str (by rfl) T.b_len PySem.boot_len (pa_cons (pv 0) pa_nil)) pe_int (nomark _)))))
        (pss_one (ps_ret pe_bl)) pss_nil)
      (pss_cons (ps_for (passes_of rfl) rfl (pi_range1 (by rfl) T.b_range (pa_cons (pe_op op_sub (pe_callB call_len_str (by rfl) T.b_len PySem.boot_len (pa_cons (pv 0) pa_nil)) pe_int) pa_nil)) (pg_name (i := 1) sc_l_is_alphabet.nd rfl (Or.inl rfl))
        (pss_one (ps_if (pt_not (pt_cmpR op_lt_str (pe_ix ix_str (pv 0) (pv 1) (fun _ _ => rfl)) (pe_ix ix_str (pv 0) (pe_op op_add (pv 1) pe_int) (fun _ _ => rfl)) (nomark _)))
          (pss_one (ps_ret pe_bl)) pss_nil)))
      (pss_one (ps_ret pe_bl)))), ?_⟩
    have hz' : z.length ≤ 100000 := by omega
    have hzl : z.cps.toList.length = z.length := (cps_len z).symm
    refine q_when (by walk_at "et") (fun hb H2 e2 => ?_) (fun hb H2 e2 => ?_)
    · refine s_ret ev_c fun H3 e3 => ?_
      have ha : alphaB z = false := by
        unfold alphaB
        revert hb
        have e4 : decide ((4 : Int) < (z.length : Int)) = !decide (z.length ≤ 4) := by
          rw [← decide_not]
          exact decide_eq_decide.mpr (by omega)
        rw [e4]
        unfold groupB
        rw [len_pos]
        cases decide (1 ≤ z.length) <;> cases decide (z.length ≤ 4) <;> cases lowB z <;> cases ascB z <;> simp
      rw [← ha]
      exact q _ (e2.trans e3)
    · have hb2 : ((decide (1 ≤ z.length) && decide (z.length ≤ 4)) && lowB z) = true := by
        revert hb
        have e4 : decide ((4 : Int) < (z.length : Int)) = !decide (z.length ≤ 4) := by
          rw [← decide_not]
          exact decide_eq_decide.mpr (by omega)
        rw [e4]
        unfold groupB
        rw [len_pos]
        cases decide (1 ≤ z.length) <;> cases decide (z.length ≤ 4) <;> cases lowB z <;> simp
      have hal : alphaB z = ascB z := by
        unfold alphaB
        rw [← Bool.and_assoc, hb2, Bool.true_and]
      refine q_forR0 (n := (z.length : Int) - 1) (by walk_at "ea") (by omega) (fun i σ' H' => ∃ x1, σ' = [some (.str z), x1] ∧ Ex H H' ∧ ((List.range (z.length - 1)).take i).all (fun k => decide ([z.cps.toList.getD k 0] < [z.cps.toList.getD (k + 1) 0])) = true) (fun H1 e1 => ⟨none, rfl, e2.trans e1, rfl⟩) (fun i σ' H' hi hP => ?_) (fun σ' H' hP => ?_)
      · obtain ⟨x1, rfl, e1, hn⟩ := hP
        have a1 := get_at (l := z.cps.toList) (k := i) (by omega)
        have a2 : atI z.cps.toList ((i : Int) + 1) = some (z.cps.toList.getD (i + 1) 0) := get_at (l := z.cps.toList) (k := i + 1) (by omega)
        have hri : (List.range (z.length - 1))[i]? = some i := by rw [List.getElem?_range]; omega
        refine s_when (b := !decide ([z.cps.toList.getD i 0] < [z.cps.toList.getD (i + 1) 0])) (et_not (et_test (ev_op (ev_op (by walk_at "ev") (by walk_at "ev") (rv_ixS hz' a1)) (ev_op (by walk_at "ev") (y := .int ((i : Int) + 1)) (by walk_at "ev") (rv_ixS hz' a2)) rv_ltS))) (fun hb H3 e3 => ?_) (fun hb H3 e3 => ?_)
        · refine s_ret ev_c fun H4 e4 => ?_
          have h1 : decide ([z.cps.toList.getD i 0] < [z.cps.toList.getD (i + 1) 0]) = false := by simpa using hb
          have h2 : alphaB z = false := by
            rw [hal]
            exact all_no (p := fun k => decide ([z.cps.toList.getD k 0] < [z.cps.toList.getD (k + 1) 0])) hri h1
          rw [← h2]
          exact q _ ((e1.trans e3).trans e4)
        · have h1 : decide ([z.cps.toList.getD i 0] < [z.cps.toList.getD (i + 1) 0]) = true := by simpa using hb
          exact ⟨_, rfl, e1.trans e3, all_take_yes (p := fun k => decide ([z.cps.toList.getD k 0] < [z.cps.toList.getD (k + 1) 0])) hri hn h1⟩
      · obtain ⟨x1, rfl, e1, hn⟩ := hP
        refine s_ret ev_c fun H3 e3 => ?_
        have h2 : alphaB z = true := by
          rw [hal]
          rw [show ((z.length : Int) - 1).toNat = z.length - 1 by omega, List.take_of_length_le (by rw [List.length_range]; omega)] at hn
          exact hn
        rw [← h2]
        exact q _ (e1.trans e3)
/-- what the search for a strange sign gives -/
def strV (z g : Str) : Str := match strangeB z g with
  | some c => ⟨#[c]⟩
  | none => ""
def sp_l_strange : Sp := fun vs H Q _ => ∃ z g, vs = [.str z, .str g] ∧ z.length ≤ 1000 ∧ ∀ H', Ex H H' → Q (.str (strV z g)) H'
theorem spv_l_strange {z g : Str} (h : z.length ≤ 1000) : SpV sp_l_strange [.str z, .str g] H (.str (strV z g)) := fun H1 _ Q q E => ⟨z, g, rfl, h, q⟩
theorem ok_l_strange (T : Tx P K mg) : FnOk P w K mg base (L2.CX P w) 1 T.l_strange.f T.l_strange.fd ["_law_row", "_law_signs_here"] sp_l_strange := by
  refine T.l_strange.F.okX sc_l_strange (fun vs H Q E h => ?_) (fun cdv A outer s H vs Q E hr h => ?_)
  · obtain ⟨z, g, rfl, _⟩ := h
    rfl
  · obtain ⟨z, g, rfl, hz, q⟩ := h
    refine ⟨_, (pss_cons (ps_for (passes_of rfl) rfl (pi_str (pv 0)) (pg_name (i := 2) sc_l_strange.nd rfl (Or.inl rfl))
        (pss_one (ps_if (pt_cmpR op_notIn_sign (pv 2) (pv 1) (by rfl))
          (pss_one (ps_ret (pv 2))) pss_nil)))
      (pss_one (ps_ret pe_str))), ?_⟩
    refine q_forS (z := z) (by walk_at "ev") (fun i σ' H' => ∃ x2, σ' = [some (.str z), some (.str g), x2] ∧ Ex H H' ∧ (z.cps.toList.take i).find? (fun c => !decide (c ∈ g.cps.toList)) = none) (fun H1 e1 => ⟨none, rfl, e1, rfl⟩) (fun i c σ' H' hi hP => ?_) (fun σ' H' hP => ?_)
    · obtain ⟨x2, rfl, e1, hn⟩ := hP
      have hci := cps_at hi
      refine s_when (by walk_at "et") (fun hb H2 e2 => ?_) (fun hb H2 e2 => ?_)
      · have hs : strangeB z g = some c := find_take hci hn hb
        have hv : strV z g = ⟨#[c]⟩ := by
          unfold strV
          rw [hs]
        refine s_ret (by walk_at "ev") fun H3 e3 => ?_
        rw [← hv]
        exact q _ ((e1.trans e2).trans e3)
      · exact ⟨_, rfl, e1.trans e2, find_take_no hci hn hb⟩
    · obtain ⟨x2, rfl, e1, hn⟩ := hP
      rw [cps_len, List.take_length] at hn
      have hs : strangeB z g = none := hn
      have hv : strV z g = "" := by
        unfold strV
        rw [hs]
      refine s_ret ev_c fun H3 e3 => ?_
      rw [← hv]
      exact q _ (e1.trans e3)
end
end K0
end

section
set_option Elab.async false
set_option linter.all false
set_option maxRecDepth 100000
set_option maxHeartbeats 4000000
/-! a for in a generator's body -/
namespace L2
open PySem PySem.Spec PyProof.Rows GenW
/-- what a loop's code does with an exception -/
def outT (env : Env) (x : Value) : Sem PySem.Fin := (do noteFrame x env; theTreesLotGoes x : Sem Unit).bind fun _ => .raise x
section
variable {M : Model} {A : Around} {R : GenEnd} {Y : Protocol} {n : Nat} {s₀ : Shared} {c : Code} {fs : List Frame} {s : Shared} {env : Env}
theorem seg_two {α β : Type} {m : Sem α} {f : α → Sem β} {K : β → Sem PySem.Fin} {J : Value → Sem PySem.Fin} {gd : Bool → Bool} {lv : List Value → List Value}
    (h : wpAny M (A.over c fs) m (fun a s' => Seg M A R Y n s₀ c ((f a).wrap K J gd lv) fs s') (fun x s' => Seg M A R Y n s₀ c (J x) fs s') s) : Seg M A R Y n s₀ c ((m >>= f).wrap K J gd lv) fs s := by
  rw [Sem.bind_eq_wrap', Sem.wrap_wrap]
  exact seg_wrap h
theorem seg_For {tg iter : Expr} {body : List Stmt} {pos : Pos} {K : Flow → Sem PySem.Fin} {J : Value → Sem PySem.Fin} {gd : Bool → Bool} {lv : List Value → List Value}
    (h : wpAny M (A.over c fs) (eval iter env) (fun x s1 => wpAny M (A.over c fs) (pyIter x) (fun it s2 => ∀ p, Seg M A R Y n s₀ (.forLoop tg it body [] env) (M.den (.forLoop tg it body [] env))
      (.ret (fun r => ((match r with | .ok f => (.pure f : Sem Flow) | .error e => .raise e).onRaise (cameBack env)).wrap K J gd lv) none (gd false) (lv []) c p [] :: fs) s2)
      (fun x s' => Seg M A R Y n s₀ c (J x) fs s') s1) (fun x s' => Seg M A R Y n s₀ c (J x) fs s') s) (hs : ∀ x, foldedSetIterable iter env x = pure x) :
    Seg M A R Y n s₀ c ((exec (.For tg iter body [] pos) env).wrap K J gd lv) fs s := by
  rw [exec_For]
  refine seg_two (wpAny_standAt ?_)
  refine seg_two (wpAny_mono h (fun x s1 h1 => ?_) fun _ _ z => z)
  rw [hs x]
  refine seg_two (wpAny_pure ?_)
  refine seg_two (wpAny_standAt ?_)
  refine seg_two (wpAny_holding (wpAny_mono h1 (fun it s2 h2 => ?_) fun _ _ z => z))
  exact seg_call h2
end
section
variable {prog : Program} {w : World} {A : Around} {R : GenEnd} {Y : Protocol} {n : Nat} {s₀ : Shared} {fs : List Frame} {s : Shared} {env : Env}
theorem seg_forLoop {tg : Expr} {it : Value} {body : List Stmt}
    (h : wpAny (model prog w) (A.over (.forLoop tg it body [] env) fs) (pyNext it) (fun r s1 => match r with
      | none => Seg (model prog w) A R Y n s₀ (.block [] env) (.pure (.done .next)) fs s1
      | some v => wpAny (model prog w) (A.over (.forLoop tg it body [] env) fs) (letOwnedTupleGo tg it v) (fun _ s2 => wpAny (model prog w) (A.over (.forLoop tg it body [] env) fs) (assign tg env v) (fun _ s3 =>
          Seg (model prog w) A R Y n s₀ (.forLoop tg it body [] env) ((execs body env).wrap (fun f => match f with
            | .next | .cont => .pure (.again (.forLoop tg it body [] env))
            | .brk => .pure (.done .next)
            | .ret v => .pure (.done (.ret v))) (outT env) id id) fs s3)
          (fun x s' => Seg (model prog w) A R Y n s₀ (.forLoop tg it body [] env) (outT env x) fs s') s2) (fun x s' => Seg (model prog w) A R Y n s₀ (.forLoop tg it body [] env) (outT env x) fs s') s1)
      (fun x s' => Seg (model prog w) A R Y n s₀ (.forLoop tg it body [] env) (outT env x) fs s') s) :
    Seg (model prog w) A R Y n s₀ (.forLoop tg it body [] env) ((model prog w).den (.forLoop tg it body [] env)) fs s := by
  show Seg _ A R Y n s₀ _ ((forTurn tg it body [] env).onRaise (fun x => do noteFrame x env; theTreesLotGoes x)) fs s
  unfold forTurn
  rw [Sem.onRaise_eq_wrap]
  refine seg_two (wpAny_standAt ?_)
  refine seg_two (wpAny_onRaise (wpAny_mono h (fun r s1 hr => ?_) fun x s' hx => wpAny_standAt hx))
  cases r with
  | none =>
    show Seg _ A R Y n s₀ _ (.pure (.again (.block [] env))) fs s1
    exact seg_again rfl hr
  | some v =>
    refine seg_two (wpAny_mono hr (fun _ s2 h2 => ?_) fun _ _ z => z)
    refine seg_two (wpAny_mono h2 (fun _ s3 h3 => ?_) fun _ _ z => z)
    rw [Sem.bind_eq_wrap', Sem.wrap_wrap]
    rw [Sem.wrap_congr (execs body env) _ _ (K' := fun f => match f with
            | .next | .cont => .pure (.again (.forLoop tg it body [] env))
            | .brk => .pure (.done .next)
            | .ret v => .pure (.done (.ret v))) (H' := outT env) (fun f => by cases f <;> rfl) (fun e => by rfl)]
    exact h3
end
section
variable {X : Cx} {tg iter : Expr} {body : List Stmt}
def tGFor (wi : TI) (g : TG) (tb : TGn) : TGn := fun D ys σ H => wi σ H fun J H1 => ∃ W : Nat → Nat → List V → St → Hp → Prop, (∃ m, W 0 m ys σ H1) ∧ ∀ i m ys σ H, W i m ys σ H →
  (J.stop i H ∧ D.nx ys σ H) ∨ (J.go i H ∧ ∃ N : List V → St → Hp → Prop, (∀ ys' σ' H', N ys' σ' H' → ∃ m', m' < m ∧ W (i + 1) m' ys' σ' H') ∧ ∀ x H', J.yld i H x H' → g x σ H' fun σ2 H2 => tb { D with nx := N, ct := N, bk := D.nx } ys σ2 H2)
theorem gs_for {wi : TI} {g : TG} {tb : TGn} {pos : Pos} (hp : PassesOwn (model X.prog X.w) X.A X.env X.xe) (hc : X.calm = true) (hi : PI X tg iter wi) (hg : PG X tg g) (hb : GSs X body tb)
    (hs : ∀ x, foldedSetIterable iter X.env x = pure x := by intro _; rfl) : GS X (.For tg iter body [] pos) (tGFor wi g tb) := by
  refine ⟨fun A S ip R n ys s₀ c fs K J gd lv s σ H D gc hn k hI ht => ?_⟩
  obtain ⟨acc0, cc0, r0, I0⟩ := hI
  refine seg_For ?_ hs
  rw [gc.over]
  refine wpAny_mono (hi.run _ s σ H _ I0 ht) (fun v s1 h1 => ?_) fun x s' hx => k.exc n s₀ x s' hx
  refine wpAny_mono h1 (fun itv s2 h2 p => ?_) fun x s' hx => k.exc n s₀ x s' hx
  obtain ⟨it, fp, tn, Jt, H2, e, I2, T, st2, f2, W, ⟨m0, w0⟩, turn⟩ := h2
  subst e
  have nS : ∀ b ∈ fp, S ≠ b := fun b hb => (f2 b hb).2.2.2.2.2 (S, lstObj acc0 cc0) (List.mem_append_right _ List.mem_cons_self)
  have stat : ∀ {H' : Hp} {acc : Array Value} {cc : Nat}, (∀ b ∈ fp, H' b = none) → ∀ b ∈ fp, FpOk X ((S, lstObj acc cc) :: ip) H' b := fun {H' acc cc} hn b hb => by
    obtain ⟨_, f1, f3, f4, f5, f6⟩ := f2 b hb
    refine ⟨hn b hb, f1, f3, f4, f5, fun q hq => ?_⟩
    rcases List.mem_append.mp hq with z | z
    · exact f6 q (List.mem_append_left _ z)
    · rcases List.mem_cons.mp z with z | z
      · rw [z]
        exact nS b hb
      · exact f6 q (List.mem_append_right _ (List.mem_cons_of_mem _ z))
  have gl := fun (kk : Result → Sem PySem.Fin) => gc_loop (k := kk) (c' := .forLoop tg (.ref it) body [] X.env) (l := lv []) (kp := []) (p := p) gc rfl rfl
  have loop : ∀ (m n i : Nat) (ys : List V) (s₀ s : Shared) (σ : St) (H : Hp), n + ys.length = sizeLine → W i m ys σ H → GI X S ip ys σ H s → tn i s.heap → (∀ b ∈ fp, H b = none) →
      Seg (model X.prog X.w) A R (GY X S) n s₀ (.forLoop tg (.ref it) body [] X.env) ((model X.prog X.w).den (.forLoop tg (.ref it) body [] X.env))
        (.ret (fun r => ((match r with | .ok f => (.pure f : Sem Flow) | .error e => .raise e).onRaise (cameBack X.env)).wrap K J gd lv) none (gd false) (lv []) c p [] :: fs) s := by
    intro m
    induction m using Nat.strongRecOn with
    | ind m ih =>
      intro n i ys s₀ s σ H hn w hI st fr
      have ee : ∀ (n : Nat) (s₀ : Shared) (x : Value) (s' : Shared), X.xe x s' → Seg (model X.prog X.w) A R (GY X S) n s₀ (.forLoop tg (.ref it) body [] X.env) (outT X.env x)
          (.ret (fun r => ((match r with | .ok f => (.pure f : Sem Flow) | .error e => .raise e).onRaise (cameBack X.env)).wrap K J gd lv) none (gd false) (lv []) c p [] :: fs) s' := fun n s₀ x s' hx => by
        unfold outT
        rw [Sem.bind_eq_wrap]
        refine seg_wrap ?_
        rw [(gl _).over]
        refine wpAny_bind (wpAny_mono (hp x s' hx) (fun _ s'' hcb => wpAny_theTreesLotGoes ?_) fun y s'' hcb => ?_)
        · exact seg_leaf (.error x) (seg_cameBack gc k hcb)
        · exact seg_leaf (.error y) (seg_cameBack gc k hcb)
      refine seg_forLoop ?_
      rw [(gl _).over]
      obtain ⟨acc, cc, r, I⟩ := hI
      rcases turn i m ys σ H w with ⟨stop, qn⟩ | ⟨go, N, hN, step⟩
      · refine wpAny_mono (T.done X rfl rfl rfl hc i _ s σ H X.xe I (stat fr) st stop) (fun r4 s4 h4 => ?_) fun x s' hx => ee n s₀ x s' hx
        obtain ⟨hr, I4⟩ := h4
        subst hr
        exact seg_leaf (.ok .next) (k.ok n ys s₀ s4 .next hn ⟨σ, H, ⟨acc, cc, r, I4⟩, qn⟩)
      · refine wpAny_mono (T.item X rfl rfl rfl hc i _ s σ H X.xe I (stat fr) st go) (fun r4 s4 h4 => ?_) fun x s' hx => ee n s₀ x s' hx
        obtain ⟨u, hr, h4⟩ := h4
        subst hr
        refine wpAny_mono h4 (fun _ s5 h5 => ?_) fun x s' hx => ee n s₀ x s' hx
        obtain ⟨x, H5, I5, r5, y5, st5, fr5⟩ := h5
        have I5' := I5.pinned (stat fr5) (T.obj _ _ st5)
        refine wpAny_mono (hg.run _ s5 σ H5 x u _ I5' r5 (step x H5 y5)) (fun _ s6 h6 => ?_) fun x s' hx => ee n s₀ x s' hx
        obtain ⟨σ6, H6, I6, q6⟩ := h6
        have gl2 := gl (fun r => ((match r with | .ok f => (.pure f : Sem Flow) | .error e => .raise e).onRaise (cameBack X.env)).wrap K J gd lv)
        have gip : GC X S (ip ++ pinsAt fp s5.heap) A (.forLoop tg (.ref it) body [] X.env) (.ret (fun r => ((match r with | .ok f => (.pure f : Sem Flow) | .error e => .raise e).onRaise (cameBack X.env)).wrap K J gd lv) none (gd false) (lv []) c p [] :: fs) id :=
          ⟨gl2.pn, fun q hq => (List.mem_append.mp hq).elim (fun z => gl2.ip q z) fun z => fun ez => nS q.1 (of_pinsAt z).1 ez.symm, gl2.apart, gl2.over, gl2.split, gl2.guard, gl2.gd⟩
        have back : ∀ {ys' : List V} {σ7 : St} {H7 : Hp} {s7 : Shared}, GI X S (ip ++ pinsAt fp s5.heap) ys' σ7 H7 s7 → GI X S ip ys' σ7 H7 s7 ∧ tn (i + 1) s7.heap ∧ ∀ b ∈ fp, H7 b = none := fun {ys' σ7 H7 s7} h => by
          obtain ⟨acc7, cc7, r7, I7⟩ := h
          have pin7 : ∀ b ∈ fp, ∀ o, s5.heap.get? b = some o → s7.heap.get? b = some o ∧ H7 b = none := fun b hb o e =>
            let z := I7.pin (b, o) (List.mem_append_right _ (List.mem_cons_of_mem _ (List.mem_append_right _ (mem_pinsAt hb e))))
            ⟨z.1, z.2.1⟩
          refine ⟨⟨acc7, cc7, r7, I7.pins_of fun q hq => I7.pin q (List.mem_append_right _ ?_)⟩, T.keep _ _ _ st5 fun b hb o e => (pin7 b hb o e).1, fun b hb => ?_⟩
          · rcases List.mem_cons.mp hq with z | z
            · rw [z]
              exact List.mem_cons_self
            · exact List.mem_cons_of_mem _ (List.mem_append_left _ z)
          · obtain ⟨o, e, _⟩ := T.obj _ _ st5 b hb
            exact (pin7 b hb o e).2
        refine hb.run A S (ip ++ pinsAt fp s5.heap) R n ys s₀ _ _ _ _ id id s6 σ6 H6 { D with nx := N, ct := N, bk := D.nx } gip hn ⟨fun n' ys' s₀' s7 f hn' hq => ?_, fun n' s₀' x s3 hx => ee n' s₀' x s3 hx⟩ ⟨acc, cc, r, I6⟩ q6
        cases f with
        | next =>
          obtain ⟨σ7, H7, I7, n7⟩ := hq
          obtain ⟨b1, b2, b3⟩ := back I7
          obtain ⟨m', hm, w7⟩ := hN ys' σ7 H7 n7
          exact seg_again rfl (ih m' hm n' (i + 1) ys' s₀' s7 σ7 H7 hn' w7 b1 b2 b3)
        | cont =>
          obtain ⟨σ7, H7, I7, n7⟩ := hq
          obtain ⟨b1, b2, b3⟩ := back I7
          obtain ⟨m', hm, w7⟩ := hN ys' σ7 H7 n7
          exact seg_again rfl (ih m' hm n' (i + 1) ys' s₀' s7 σ7 H7 hn' w7 b1 b2 b3)
        | brk =>
          obtain ⟨σ7, H7, I7, q7⟩ := hq
          exact seg_leaf (.ok .next) (k.ok n' ys' s₀' s7 .next hn' ⟨σ7, H7, (back I7).1, q7⟩)
        | ret v =>
          obtain ⟨x7, σ7, H7, I7, r7, q7⟩ := hq
          exact seg_leaf (.ok (.ret v)) (k.ok n' ys' s₀' s7 (.ret v) hn' ⟨x7, σ7, H7, (back I7).1, r7, q7⟩)
  exact loop m0 n 0 ys s₀ s2 σ H2 hn w0 ⟨acc0, cc0, r0, I2⟩ st2 fun b hb => (f2 b hb).1
theorem gfor_range {lo : Int} {n : Nat} {g : TG} {tb : TGn} {D : GEnds} {ys : List V} {σ : St} {H : Hp} (Pv : Nat → List V → St → Hp → Prop) (h0 : Pv 0 ys σ H)
    (hs : ∀ i ys σ H, i < n → Pv i ys σ H → g (.int (lo + i)) σ H fun σ2 H2 => tb { D with nx := Pv (i + 1), ct := Pv (i + 1), bk := D.nx } ys σ2 H2) (hd : ∀ ys σ H, Pv n ys σ H → D.nx ys σ H) :
    ∃ W : Nat → Nat → List V → St → Hp → Prop, (∃ m, W 0 m ys σ H) ∧ ∀ i m ys σ H, W i m ys σ H →
      ((Itr lo n).stop i H ∧ D.nx ys σ H) ∨ ((Itr lo n).go i H ∧ ∃ N : List V → St → Hp → Prop, (∀ ys' σ' H', N ys' σ' H' → ∃ m', m' < m ∧ W (i + 1) m' ys' σ' H') ∧ ∀ x H', (Itr lo n).yld i H x H' → g x σ H' fun σ2 H2 => tb { D with nx := N, ct := N, bk := D.nx } ys σ2 H2) := by
  refine ⟨fun i m ys σ H => m = n - i ∧ i ≤ n ∧ Pv i ys σ H, ⟨n, by simp, Nat.zero_le _, h0⟩, ?_⟩
  rintro i m ys σ H ⟨rfl, hi, p⟩
  by_cases hlt : i < n
  · refine .inr ⟨hlt, Pv (i + 1), fun ys' σ' H' p' => ⟨n - (i + 1), by omega, rfl, hlt, p'⟩, fun x H' y => ?_⟩
    obtain ⟨e, y⟩ := y
    subst e y
    exact hs i ys σ _ hlt p
  · have e : i = n := by omega
    subst e
    exact .inl ⟨Nat.le_refl _, hd ys σ H p⟩
end
end L2
end

section
set_option Elab.async false
set_option linter.all false
set_option maxRecDepth 100000
set_option maxHeartbeats 4000000
namespace Evl
open PySem PySem.Spec PyProof.Rows L2
/-- each of xs with each sign of l, in order -/
def fm (xs : List V) (l : List Nat) (f : V → Nat → V) : List V := xs.flatMap fun x => l.map (f x)
theorem fm_len (l : List Nat) (f : V → Nat → V) : ∀ xs : List V, (fm xs l f).length = xs.length * l.length
  | [] => by simp [fm]
  | x :: xs => by
    have ih := fm_len l f xs
    unfold fm at ih ⊢
    rw [List.flatMap_cons, List.length_append, ih, List.length_map, List.length_cons, Nat.succ_mul]
    omega
theorem fm_take {xs : List V} {l : List Nat} {f : V → Nat → V} {i : Nat} {x : V} (h : xs[i]? = some x) : fm (xs.take (i + 1)) l f = fm (xs.take i) l f ++ l.map (f x) := by
  unfold fm
  rw [List.take_add_one, h, List.flatMap_append]
  simp
section
variable {K : PySem.W.Frag} {σ : L2.St} {H : Hp} {te tl tz : TE}
theorem el_lc2 {a : Addr} {xs : List V} {z : Str} {j1 j2 : Nat} {vs vs1 : List Nat} (f : V → Nat → V) (h : Ev tl σ H (.ref a)) (hx : SqL K H a xs) (hsz : xs.length * z.length ≤ 50000)
    (hw : ∀ x, wipe ((wipe σ vs).set j1 (some x)) vs = wipe σ vs) (hw1 : ∀ x y, wipe ((wipe ((wipe σ vs).set j1 (some x)) vs1).set j2 (some y)) vs1 = wipe ((wipe σ vs).set j1 (some x)) vs1)
    (hz : ∀ x H1, Ex H H1 → Ev tz ((wipe σ vs).set j1 (some x)) H1 (.str z))
    (he : ∀ (i : Nat) (x : V) (c : Nat) H1, xs[i]? = some x → Ex H H1 → Ev te ((wipe ((wipe σ vs).set j1 (some x)) vs1).set j2 (some (.str ⟨#[c]⟩))) H1 (f x c)) :
    EvL (tLc2 (iList K tl) (gName j1) tYes (iStr tz) (gName j2) tYes te vs vs1) σ H (fm xs z.cps.toList f) := fun H0 e Q q => h H0 e _ fun H1 e1 => ⟨a, rfl, ⟨xs, ex_l (e.trans e1) hx⟩, fun Dl hD => by
  have hl : z.cps.toList.length = z.length := (cps_len z).symm
  refine ⟨fun i m H' => m = xs.length - i ∧ i ≤ xs.length ∧ Ex H1 H' ∧ H' Dl = some (.lst (fm (xs.take i) z.cps.toList f)), ⟨xs.length, by simp, Nat.zero_le _, Ex.new hD, upd_same⟩, ?_⟩
  rintro i m H' ⟨rfl, hi, e2, hDl⟩
  have q1 : SqL K H' a xs := ex_l ((e.trans e1).trans e2) hx
  by_cases hlt : i < xs.length
  · refine .inr ⟨⟨xs, xs[i], q1, by simp [hlt]⟩, fun H2 => Ex H1 H2 ∧ H2 Dl = some (.lst (fm (xs.take (i + 1)) z.cps.toList f)), fun H2 p' => ⟨xs.length - (i + 1), by omega, rfl, hlt, p'⟩, fun x H2 y => ?_⟩
    obtain ⟨ey, y⟩ := y
    subst ey
    have hxi : xs[i]? = some x := y xs q1
    refine ⟨hw x, ?_⟩
    refine hz x _ ((e.trans e1).trans e2) _ (Ex.refl _) _ fun H3 e3 => ⟨z, rfl, ?_⟩
    have szi : (fm (xs.take i) z.cps.toList f).length + z.length ≤ 50000 := by
      rw [fm_len, hl, List.length_take, Nat.min_eq_left hi]
      have : i * z.length + z.length = (i + 1) * z.length := by rw [Nat.succ_mul]
      have h2 : (i + 1) * z.length ≤ xs.length * z.length := Nat.mul_le_mul_right _ hlt
      omega
    refine ⟨fun k n H4 => n = z.cps.size - k ∧ k ≤ z.cps.size ∧ Ex H1 H4 ∧ H4 Dl = some (.lst (fm (xs.take i) z.cps.toList f ++ (z.cps.toList.take k).map (f x))), ⟨z.cps.size, by simp, Nat.zero_le _, e2.trans e3, ?_⟩, ?_⟩
    · rw [List.take_zero, List.map_nil, List.append_nil]
      exact e3 Dl _ hDl
    · rintro k n H4 ⟨rfl, hk, e4, hD4⟩
      by_cases hkl : k < z.cps.size
      · refine .inr ⟨hkl, fun H5 => Ex H1 H5 ∧ H5 Dl = some (.lst (fm (xs.take i) z.cps.toList f ++ (z.cps.toList.take (k + 1)).map (f x))), fun H5 p' => ⟨z.cps.size - (k + 1), by omega, rfl, hkl, p'⟩, fun y5 H5 y6 => ?_⟩
        obtain ⟨e6, c, hc, ex6⟩ := y6
        subst e6
        subst ex6
        refine ⟨hw1 x _, ?_⟩
        refine he i x c _ hxi ((e.trans e1).trans e4) _ (Ex.refl _) _ fun H6 e6 => ⟨_, e6 Dl _ hD4, sz_lt ?_, Ex.mut (e4.trans e6) hD, ?_⟩
        · rw [List.length_append, List.length_map, List.length_take, hl]
          have : z.cps.size = z.length := rfl
          omega
        · rw [upd_same, List.append_assoc, List.take_add_one, cps_at hc, List.map_append]
          rfl
      · have e5 : k = z.cps.size := by omega
        subst e5
        refine .inl ⟨Nat.le_refl _, e4, ?_⟩
        rw [fm_take hxi]
        rw [cps_len, List.take_length] at hD4
        exact hD4
  · have e3 : i = xs.length := by omega
    subst e3
    rw [List.take_length] at hDl
    exact .inl ⟨⟨xs, q1, Nat.le_refl _⟩, q Dl H' (fresh_back e1 hD) (e1.trans e2) hDl⟩⟩
end
end Evl
namespace K0
open PySem PySem.Spec PyProof.Rows L2 Evl
local macro_rules | `(tactic| walk_at "rv") => `(tactic| first
  | exact rv_I0
  | (apply rv_I; first | exact (by decide) | (refine Or.inr ⟨?_, ?_⟩ <;> decide) | (refine Or.inl ⟨?_, ?_⟩ <;> decide) | (refine ⟨?_, ?_⟩ <;> first | decide | omega) | (refine ⟨?_, ?_, ?_⟩ <;> first | decide | omega) | omega | assumption)
  | (apply rv_eq; rfl)
  | (apply rv_ne; rfl)
  | (apply rv_ixL; (focus (apply sq_of; assumption)); (focus rfl))
  | exact rv_inSg
  | exact rv_niSg
  | exact rv_ltS
  | (apply rv_addT; first | assumption | omega))
local macro_rules | `(tactic| walk_at "ev") => `(tactic| first
  | exact ev_c
  | (apply ev_var; rfl)
  | assumption
  | (apply ev_op; (focus walk_at "ev"); (focus walk_at "ev"); (focus walk_at "rv"))
  | (apply ev_len; (focus walk_at "ev"); (focus (apply sq_of; assumption)))
  | (apply ev_lenS; (focus walk_at "ev"); (focus (first | assumption | omega)))
  | (apply ev_int1; (focus walk_at "ev"))
  | (apply ev_intB; (focus walk_at "ev"))
  | (apply ev_notV; (focus walk_at "ev"))
  | (apply ev_chain; (focus walk_at "ev"); (focus walk_at "ev"); (focus walk_at "rv"); (focus walk_at "ev"); (focus walk_at "rv")))
local macro_rules | `(tactic| walk_at "et") => `(tactic| first
  | (apply et_and; (focus walk_at "et"); (focus (intro _; walk_at "et")))
  | (apply et_or; (focus walk_at "et"); (focus (intro _; walk_at "et")))
  | (apply et_not; (focus walk_at "et"))
  | (apply et_test; (focus walk_at "ev"))
  | (apply et_B; (focus walk_at "ev")))
local macro_rules | `(tactic| walk_at "ea") => `(tactic| first
  | exact ea_nil
  | (apply ea_cons; (focus walk_at "ev"); (focus walk_at "ea")))
local macro_rules | `(tactic| walk_at "ev") => `(tactic| (apply ev_call; (focus walk_at "ea"); (focus walk_at "spv")))
/-- the rows of k signs, in order -/
def lvl (g : Str) : Nat → List Str
  | 0 => [""]
  | k + 1 => (lvl g k).flatMap fun r => g.cps.toList.map fun c => r ++ (⟨#[c]⟩ : Str)
def lvls (g : Str) (n : Nat) : List Str := (List.range (n + 1)).flatMap (lvl g)
theorem lvls_succ (g : Str) (n : Nat) : lvls g (n + 1) = lvls g n ++ lvl g (n + 1) := by
  unfold lvls
  rw [List.range_succ, List.flatMap_append]
  simp
def rowF (x : V) (c : Nat) : V := match x with
  | .str r => .str (r ++ (⟨#[c]⟩ : Str))
  | _ => .non
theorem fm_lvl (g : Str) (k : Nat) : fm ((lvl g k).map V.str) g.cps.toList rowF = (lvl g (k + 1)).map V.str := by
  show List.flatMap _ _ = _
  show _ = List.map V.str (List.flatMap _ _)
  rw [List.map_flatMap, List.flatMap_map]
  congr 1
  funext r
  rw [List.map_map]
  rfl
theorem rep_sum (a : Nat) : ∀ n : Nat, (List.replicate n a).sum = n * a
  | 0 => by simp
  | n + 1 => by
    rw [List.replicate_succ, List.sum_cons, rep_sum a n, Nat.succ_mul]
    omega
theorem lvl_len (g : Str) : ∀ k, (lvl g k).length = g.length ^ k
  | 0 => rfl
  | k + 1 => by
    show (List.flatMap _ _).length = _
    rw [List.length_flatMap]
    have : (lvl g k).map (fun r => (g.cps.toList.map fun c => r ++ (⟨#[c]⟩ : Str)).length) = (lvl g k).map fun _ => g.length := by
      congr 1
      funext r
      rw [List.length_map]
      exact (cps_len g).symm
    rw [this, List.map_const', rep_sum, lvl_len g k, Nat.pow_succ]
theorem lvl_str (g : Str) : ∀ k, ∀ r ∈ lvl g k, r.length = k
  | 0, r, h => by
    have e : r = "" := by simpa [lvl] using h
    subst e
    rfl
  | k + 1, r, h => by
    have h' : r ∈ (lvl g k).flatMap fun r => g.cps.toList.map fun c => r ++ (⟨#[c]⟩ : Str) := h
    obtain ⟨r0, hr0, h2⟩ := List.mem_flatMap.mp h'
    obtain ⟨c, _, e⟩ := List.mem_map.mp h2
    subst e
    have := lvl_str g k r0 hr0
    rw [Str.length_append, this]
    rfl
end K0
end

section
set_option Elab.async false
set_option linter.all false
set_option maxRecDepth 100000
set_option maxHeartbeats 4000000
namespace K0
open PySem PySem.Spec PyProof.Rows L2 Evl GenW
local macro_rules | `(tactic| walk_at "rv") => `(tactic| first
  | exact rv_I0
  | (apply rv_I; first | exact (by decide) | (refine Or.inr ⟨?_, ?_⟩ <;> decide) | (refine Or.inl ⟨?_, ?_⟩ <;> decide) | (refine ⟨?_, ?_⟩ <;> first | decide | omega) | (refine ⟨?_, ?_, ?_⟩ <;> first | decide | omega) | omega | assumption)
  | (apply rv_eq; rfl)
  | (apply rv_ne; rfl)
  | (apply rv_ixL; (focus (apply sq_of; assumption)); (focus rfl))
  | exact rv_inSg
  | exact rv_niSg
  | exact rv_ltS
  | (apply rv_addT; first | assumption | omega))
local macro_rules | `(tactic| walk_at "ev") => `(tactic| first
  | exact ev_c
  | (apply ev_var; rfl)
  | assumption
  | (apply ev_op; (focus walk_at "ev"); (focus walk_at "ev"); (focus walk_at "rv"))
  | (apply ev_len; (focus walk_at "ev"); (focus (apply sq_of; assumption)))
  | (apply ev_lenS; (focus walk_at "ev"); (focus (first | assumption | omega)))
  | (apply ev_int1; (focus walk_at "ev"))
  | (apply ev_intB; (focus walk_at "ev"))
  | (apply ev_notV; (focus walk_at "ev"))
  | (apply ev_chain; (focus walk_at "ev"); (focus walk_at "ev"); (focus walk_at "rv"); (focus walk_at "ev"); (focus walk_at "rv")))
local macro_rules | `(tactic| walk_at "et") => `(tactic| first
  | (apply et_and; (focus walk_at "et"); (focus (intro _; walk_at "et")))
  | (apply et_or; (focus walk_at "et"); (focus (intro _; walk_at "et")))
  | (apply et_not; (focus walk_at "et"))
  | (apply et_test; (focus walk_at "ev"))
  | (apply et_B; (focus walk_at "ev")))
local macro_rules | `(tactic| walk_at "ea") => `(tactic| first
  | exact ea_nil
  | (apply ea_cons; (focus walk_at "ev"); (focus walk_at "ea")))
local macro_rules | `(tactic| walk_at "ev") => `(tactic| (apply ev_call; (focus walk_at "ea"); (focus walk_at "spv")))
section
variable {P : Program} {w : World} {K : PySem.W.Frag} {mg : Str → Option Value} {base : Heap} {H : Hp}
theorem lvl_small {g : Str} (hg : g.length ≤ 4) {k : Nat} (hk : k ≤ 4) : (lvl g k).length ≤ 256 := by
  rw [lvl_len]
  have h1 : g.length ^ k ≤ 4 ^ k := Nat.pow_le_pow_left hg k
  have h2 : (4 : Nat) ^ k ≤ 4 ^ 4 := Nat.pow_le_pow_right (by decide) hk
  have h3 : (4 : Nat) ^ 4 = 256 := by decide
  omega
/-- sizes of the rows met -/
theorem lvls_len {g : Str} (hg : g.length ≤ 4) : ∀ n, n ≤ 4 → (lvls g n).length ≤ 256 * (n + 1)
  | 0, _ => by
    show ((List.range 1).flatMap (lvl g)).length ≤ 256
    simp [List.range_succ, lvl]
  | n + 1, hn => by
    have a := lvls_len hg n (by omega)
    have b := lvl_small hg hn
    rw [lvls_succ, List.length_append]
    omega
def sp_rows_up_to : SpG := fun vs H Q _ => ∃ (g : Str) (n : Nat), vs = [.str g, .int (n : Int)] ∧ g.length ≤ 4 ∧ n ≤ 4 ∧ ∀ H', Ex H H' → Q ((lvls g n).map V.str) H'
theorem ok_rows_up_to (T : Tx P K mg) : GFn P w K mg base 1 T.rows_up_to.f T.rows_up_to.fd ["signs", "longest"] sp_rows_up_to := by
  obtain ⟨oc, od, kV, doc, pm, an, cdv, ct, osl, efd, lk, hcd⟩ := T.rows_up_to.F.ex
  rw [efd] at lk ⊢
  refine gfn_of lk hcd sc_rows_up_to (fun vs H Q E h => ?_) (fun A outer s H vs Q E pn hr h => ?_)
  · obtain ⟨g, n, rfl, _⟩ := h
    rfl
  · obtain ⟨g, n, rfl, hg, hn, q⟩ := h
    refine ⟨_, gss_cons (gs_ps (ps_set (i := 2) sc_rows_up_to.nd rfl (Or.inl rfl) (pe_lst (pa_cons pe_str pa_nil))))
      (gss_cons (gs_yield pe_str)
      (gss_cons (gs_for owns_gcx rfl (pi_range1 (by rfl) T.b_range (pa_cons (pv 1) pa_nil)) (pg_name (i := 3) sc_rows_up_to.nd rfl (Or.inl rfl))
        (gss_cons (gs_ps (ps_setLc2 (i := 2) (own := [("row", 4), ("sign", 5)]) (vs1 := [5]) (g := gName 4) (g1 := gName 5) (tt := tYes) (tt1 := tYes) rfl sc_rows_up_to.nd rfl rfl (sw_true rfl rfl rfl (by decide +kernel)) (pi_list (pv 2)) (blkOk_by (N := N_rows_up_to) (sc := defScope s_rows_up_to) (by decide +kernel)) (by decide) (fun _ _ _ _ _ => pg_name (i := 4) sc_rows_up_to.nd rfl (Or.inl rfl)) (fun _ _ _ _ _ => pts_nil) (fun _ _ _ _ _ => pi_str (pv 0)) (fun _ _ _ _ _ => pg_name (i := 5) sc_rows_up_to.nd rfl (Or.inl rfl)) (fun _ _ _ _ _ => pts_nil) (fun _ _ _ _ _ => pe_op op_add_str (pv 4) (pv 5))))
        (gss_cons (gs_yieldFrom (yf_list (pv 2)) hr.hd) gss_nil))) gss_nil)), ?_⟩
    refine s_asgL (D := GEnds.at _ _) (el_lst (by walk_at "ea") (by show 1 ≤ 100000; decide)) fun p1 H1 n1 e1 h1 => ?_
    refine ⟨by decide, ?_⟩
    refine ⟨_, rfl, ?_⟩
    refine ⟨(n : Int), rfl, by omega, by omega, gfor_range (lo := 0) (n := n) (fun i ys σ' H' => ∃ (p : Addr) (x3 x4 x5 : Option V), σ' = [some (.str g), some (.int (n : Int)), some (.ref p), x3, x4, x5] ∧ Ex H H' ∧ H' p = some (.lst ((lvl g i).map V.str)) ∧ ys = (lvls g i).map V.str)
      ⟨p1, none, none, none, rfl, e1, h1, rfl⟩ (fun i ys σ' H' hi hP => ?_) (fun ys σ' H' hP => ?_)⟩
    · obtain ⟨p, x3, x4, x5, rfl, e2, h2, rfl⟩ := hP
      have hsm := lvl_small hg (k := i) (by omega)
      have hsz : ((lvl g i).map V.str).length * g.length ≤ 50000 := by
        rw [List.length_map]
        have := Nat.mul_le_mul hsm hg
        omega
      refine s_asgL (D := GEnds.at _ _) (xs := (lvl g (i + 1)).map V.str) (fun H3 e3 Q3 q3 => el_lc2 (K := K) (H := H') (xs := (lvl g i).map V.str) (z := g) rowF (by walk_at "ev") (sq_of h2) hsz (fun _ => rfl) (fun _ _ => rfl) (fun _ _ _ => by walk_at "ev") (fun j x c H4 hx _ => ?_) H3 e3 Q3 fun p4 H4 n4 e4 h4 => q3 p4 H4 n4 e4 ?_) fun p4 H4 n4 e4 h4 => ?_
      · rw [List.getElem?_map] at hx
        cases hr : (lvl g i)[j]? with
        | none => rw [hr] at hx; cases hx
        | some r =>
          rw [hr] at hx
          have ex : x = .str r := (Option.some.inj hx).symm
          subst ex
          have hlen := lvl_str g i r (List.mem_of_getElem? hr)
          exact ev_op (x := .str r) (y := .str ⟨#[c]⟩) (by walk_at "ev") (by walk_at "ev") (rv_addT (by rw [hlen]; show i + 1 ≤ 100000; omega))
      · rw [← fm_lvl]
        exact h4
      · have hl1 := lvls_len hg i (by omega)
        have hl2 := lvl_small hg (k := i + 1) (by omega)
        refine ⟨_, rfl, p4, _, rfl, h4, ?_, p4, _, _, _, rfl, e2.trans e4, h4, ?_⟩
        · rw [List.length_map, List.length_map]
          have : sizeLine = 16777216 := rfl
          omega
        · rw [lvls_succ, List.map_append]
    · obtain ⟨p, x3, x4, x5, rfl, e2, h2, rfl⟩ := hP
      exact q _ e2
end
end K0
end

section
set_option Elab.async false
set_option linter.all false
set_option maxRecDepth 100000
set_option maxHeartbeats 4000000
namespace Evl
open PySem PySem.Spec PyProof.Rows L2
theorem el_cat {σ : L2.St} {H : Hp} {ta tb : TE} {l b : Addr} {xs zs : List V} (ha : Ev ta σ H (.ref l)) (hb : Ev tb σ H (.ref b)) (h1 : H l = some (.lst xs)) (h2 : H b = some (.lst zs)) (hz : xs.length + zs.length ≤ 100000) : EvL (tOp rCat ta tb) σ H (xs ++ zs) := fun H1 e Q q =>
  ha H1 e _ fun H2 e2 => hb H2 (e.trans e2) _ fun H3 e3 => ⟨l, b, xs, zs, rfl, rfl, ((e.trans e2).trans e3) _ _ h1, ((e.trans e2).trans e3) _ _ h2, sz_of hz, fun p hp => q p _ (fresh_back (e2.trans e3) hp) ((e2.trans e3).trans (Ex.new hp)) upd_same⟩
end Evl
namespace K0
open PySem PySem.Spec PyProof.Rows L2 Evl
local macro_rules | `(tactic| walk_at "rv") => `(tactic| first
  | exact rv_I0
  | (apply rv_I; first | exact (by decide) | (refine Or.inr ⟨?_, ?_⟩ <;> decide) | (refine Or.inl ⟨?_, ?_⟩ <;> decide) | (refine ⟨?_, ?_⟩ <;> first | decide | omega) | (refine ⟨?_, ?_, ?_⟩ <;> first | decide | omega) | omega | assumption)
  | (apply rv_eq; rfl)
  | (apply rv_ne; rfl)
  | (apply rv_ixL; (focus (apply sq_of; assumption)); (focus rfl))
  | exact rv_inSg
  | exact rv_niSg
  | exact rv_ltS
  | (apply rv_addT; first | assumption | omega))
local macro_rules | `(tactic| walk_at "ev") => `(tactic| first
  | exact ev_c
  | (apply ev_var; rfl)
  | assumption
  | (apply ev_op; (focus walk_at "ev"); (focus walk_at "ev"); (focus walk_at "rv"))
  | (apply ev_len; (focus walk_at "ev"); (focus (apply sq_of; assumption)))
  | (apply ev_lenS; (focus walk_at "ev"); (focus (first | assumption | omega)))
  | (apply ev_int1; (focus walk_at "ev"))
  | (apply ev_intB; (focus walk_at "ev"))
  | (apply ev_notV; (focus walk_at "ev"))
  | (apply ev_chain; (focus walk_at "ev"); (focus walk_at "ev"); (focus walk_at "rv"); (focus walk_at "ev"); (focus walk_at "rv")))
local macro_rules | `(tactic| walk_at "et") => `(tactic| first
  | (apply et_and; (focus walk_at "et"); (focus (intro _; walk_at "et")))
  | (apply et_or; (focus walk_at "et"); (focus (intro _; walk_at "et")))
  | (apply et_not; (focus walk_at "et"))
  | (apply et_test; (focus walk_at "ev"))
  | (apply et_B; (focus walk_at "ev")))
local macro_rules | `(tactic| walk_at "ea") => `(tactic| first
  | exact ea_nil
  | (apply ea_cons; (focus walk_at "ev"); (focus walk_at "ea")))
local macro_rules | `(tactic| walk_at "ev") => `(tactic| (apply ev_call; (focus walk_at "ea"); (focus walk_at "spv")))
section
variable {P : Program} {w : World} {K : PySem.W.Frag} {mg : Str → Option Value} {base : Heap} {H : Hp}
def sp_l_rows : Sp := fun vs H Q _ => ∃ (g : Str) (n : Nat), vs = [.str g, .int (n : Int)] ∧ g.length ≤ 4 ∧ n ≤ 4 ∧ ∀ H' p, Ex H H' → H p = none → H' p = some (.lst ((lvls g n).map V.str)) → Q (.ref p) H'
theorem ok_l_rows (T : Tx P K mg) : FnOk P w K mg base (L2.CX P w) 1 T.l_rows.f T.l_rows.fd ["_law_signs_here", "_law_top"] sp_l_rows := by
  refine T.l_rows.F.okX sc_l_rows (fun vs H Q E h => ?_) (fun cdv A outer s H vs Q E hr h => ?_)
  · obtain ⟨g, n, rfl, _⟩ := h
    rfl
  · obtain ⟨g, n, rfl, hg, hn, q⟩ := h
    refine ⟨_, (pss_cons (ps_set (i := 2) sc_l_rows.nd rfl (Or.inl rfl) (pe_lst (pa_cons pe_str pa_nil)))
      (pss_cons (ps_set (i := 3) sc_l_rows.nd rfl (Or.inl rfl) (pe_lst (pa_cons pe_str pa_nil)))
      (pss_cons (ps_for (passes_of rfl) rfl (pi_range1 (by rfl) T.b_range (pa_cons (pv 1) pa_nil)) (pg_name (i := 4) sc_l_rows.nd rfl (Or.inl rfl))
        (pss_cons (ps_set (i := 5) sc_l_rows.nd rfl (Or.inl rfl) (pe_lst pa_nil))
        (pss_cons (ps_for (passes_of rfl) rfl (pi_list (pv 3)) (pg_name (i := 6) sc_l_rows.nd rfl (Or.inl rfl))
          (pss_one (ps_for (passes_of rfl) rfl (pi_str (pv 0)) (pg_name (i := 7) sc_l_rows.nd rfl (Or.inl rfl))
            (pss_one (ps_expr (pe_bm PySem.F.plainAttrs_list PySem.F.slot_list_append PySem.F.type_list_append mt_append (pv 5) (pa_cons (pe_op op_add_str (pv 6) (pv 7)) pa_nil)))))))
        (pss_cons (ps_set (i := 3) sc_l_rows.nd rfl (Or.inl rfl) (pe_callTy call_list_of (by rfl) T.b_list (by decide +kernel) (pa_cons (pv 5) pa_nil)))
        (pss_one (ps_set (i := 2) sc_l_rows.nd rfl (Or.inl rfl) (pe_op op_cat (pv 2) (pv 3))))))))
      (pss_one (ps_ret (pv 2)))))), ?_⟩
    refine q_asgL (el_lst (by walk_at "ea") (by show 1 ≤ 100000; decide)) fun p1 H1 n1 e1 h1 => ?_
    refine q_asgL (el_lst (by walk_at "ea") (by show 1 ≤ 100000; decide)) fun p2 H2 n2 e2 h2 => ?_
    refine q_forR1 (n := (n : Int)) (by walk_at "ea") (by omega) (fun i σ' H' => ∃ (pf pl : Addr) (x4 x5 x6 x7 : Option V), σ' = [some (.str g), some (.int (n : Int)), some (.ref pf), some (.ref pl), x4, x5, x6, x7] ∧ Ex H H' ∧ H pf = none ∧ H' pf = some (.lst ((lvls g i).map V.str)) ∧ H' pl = some (.lst ((lvl g i).map V.str)))
      (fun H3 e3 => ⟨p1, p2, none, none, none, none, rfl, (e1.trans e2).trans e3, n1, ?_, e3 _ _ h2⟩) (fun i σ' H' hi hP => ?_) (fun σ' H' hP => ?_)
    · have := e3 _ _ (e2 _ _ h1)
      rw [this]
      rfl
    · obtain ⟨pf, pl, x4, x5, x6, x7, rfl, ea, nf, hf, hl⟩ := hP
      have hin : i < n := by omega
      refine q_asgL (el_lst (vs := []) (by walk_at "ea") (by show 0 ≤ 100000; decide)) fun p5 H3 n5 e3 h5 => ?_
      have hsm := lvl_small hg (k := i) (by omega)
      have hgl : g.cps.toList.length = g.length := (cps_len g).symm
      -- the rows one sign longer
      refine q_forLn (K := K) (a := pl) (xs := (lvl g i).map V.str) (by walk_at "ev") (sq_of (e3 _ _ hl)) (fun j σ' H4 => ∃ (y6 y7 : Option V), σ' = [some (.str g), some (.int (n : Int)), some (.ref pf), some (.ref pl), some (.int (i : Int)), some (.ref p5), y6, y7] ∧ Ex H' H4 ∧ H4 p5 = some (.lst (fm (((lvl g i).map V.str).take j) g.cps.toList rowF)))
        (fun H4 e4 => ⟨x6, x7, rfl, e3.trans e4, ?_⟩) (fun j σ' H4 _ hP => ?_) (fun j x σ' H4 hx hP => ?_) (fun σ' H4 hP => ?_)
      · rw [e4 _ _ h5]
        rfl
      · obtain ⟨y6, y7, _, e4, _⟩ := hP
        exact sq_of (e4 _ _ hl)
      · obtain ⟨y6, y7, rfl, e4, h4⟩ := hP
        rw [List.getElem?_map] at hx
        cases hr : (lvl g i)[j]? with
        | none => rw [hr] at hx; cases hx
        | some r =>
          rw [hr] at hx
          have ex : x = .str r := (Option.some.inj hx).symm
          subst ex
          have hxj : ((lvl g i).map V.str)[j]? = some (.str r) := by rw [List.getElem?_map, hr]; rfl
          have hjl : j < (lvl g i).length := (List.getElem?_eq_some_iff.mp hr).1
          have hlen := lvl_str g i r (List.mem_of_getElem? hr)
          refine s_forS (z := g) (by walk_at "ev") (fun k σ' H5 => ∃ (y7 : Option V), σ' = [some (.str g), some (.int (n : Int)), some (.ref pf), some (.ref pl), some (.int (i : Int)), some (.ref p5), some (.str r), y7] ∧ Ex H' H5 ∧ H5 p5 = some (.lst (fm (((lvl g i).map V.str).take j) g.cps.toList rowF ++ (g.cps.toList.take k).map fun c => .str (r ++ (⟨#[c]⟩ : Str)))))
            (fun H5 e5 => ⟨y7, rfl, e4.trans e5, ?_⟩) (fun k c σ' H5 hc hP => ?_) (fun σ' H5 hP => ?_)
          · rw [e5 _ _ h4, List.take_zero, List.map_nil, List.append_nil]
          · obtain ⟨y7, rfl, e5, h5'⟩ := hP
            have hsz : (fm (((lvl g i).map V.str).take j) g.cps.toList rowF ++ (g.cps.toList.take k).map fun c => V.str (r ++ (⟨#[c]⟩ : Str))).length < 100000 := by
              rw [List.length_append, fm_len, List.length_take, List.length_map, List.length_map, List.length_take, hgl]
              have h6 : min j (lvl g i).length ≤ 256 := by omega
              have := Nat.mul_le_mul h6 hg
              omega
            refine s_app (K := K) h5' (by walk_at "ev") (v := .str (r ++ (⟨#[c]⟩ : Str))) (ev_op (x := .str r) (y := .str ⟨#[c]⟩) (by walk_at "ev") (by walk_at "ev") (rv_addT (by rw [hlen]; show i + 1 ≤ 100000; omega))) hsz fun H6 e6 => ?_
            refine ⟨_, rfl, Ex.mut (e5.trans e6) n5, ?_⟩
            rw [upd_same, List.append_assoc, List.take_add_one, cps_at hc, List.map_append]
            rfl
          · obtain ⟨y7, rfl, e5, h5'⟩ := hP
            refine ⟨_, _, rfl, e5, ?_⟩
            rw [h5', fm_take hxj, cps_len, List.take_length]
            rfl
      · obtain ⟨y6, y7, rfl, e4, h4⟩ := hP
        rw [List.take_length, fm_lvl] at h4
        refine q_asgL (xs := (lvl g (i + 1)).map V.str) (el_list (K := K) (by walk_at "ev") (sq_of h4)) fun p8 H5 n8 e5 h8 => ?_
        have hl1 := lvls_len hg i (by omega)
        have hl2 := lvl_small hg (k := i + 1) (by omega)
        refine s_asgL (xs := (lvls g i).map V.str ++ (lvl g (i + 1)).map V.str) (el_cat (l := pf) (b := p8) (by walk_at "ev") (by walk_at "ev") (e5 _ _ (e4 _ _ hf)) h8 (by rw [List.length_map, List.length_map]; omega)) fun p9 H6 n9 e6 h9 => ?_
        refine ⟨p9, p8, _, _, _, _, rfl, ((ea.trans e4).trans e5).trans e6, fresh_back ((ea.trans e4).trans e5) n9, ?_, e6 _ _ h8⟩
        rw [h9, lvls_succ, List.map_append]
    · obtain ⟨pf, pl, x4, x5, x6, x7, rfl, ea, nf, hf, hl⟩ := hP
      refine s_ret (by walk_at "ev") fun H3 e3 => ?_
      exact q _ pf (ea.trans e3) nf (e3 _ _ hf)
end
end K0
end

section
set_option Elab.async false
set_option linter.all false
set_option maxRecDepth 100000
set_option maxHeartbeats 4000000
namespace K0
open PySem PySem.Spec PyProof.Rows L2 Evl
local macro_rules | `(tactic| walk_at "rv") => `(tactic| first
  | exact rv_I0
  | (apply rv_I; first | exact (by decide) | (refine Or.inr ⟨?_, ?_⟩ <;> decide) | (refine Or.inl ⟨?_, ?_⟩ <;> decide) | (refine ⟨?_, ?_⟩ <;> first | decide | omega) | (refine ⟨?_, ?_, ?_⟩ <;> first | decide | omega) | omega | assumption)
  | (apply rv_eq; rfl)
  | (apply rv_ne; rfl)
  | (apply rv_ixL; (focus (apply sq_of; assumption)); (focus rfl))
  | exact rv_inSg
  | exact rv_niSg
  | exact rv_ltS
  | (apply rv_addT; first | assumption | omega))
local macro_rules | `(tactic| walk_at "ev") => `(tactic| first
  | exact ev_c
  | (apply ev_var; rfl)
  | assumption
  | (apply ev_op; (focus walk_at "ev"); (focus walk_at "ev"); (focus walk_at "rv"))
  | (apply ev_len; (focus walk_at "ev"); (focus (apply sq_of; assumption)))
  | (apply ev_lenS; (focus walk_at "ev"); (focus (first | assumption | omega)))
  | (apply ev_int1; (focus walk_at "ev"))
  | (apply ev_intB; (focus walk_at "ev"))
  | (apply ev_notV; (focus walk_at "ev"))
  | (apply ev_chain; (focus walk_at "ev"); (focus walk_at "ev"); (focus walk_at "rv"); (focus walk_at "ev"); (focus walk_at "rv")))
local macro_rules | `(tactic| walk_at "et") => `(tactic| first
  | (apply et_and; (focus walk_at "et"); (focus (intro _; walk_at "et")))
  | (apply et_or; (focus walk_at "et"); (focus (intro _; walk_at "et")))
  | (apply et_not; (focus walk_at "et"))
  | (apply et_test; (focus walk_at "ev"))
  | (apply et_B; (focus walk_at "ev")))
local macro_rules | `(tactic| walk_at "ea") => `(tactic| first
  | exact ea_nil
  | (apply ea_cons; (focus walk_at "ev"); (focus walk_at "ea")))
local macro_rules | `(tactic| walk_at "ev") => `(tactic| (apply ev_call; (focus walk_at "ea"); (focus walk_at "spv")))
section
variable {P : Program} {w : World} {K : PySem.W.Frag} {mg : Str → Option Value} {base : Heap} {H : Hp}
/-- what is told of a refusal: which class, the value -/
def errT (a b c : Bool) (x : Str) : HO := .tup [.bl a, .bl b, .bl c, .bl true, .str x]
/-- the answer: a text, or a new tuple of a refusal -/
def Told (r : Str ⊕ (Bool × Bool × Bool × Str)) (H : Hp) (Q : VK) : Prop := match r with
  | .inl z => ∀ H', Ex H H' → Q (.str z) H'
  | .inr (a, b, c, x) => ∀ H' p, Ex H H' → H p = none → H' p = some (errT a b c x) → Q (.ref p) H'
def sp_l_signs_told : Sp := fun vs H Q _ => ∃ z, vs = [.str z] ∧ Sm z ∧ Told (if alphaB z = true then .inl z else .inr (true, false, false, z)) H Q
theorem ok_l_signs_told (T : Tx P K mg) : FnOk P w K mg base (L2.CX P w) 3 T.l_signs_told.f T.l_signs_told.fd ["_law_text"] sp_l_signs_told := by
  have G_check_signs : FnOk P w K mg base (L2.CX P w) 2 T.check_signs.f T.check_signs.fd ["signs"] (sp_check_signs T.a_InvalidSigns) := ok_check_signs T
  refine T.l_signs_told.F.okX sc_l_signs_told (fun vs H Q E h => ?_) (fun cdv A outer s H vs Q E hr h => ?_)
  · obtain ⟨z, rfl, _⟩ := h
    rfl
  · obtain ⟨z, rfl, hz, q⟩ := h
    refine ⟨_, (pss_one (ps_try_as (i := 1) rfl rfl sc_l_signs_told.nd rfl rfl ⟨rfl, by decide, .inl T.g_GrowsError⟩ takes0 (fun W pn xe tk _ => (pss_one (ps_ret (pe_callS G_check_signs (hr.mono (by decide)) (by rfl) T.check_signs.g T.check_signs.F.kp T.check_signs.B (fun σ => passAt tk σ) (pa_cons (pv 0) pa_nil)))))
        (fun a oe cls d pn hz hf => (pss_one (ps_ret (pe_tup (pa_cons (pe_callB (call_isG hz hf) (by rfl) T.b_isinstance (by decide +kernel) (pa_cons (pv 1) (pa_cons (pe_glob (v := .ref T.a_InvalidSigns) (by rfl) T.g_InvalidSigns rfl) pa_nil))) (pa_cons (pe_callB (call_isG hz hf) (by rfl) T.b_isinstance (by decide +kernel) (pa_cons (pv 1) (pa_cons (pe_glob (v := .ref T.a_InvalidGroup) (by rfl) T.g_InvalidGroup rfl) pa_nil))) (pa_cons (pe_callB (call_isG hz hf) (by rfl) T.b_isinstance (by decide +kernel) (pa_cons (pv 1) (pa_cons (pe_glob (v := .ref T.a_UnknownSign) (by rfl) T.g_UnknownSign rfl) pa_nil))) (pa_cons (pe_callB (call_isG hz hf) (by rfl) T.b_isinstance (by decide +kernel) (pa_cons (pv 1) (pa_cons (pe_bltn (v := .ty "ValueError") (by rfl) T.b_ValueError (by decide +kernel) rfl) pa_nil))) (pa_cons (pe_xg hz hf (pv 1)) pa_nil))))))))))), ?_⟩
    refine ⟨.str z, rfl, z, rfl, hz, fun ha H' e => ?_, fun ha H' d e nd hd => ?_⟩
    · rw [if_pos ha] at q
      exact q H' e
    · rw [if_neg (by rw [ha]; decide)] at q
      refine ⟨true, T.m_InvalidSigns, fun _ a na => ?_, fun z => by cases z⟩
      refine ⟨.ref a, rfl, T.a_InvalidSigns, .ref T.a_InvalidSigns, .ref T.a_InvalidSigns, _, d, _, rfl, T.x_InvalidSigns, rfl, fun u r => r, T.k_InvalidSigns_InvalidSigns, rfl, hd, ?_⟩
      refine ⟨.ref a, rfl, T.a_InvalidSigns, .ref T.a_InvalidGroup, .ref T.a_InvalidGroup, _, d, _, rfl, T.x_InvalidSigns, rfl, fun u r => r, T.k_InvalidSigns_InvalidGroup, rfl, hd, ?_⟩
      refine ⟨.ref a, rfl, T.a_InvalidSigns, .ref T.a_UnknownSign, .ref T.a_UnknownSign, _, d, _, rfl, T.x_InvalidSigns, rfl, fun u r => r, T.k_InvalidSigns_UnknownSign, rfl, hd, ?_⟩
      refine ⟨.ref a, rfl, T.a_InvalidSigns, .ty "ValueError", .type "ValueError", _, d, _, rfl, T.x_InvalidSigns, rfl, fun u r => r, T.v_InvalidSigns, rfl, hd, ?_⟩
      refine ⟨.ref a, rfl, T.a_InvalidSigns, d, _, .str z, rfl, rfl, T.f_InvalidSigns, T.o_InvalidSigns.noN, rfl, hd, rfl, ?_⟩
      refine ⟨by show 5 ≤ sizeLine; decide, fun p np => ?_⟩
      exact q _ p (e.trans (Ex.new np)) (fresh_back e np) upd_same
def sp_l_group_told : Sp := fun vs H Q _ => ∃ z, vs = [.str z] ∧ Sm z ∧ Told (if groupB z = true then .inl z else .inr (false, true, false, z)) H Q
theorem ok_l_group_told (T : Tx P K mg) : FnOk P w K mg base (L2.CX P w) 4 T.l_group_told.f T.l_group_told.fd ["_law_text"] sp_l_group_told := by
  have G_check_group : FnOk P w K mg base (L2.CX P w) 3 T.check_group.f T.check_group.fd ["group"] (sp_check_group T.a_InvalidGroup) := ok_check_group T
  refine T.l_group_told.F.okX sc_l_group_told (fun vs H Q E h => ?_) (fun cdv A outer s H vs Q E hr h => ?_)
  · obtain ⟨z, rfl, _⟩ := h
    rfl
  · obtain ⟨z, rfl, hz, q⟩ := h
    refine ⟨_, (pss_one (ps_try_as (i := 1) rfl rfl sc_l_group_told.nd rfl rfl ⟨rfl, by decide, .inl T.g_GrowsError⟩ takes0 (fun W pn xe tk _ => (pss_one (ps_ret (pe_callS G_check_group (hr.mono (by decide)) (by rfl) T.check_group.g T.check_group.F.kp T.check_group.B (fun σ => passAt tk σ) (pa_cons (pv 0) pa_nil)))))
        (fun a oe cls d pn hz hf => (pss_one (ps_ret (pe_tup (pa_cons (pe_callB (call_isG hz hf) (by rfl) T.b_isinstance (by decide +kernel) (pa_cons (pv 1) (pa_cons (pe_glob (v := .ref T.a_InvalidSigns) (by rfl) T.g_InvalidSigns rfl) pa_nil))) (pa_cons (pe_callB (call_isG hz hf) (by rfl) T.b_isinstance (by decide +kernel) (pa_cons (pv 1) (pa_cons (pe_glob (v := .ref T.a_InvalidGroup) (by rfl) T.g_InvalidGroup rfl) pa_nil))) (pa_cons (pe_callB (call_isG hz hf) (by rfl) T.b_isinstance (by decide +kernel) (pa_cons (pv 1) (pa_cons (pe_glob (v := .ref T.a_UnknownSign) (by rfl) T.g_UnknownSign rfl) pa_nil))) (pa_cons (pe_callB (call_isG hz hf) (by rfl) T.b_isinstance (by decide +kernel) (pa_cons (pv 1) (pa_cons (pe_bltn (v := .ty "ValueError") (by rfl) T.b_ValueError (by decide +kernel) rfl) pa_nil))) (pa_cons (pe_xg hz hf (pv 1)) pa_nil))))))))))), ?_⟩
    refine ⟨.str z, rfl, z, rfl, hz, fun ha H' e => ?_, fun ha H' d e nd hd => ?_⟩
    · rw [if_pos ha] at q
      exact q H' e
    · rw [if_neg (by rw [ha]; decide)] at q
      refine ⟨true, T.m_InvalidGroup, fun _ a na => ?_, fun z => by cases z⟩
      refine ⟨.ref a, rfl, T.a_InvalidGroup, .ref T.a_InvalidSigns, .ref T.a_InvalidSigns, _, d, _, rfl, T.x_InvalidGroup, rfl, fun u r => r, T.k_InvalidGroup_InvalidSigns, rfl, hd, ?_⟩
      refine ⟨.ref a, rfl, T.a_InvalidGroup, .ref T.a_InvalidGroup, .ref T.a_InvalidGroup, _, d, _, rfl, T.x_InvalidGroup, rfl, fun u r => r, T.k_InvalidGroup_InvalidGroup, rfl, hd, ?_⟩
      refine ⟨.ref a, rfl, T.a_InvalidGroup, .ref T.a_UnknownSign, .ref T.a_UnknownSign, _, d, _, rfl, T.x_InvalidGroup, rfl, fun u r => r, T.k_InvalidGroup_UnknownSign, rfl, hd, ?_⟩
      refine ⟨.ref a, rfl, T.a_InvalidGroup, .ty "ValueError", .type "ValueError", _, d, _, rfl, T.x_InvalidGroup, rfl, fun u r => r, T.v_InvalidGroup, rfl, hd, ?_⟩
      refine ⟨.ref a, rfl, T.a_InvalidGroup, d, _, .str z, rfl, rfl, T.f_InvalidGroup, T.o_InvalidGroup.noN, rfl, hd, rfl, ?_⟩
      refine ⟨by show 5 ≤ sizeLine; decide, fun p np => ?_⟩
      exact q _ p (e.trans (Ex.new np)) (fresh_back e np) upd_same
def sp_l_row_told : Sp := fun vs H Q _ => ∃ z g, vs = [.str z, .str g] ∧ Sm z ∧ Told (match strangeB z g with
  | none => .inl z
  | some c => .inr (false, false, true, (⟨#[c]⟩ : Str))) H Q
theorem ok_l_row_told (T : Tx P K mg) : FnOk P w K mg base (L2.CX P w) 3 T.l_row_told.f T.l_row_told.fd ["_law_row", "_law_signs_here"] sp_l_row_told := by
  have G_check_row : FnOk P w K mg base (L2.CX P w) 2 T.check_row.f T.check_row.fd ["row", "signs"] (sp_check_row T.a_UnknownSign) := ok_check_row T
  refine T.l_row_told.F.okX sc_l_row_told (fun vs H Q E h => ?_) (fun cdv A outer s H vs Q E hr h => ?_)
  · obtain ⟨z, g, rfl, _⟩ := h
    rfl
  · obtain ⟨z, g, rfl, hz, q⟩ := h
    refine ⟨_, (pss_one (ps_try_as (i := 2) rfl rfl sc_l_row_told.nd rfl rfl ⟨rfl, by decide, .inl T.g_GrowsError⟩ takes0 (fun W pn xe tk _ => (pss_one (ps_ret (pe_callS G_check_row (hr.mono (by decide)) (by rfl) T.check_row.g T.check_row.F.kp T.check_row.B (fun σ => passAt tk σ) (pa_cons (pv 0) (pa_cons (pv 1) pa_nil))))))
        (fun a oe cls d pn hz hf => (pss_one (ps_ret (pe_tup (pa_cons (pe_callB (call_isG hz hf) (by rfl) T.b_isinstance (by decide +kernel) (pa_cons (pv 2) (pa_cons (pe_glob (v := .ref T.a_InvalidSigns) (by rfl) T.g_InvalidSigns rfl) pa_nil))) (pa_cons (pe_callB (call_isG hz hf) (by rfl) T.b_isinstance (by decide +kernel) (pa_cons (pv 2) (pa_cons (pe_glob (v := .ref T.a_InvalidGroup) (by rfl) T.g_InvalidGroup rfl) pa_nil))) (pa_cons (pe_callB (call_isG hz hf) (by rfl) T.b_isinstance (by decide +kernel) (pa_cons (pv 2) (pa_cons (pe_glob (v := .ref T.a_UnknownSign) (by rfl) T.g_UnknownSign rfl) pa_nil))) (pa_cons (pe_callB (call_isG hz hf) (by rfl) T.b_isinstance (by decide +kernel) (pa_cons (pv 2) (pa_cons (pe_bltn (v := .ty "ValueError") (by rfl) T.b_ValueError (by decide +kernel) rfl) pa_nil))) (pa_cons (pe_xg hz hf (pv 2)) pa_nil))))))))))), ?_⟩
    cases hs : strangeB z g with
    | none =>
      rw [hs] at q
      refine ⟨.str z, rfl, .str g, rfl, z, g, rfl, hz, fun _ H' e => q H' e, fun c hc => ?_⟩
      rw [hs] at hc
      cases hc
    | some c0 =>
      rw [hs] at q
      refine ⟨.str z, rfl, .str g, rfl, z, g, rfl, hz, fun hn => ?_, fun c hc => ?_⟩
      · rw [hs] at hn
        cases hn
      · rw [hs] at hc
        have ec : c = c0 := (Option.some.inj hc).symm
        subst ec
        intro H' d e nd hd
        refine ⟨true, T.m_UnknownSign, fun _ a na => ?_, fun z => by cases z⟩
        refine ⟨.ref a, rfl, T.a_UnknownSign, .ref T.a_InvalidSigns, .ref T.a_InvalidSigns, _, d, _, rfl, T.x_UnknownSign, rfl, fun u r => r, T.k_UnknownSign_InvalidSigns, rfl, hd, ?_⟩
        refine ⟨.ref a, rfl, T.a_UnknownSign, .ref T.a_InvalidGroup, .ref T.a_InvalidGroup, _, d, _, rfl, T.x_UnknownSign, rfl, fun u r => r, T.k_UnknownSign_InvalidGroup, rfl, hd, ?_⟩
        refine ⟨.ref a, rfl, T.a_UnknownSign, .ref T.a_UnknownSign, .ref T.a_UnknownSign, _, d, _, rfl, T.x_UnknownSign, rfl, fun u r => r, T.k_UnknownSign_UnknownSign, rfl, hd, ?_⟩
        refine ⟨.ref a, rfl, T.a_UnknownSign, .ty "ValueError", .type "ValueError", _, d, _, rfl, T.x_UnknownSign, rfl, fun u r => r, T.v_UnknownSign, rfl, hd, ?_⟩
        refine ⟨.ref a, rfl, T.a_UnknownSign, d, _, .str ⟨#[c]⟩, rfl, rfl, T.f_UnknownSign, T.o_UnknownSign.noN, rfl, hd, rfl, ?_⟩
        refine ⟨by show 5 ≤ sizeLine; decide, fun p np => ?_⟩
        exact q _ p (e.trans (Ex.new np)) (fresh_back e np) upd_same
def sp_l_raised : Sp := fun vs H Q _ => ∃ z, vs = [.str z] ∧ Sm z ∧ Told (.inr (false, false, false, z)) H Q
theorem ok_l_raised (T : Tx P K mg) : FnOk P w K mg base (L2.CX P w) 2 T.l_raised.f T.l_raised.fd ["_law_value"] sp_l_raised := by
  refine T.l_raised.F.okX sc_l_raised (fun vs H Q E h => ?_) (fun cdv A outer s H vs Q E hr h => ?_)
  · obtain ⟨z, rfl, _⟩ := h
    rfl
  · obtain ⟨z, rfl, hz, q⟩ := h
    refine ⟨_, (pss_one (ps_try_as (i := 1) (tb := fun W _ σ H => tMkGr P w T.a_GrowsError (tCons (tVar 0) tNil) σ H fun cls d H1 => W cls d σ H1) rfl rfl sc_l_raised.nd rfl rfl ⟨rfl, by decide, .inl T.g_GrowsError⟩ takes0 (fun W pn xe tk _ => (pss_one (ps_raiseGr rfl T.base T.o_GrowsError hr T.g_GrowsError tk (pa_cons (pv 0) pa_nil))))
        (fun a oe cls d pn hz hf => (pss_one (ps_ret (pe_tup (pa_cons (pe_callB (call_isG hz hf) (by rfl) T.b_isinstance (by decide +kernel) (pa_cons (pv 1) (pa_cons (pe_glob (v := .ref T.a_InvalidSigns) (by rfl) T.g_InvalidSigns rfl) pa_nil))) (pa_cons (pe_callB (call_isG hz hf) (by rfl) T.b_isinstance (by decide +kernel) (pa_cons (pv 1) (pa_cons (pe_glob (v := .ref T.a_InvalidGroup) (by rfl) T.g_InvalidGroup rfl) pa_nil))) (pa_cons (pe_callB (call_isG hz hf) (by rfl) T.b_isinstance (by decide +kernel) (pa_cons (pv 1) (pa_cons (pe_glob (v := .ref T.a_UnknownSign) (by rfl) T.g_UnknownSign rfl) pa_nil))) (pa_cons (pe_callB (call_isG hz hf) (by rfl) T.b_isinstance (by decide +kernel) (pa_cons (pv 1) (pa_cons (pe_bltn (v := .ty "ValueError") (by rfl) T.b_ValueError (by decide +kernel) rfl) pa_nil))) (pa_cons (pe_xg hz hf (pv 1)) pa_nil))))))))))), ?_⟩
    refine ⟨.str z, rfl, .str z, rfl, showV_str hz.2 (by have := hz.1; omega), fun d nd => ?_⟩
    refine ⟨true, T.m_GrowsError, fun _ a na => ?_, fun z => by cases z⟩
    have hd : (upd H d (.xd [(("value" : Str), V.str z)])) d = some (.xd [(("value" : Str), V.str z)]) := upd_same
    refine ⟨.ref a, rfl, T.a_GrowsError, .ref T.a_InvalidSigns, .ref T.a_InvalidSigns, _, d, _, rfl, T.x_GrowsError, rfl, fun u r => r, T.k_GrowsError_InvalidSigns, rfl, hd, ?_⟩
    refine ⟨.ref a, rfl, T.a_GrowsError, .ref T.a_InvalidGroup, .ref T.a_InvalidGroup, _, d, _, rfl, T.x_GrowsError, rfl, fun u r => r, T.k_GrowsError_InvalidGroup, rfl, hd, ?_⟩
    refine ⟨.ref a, rfl, T.a_GrowsError, .ref T.a_UnknownSign, .ref T.a_UnknownSign, _, d, _, rfl, T.x_GrowsError, rfl, fun u r => r, T.k_GrowsError_UnknownSign, rfl, hd, ?_⟩
    refine ⟨.ref a, rfl, T.a_GrowsError, .ty "ValueError", .type "ValueError", _, d, _, rfl, T.x_GrowsError, rfl, fun u r => r, T.v_GrowsError, rfl, hd, ?_⟩
    refine ⟨.ref a, rfl, T.a_GrowsError, d, _, .str z, rfl, rfl, T.f_GrowsError, T.o_GrowsError.noN, rfl, hd, rfl, ?_⟩
    refine ⟨by show 5 ≤ sizeLine; decide, fun p np => ?_⟩
    exact q _ p ((Ex.new nd).trans (Ex.new np)) (fresh_back (Ex.new nd) np) upd_same
end
end K0
end

section
set_option Elab.async false
set_option linter.all false
set_option maxRecDepth 100000
set_option maxHeartbeats 4000000
namespace Evl
open PySem PySem.Spec PyProof.Rows L2
section
variable {K : PySem.W.Frag} {σ : L2.St} {H : Hp} {te ta tb : TE} {x y : V}
def rIsN1 : R2 := fun x y H Q => y = .non ∧ Q (.bl (decide (x = .non))) H
theorem rv_isN : RV rIsN1 x .non H (.bl (decide (x = .non))) := fun H1 _ _ q => ⟨rfl, q H1 (Ex.refl H1)⟩
/-- x is of that built-in type, now and later -/
def Typ (K : PySem.W.Frag) (H : Hp) (x : V) (t : String) : Prop := ∀ H1, Ex H H1 → TyX K H1 x (.type t)
theorem typ_non : Typ K H .non "NoneType" := fun _ _ => .base .non
theorem typ_bl {b : Bool} : Typ K H (.bl b) "bool" := fun _ _ => .base (.bl b)
theorem typ_int {i : Int} : Typ K H (.int i) "int" := fun _ _ => .base (.int i)
theorem typ_str {z : Str} : Typ K H (.str z) "str" := fun _ _ => .base (.str z)
theorem typ_lst {a : Addr} {xs : List V} (h : H a = some (.lst xs)) : Typ K H (.ref a) "list" := fun _ e => .base (.lst (e _ _ h))
theorem typ_tup {a : Addr} {xs : List V} (h : H a = some (.tup xs)) : Typ K H (.ref a) "tuple" := fun _ e => .base (.tup (e _ _ h))
theorem ev_isi {t c : String} {b : Bool} (h : Ev te σ H x) (ht : Typ K H x t) (hk : kitB t c = some b) : Ev (tCB (rIsi K) (tCons te (tCons (tC (.ty c)) tNil))) σ H (.bl b) := fun H1 e Q q =>
  h H1 e _ fun H2 e2 => ⟨x, .ty c, .type t, .type c, b, rfl, .ty c, ht H2 (e.trans e2), kit_ty hk, q H2 e2⟩
theorem ev_len2 {p : Addr} {xs : List V} (ha : Ev ta σ H (.ref p)) (h : H p = some (.lst xs) ∨ H p = some (.tup xs)) : Ev (tCB (rLenS K) (tCons ta tNil)) σ H (.int (xs.length : Int)) := fun H1 e Q q =>
  ha H1 e _ fun H2 e2 => ⟨p, xs, rfl, h.elim (fun z => Or.inl (sq_of ((e.trans e2) _ _ z))) (fun z => Or.inr (st_of ((e.trans e2) _ _ z))), q H2 e2⟩
theorem rv_ix2 {p : Addr} {xs : List V} {i : Nat} {v : V} (h : H p = some (.lst xs) ∨ H p = some (.tup xs)) (hv : xs[i]? = some v) : RV (rIx K) (.ref p) (.int (i : Int)) H v := fun H1 e Q q =>
  h.elim (fun z => Or.inl ⟨p, xs, _, v, rfl, rfl, sq_of (e _ _ z), atI_nat hv, q H1 (Ex.refl H1)⟩) (fun z => Or.inr (Or.inl ⟨p, xs, _, v, rfl, rfl, st_of (e _ _ z), atI_nat hv, q H1 (Ex.refl H1)⟩))
end
theorem kit_bool_bool : kitB "bool" "bool" = some true := by decide +kernel
theorem kit_bool_int : kitB "bool" "int" = some true := by decide +kernel
theorem kit_bool_str : kitB "bool" "str" = some false := by decide +kernel
theorem kit_bool_list : kitB "bool" "list" = some false := by decide +kernel
theorem kit_bool_tuple : kitB "bool" "tuple" = some false := by decide +kernel
theorem kit_int_bool : kitB "int" "bool" = some false := by decide +kernel
theorem kit_int_int : kitB "int" "int" = some true := by decide +kernel
theorem kit_int_str : kitB "int" "str" = some false := by decide +kernel
theorem kit_int_list : kitB "int" "list" = some false := by decide +kernel
theorem kit_int_tuple : kitB "int" "tuple" = some false := by decide +kernel
theorem kit_str_bool : kitB "str" "bool" = some false := by decide +kernel
theorem kit_str_int : kitB "str" "int" = some false := by decide +kernel
theorem kit_str_str : kitB "str" "str" = some true := by decide +kernel
theorem kit_str_list : kitB "str" "list" = some false := by decide +kernel
theorem kit_str_tuple : kitB "str" "tuple" = some false := by decide +kernel
theorem kit_list_bool : kitB "list" "bool" = some false := by decide +kernel
theorem kit_list_int : kitB "list" "int" = some false := by decide +kernel
theorem kit_list_str : kitB "list" "str" = some false := by decide +kernel
theorem kit_list_list : kitB "list" "list" = some true := by decide +kernel
theorem kit_list_tuple : kitB "list" "tuple" = some false := by decide +kernel
theorem kit_tuple_bool : kitB "tuple" "bool" = some false := by decide +kernel
theorem kit_tuple_int : kitB "tuple" "int" = some false := by decide +kernel
theorem kit_tuple_str : kitB "tuple" "str" = some false := by decide +kernel
theorem kit_tuple_list : kitB "tuple" "list" = some false := by decide +kernel
theorem kit_tuple_tuple : kitB "tuple" "tuple" = some true := by decide +kernel
end Evl
namespace K0
open PySem PySem.Spec PyProof.Rows L2 Evl
local macro_rules | `(tactic| walk_at "rv") => `(tactic| first
  | exact rv_I0
  | (apply rv_I; first | exact (by decide) | (refine Or.inr ⟨?_, ?_⟩ <;> decide) | (refine Or.inl ⟨?_, ?_⟩ <;> decide) | (refine ⟨?_, ?_⟩ <;> first | decide | omega) | (refine ⟨?_, ?_, ?_⟩ <;> first | decide | omega) | omega | assumption)
  | (apply rv_eq; rfl)
  | (apply rv_ne; rfl)
  | (apply rv_ixL; (focus (apply sq_of; assumption)); (focus rfl))
  | exact rv_inSg
  | exact rv_niSg
  | exact rv_ltS
  | (apply rv_addT; first | assumption | omega))
local macro_rules | `(tactic| walk_at "ev") => `(tactic| first
  | exact ev_c
  | (apply ev_var; rfl)
  | assumption
  | (apply ev_op; (focus walk_at "ev"); (focus walk_at "ev"); (focus walk_at "rv"))
  | (apply ev_len; (focus walk_at "ev"); (focus (apply sq_of; assumption)))
  | (apply ev_lenS; (focus walk_at "ev"); (focus (first | assumption | omega)))
  | (apply ev_int1; (focus walk_at "ev"))
  | (apply ev_intB; (focus walk_at "ev"))
  | (apply ev_notV; (focus walk_at "ev"))
  | (apply ev_chain; (focus walk_at "ev"); (focus walk_at "ev"); (focus walk_at "rv"); (focus walk_at "ev"); (focus walk_at "rv")))
local macro_rules | `(tactic| walk_at "et") => `(tactic| first
  | (apply et_and; (focus walk_at "et"); (focus (intro _; walk_at "et")))
  | (apply et_or; (focus walk_at "et"); (focus (intro _; walk_at "et")))
  | (apply et_not; (focus walk_at "et"))
  | (apply et_test; (focus walk_at "ev"))
  | (apply et_B; (focus walk_at "ev")))
local macro_rules | `(tactic| walk_at "ea") => `(tactic| first
  | exact ea_nil
  | (apply ea_cons; (focus walk_at "ev"); (focus walk_at "ea")))
local macro_rules | `(tactic| walk_at "ev") => `(tactic| (apply ev_call; (focus walk_at "ea"); (focus walk_at "spv")))
local macro_rules | `(tactic| walk_at "rv") => `(tactic| exact rv_isN)
local macro_rules | `(tactic| walk_at "ev") => `(tactic| (apply ev_len2; (focus walk_at "ev"); (focus (first | exact Or.inl (by assumption) | exact Or.inr (by assumption)))))
local macro_rules | `(tactic| walk_at "kit") => `(tactic| first | exact kit_bool_bool | exact kit_bool_int | exact kit_bool_str | exact kit_bool_list | exact kit_bool_tuple | exact kit_int_bool | exact kit_int_int | exact kit_int_str | exact kit_int_list | exact kit_int_tuple | exact kit_str_bool | exact kit_str_int | exact kit_str_str | exact kit_str_list | exact kit_str_tuple | exact kit_list_bool | exact kit_list_int | exact kit_list_str | exact kit_list_list | exact kit_list_tuple | exact kit_tuple_bool | exact kit_tuple_int | exact kit_tuple_str | exact kit_tuple_list | exact kit_tuple_tuple)
local macro_rules | `(tactic| walk_at "ty") => `(tactic| first | exact typ_non | exact typ_bl | exact typ_int | exact typ_str | (apply typ_lst; assumption) | (apply typ_tup; assumption))
local macro_rules | `(tactic| walk_at "ev") => `(tactic| (apply ev_isi; (focus walk_at "ev"); (focus walk_at "ty"); (focus walk_at "kit")))
local macro_rules | `(tactic| walk_at "ev") => `(tactic| (apply ev_andV; (focus walk_at "ev"); (focus (intro _; walk_at "ev"))))
/-- a value without parts -/
inductive Flat : V → Prop
  | non : Flat .non
  | bl (b : Bool) : Flat (.bl b)
  | int (i : Int) : Flat (.int i)
  | str (z : Str) : Flat (.str z)
/-- equal data, n deep -/
def Alike : Nat → Hp → V → V → Prop
  | 0, _, x, y => Flat x ∧ y = x
  | n + 1, H, x, y => (Flat x ∧ y = x) ∨ ∃ p q xs ys, x = .ref p ∧ y = .ref q ∧ xs.length = ys.length ∧ xs.length ≤ 50000 ∧ ((H p = some (.lst xs) ∧ H q = some (.lst ys)) ∨ (H p = some (.tup xs) ∧ H q = some (.tup ys))) ∧
      ∀ (i : Nat) (x y : V), xs[i]? = some x → ys[i]? = some y → Alike n H x y
theorem Alike.ex : ∀ {n : Nat} {H H' : Hp} {x y : V}, Alike n H x y → Ex H H' → Alike n H' x y
  | 0, _, _, _, _, h, _ => h
  | n + 1, H, H', x, y, h, e => h.elim Or.inl fun ⟨p, q, xs, ys, a, b, c, d, f, k⟩ => Or.inr ⟨p, q, xs, ys, a, b, c, d, f.elim (fun z => Or.inl ⟨e _ _ z.1, e _ _ z.2⟩) (fun z => Or.inr ⟨e _ _ z.1, e _ _ z.2⟩), fun i x y h1 h2 => (k i x y h1 h2).ex e⟩
theorem Alike.up : ∀ {n : Nat} {H : Hp} {x y : V}, Alike n H x y → Alike (n + 1) H x y
  | 0, _, _, _, h => Or.inl h
  | n + 1, H, x, y, h => h.elim Or.inl fun ⟨p, q, xs, ys, a, b, c, d, f, k⟩ => Or.inr ⟨p, q, xs, ys, a, b, c, d, f, fun i x y h1 h2 => (k i x y h1 h2).up⟩
def sp_l_same (n : Nat) : Sp := fun vs H Q _ => ∃ x y, vs = [x, y] ∧ Alike n H x y ∧ ∀ H', Ex H H' → Q (.bl true) H'
theorem spv_l_same {n : Nat} {H : Hp} {x y : V} (h : Alike n H x y) : SpV (sp_l_same n) [x, y] H (.bl true) := fun H1 e Q q E => ⟨x, y, rfl, h.ex e, q⟩
section
variable {P : Program} {w : World} {K : PySem.W.Frag} {mg : Str → Option Value} {base : Heap} {H : Hp}
theorem ok_l_same (T : Tx P K mg) : ∀ n, FnOk P w K mg base (L2.CX P w) (n + 1) T.l_same.f T.l_same.fd ["_law_actual", "_law_due"] (sp_l_same n) := by
  have flat : ∀ (cdv : Value) (A : Around) (outer : List Env) (s : Shared) (H : Hp) (x : V) (Q : VK) (E : XK), Flat x → (∀ H', Ex H H' → Q (.bl true) H') →
      ∃ t, PSs (cxOf (L2.CX P w) P w K mg base N_l_same "_law_same" (defScope s_l_same) T.l_same.f cdv A outer s H E) (defBody s_l_same) t ∧ t { nx := fun _ H' => Q .non H', rt := Q } (start N_l_same [x, x]) H := by
    intro cdv A outer s H x Q E hf q
    refine ⟨_, (pss_cons (ps_if (pt_cmpR op_isN (pv 1) pe_non (nomark _))
        (pss_one (ps_ret (pe_cmpR op_isN (pv 0) pe_non (nomark _)))) pss_nil)
      (pss_cons (ps_if (pt_val (pe_callB (call_isi) (by rfl) T.b_isinstance (by decide +kernel) (pa_cons (pv 1) (pa_cons (pe_bltn (v := .ty "bool") (by rfl) T.b_bool (by decide +kernel) rfl) pa_nil))))
        (pss_one (ps_ret (pe_and (pe_callB (call_isi) (by rfl) T.b_isinstance (by decide +kernel) (pa_cons (pv 0) (pa_cons (pe_bltn (v := .ty "bool") (by rfl) T.b_bool (by decide +kernel) rfl) pa_nil))) (pe_one (pe_cmpR op_eq (pv 0) (pv 1) (nomark _)))))) pss_nil)
      (pss_cons (ps_if (pt_val (pe_callB (call_isi) (by rfl) T.b_isinstance (by decide +kernel) (pa_cons (pv 1) (pa_cons (pe_bltn (v := .ty "int") (by rfl) T.b_int (by decide +kernel) rfl) pa_nil))))
        (pss_one (ps_ret (pe_and (pe_callB (call_isi) (by rfl) T.b_isinstance (by decide +kernel) (pa_cons (pv 0) (pa_cons (pe_bltn (v := .ty "int") (by rfl) T.b_int (by decide +kernel) rfl) pa_nil))) (pe_and (pe_not (pe_callB (call_isi) (by rfl) T.b_isinstance (by decide +kernel) (pa_cons (pv 0) (pa_cons (pe_bltn (v := .ty "bool") (by rfl) T.b_bool (by decide +kernel) rfl) pa_nil)))) (pe_one (pe_cmpR op_eq (pv 0) (pv 1) (nomark _))))))) pss_nil)
      (pss_cons (ps_if (pt_val (pe_callB (call_isi) (by rfl) T.b_isinstance (by decide +kernel) (pa_cons (pv 1) (pa_cons (pe_bltn (v := .ty "str") (by rfl) T.b_str (by decide +kernel) rfl) pa_nil))))
        (pss_one (ps_ret (pe_and (pe_callB (call_isi) (by rfl) T.b_isinstance (by decide +kernel) (pa_cons (pv 0) (pa_cons (pe_bltn (v := .ty "str") (by rfl) T.b_str (by decide +kernel) rfl) pa_nil))) (pe_one (pe_cmpR op_eq (pv 0) (pv 1) (nomark _)))))) pss_nil)
      pss_never)))), ?_⟩
    cases hf with
    | non =>
      refine q_when (b := true) (et_is (by walk_at "et") (by rfl)) (fun hb H1 e1 => ?_) (fun hb H1 e1 => by cases hb)
      exact s_ret (v := .bl true) (by walk_at "ev") fun H2 e2 => q _ (e1.trans e2)
    | bl b =>
      refine q_when (b := false) (et_is (by walk_at "et") (by rfl)) (fun hb H1 e1 => by cases hb) (fun hb H1 e1 => ?_)
      refine q_when (b := true) (by walk_at "et") (fun hb H2 e2 => ?_) (fun hb H1 e1 => by cases hb)
      exact s_ret (v := .bl true) (ev_is (by walk_at "ev") (by simp)) fun H3 e3 => q _ ((e1.trans e2).trans e3)
    | int i =>
      refine q_when (b := false) (et_is (by walk_at "et") (by rfl)) (fun hb H1 e1 => by cases hb) (fun hb H1 e1 => ?_)
      refine q_when (b := false) (by walk_at "et") (fun hb H2 e2 => by cases hb) (fun hb H2 e2 => ?_)
      refine q_when (b := true) (by walk_at "et") (fun hb H3 e3 => ?_) (fun hb H3 e3 => by cases hb)
      exact s_ret (v := .bl true) (ev_is (by walk_at "ev") (by simp)) fun H4 e4 => q _ (((e1.trans e2).trans e3).trans e4)
    | str z =>
      refine q_when (b := false) (et_is (by walk_at "et") (by rfl)) (fun hb H1 e1 => by cases hb) (fun hb H1 e1 => ?_)
      refine q_when (b := false) (by walk_at "et") (fun hb H2 e2 => by cases hb) (fun hb H2 e2 => ?_)
      refine q_when (b := false) (by walk_at "et") (fun hb H3 e3 => by cases hb) (fun hb H3 e3 => ?_)
      refine q_when (b := true) (by walk_at "et") (fun hb H4 e4 => ?_) (fun hb H4 e4 => by cases hb)
      exact s_ret (v := .bl true) (ev_is (by walk_at "ev") (by simp)) fun H5 e5 => q _ ((((e1.trans e2).trans e3).trans e4).trans e5)
  intro n
  induction n with
  | zero =>
    refine T.l_same.F.okX sc_l_same (fun vs H Q E h => ?_) (fun cdv A outer s H vs Q E hr h => ?_)
    · obtain ⟨x, y, rfl, _⟩ := h
      rfl
    · obtain ⟨x, y, rfl, ⟨hf, rfl⟩, q⟩ := h
      exact flat cdv A outer s H _ Q E hf q
  | succ n ih =>
    have G_l_same := ih
    refine T.l_same.F.okX sc_l_same (fun vs H Q E h => ?_) (fun cdv A outer s H vs Q E hr h => ?_)
    · obtain ⟨x, y, rfl, _⟩ := h
      rfl
    · obtain ⟨x, y, rfl, hal, q⟩ := h
      rcases hal with ⟨hf, rfl⟩ | ⟨pa, pb, xs, ys, rfl, rfl, hlen, hsz, hobj, hit⟩
      · exact flat cdv A outer s H _ Q E hf q
      · have hta : ∀ H1, Ex H H1 → (H1 pa = some (.lst xs) ∨ H1 pa = some (.tup xs)) := fun H1 e => hobj.elim (fun z => Or.inl (e _ _ z.1)) (fun z => Or.inr (e _ _ z.1))
        have htb : ∀ H1, Ex H H1 → (H1 pb = some (.lst ys) ∨ H1 pb = some (.tup ys)) := fun H1 e => hobj.elim (fun z => Or.inl (e _ _ z.2)) (fun z => Or.inr (e _ _ z.2))
        refine ⟨_, (pss_cons (ps_if (pt_cmpR op_isN (pv 1) pe_non (nomark _))
        (pss_one (ps_ret (pe_cmpR op_isN (pv 0) pe_non (nomark _)))) pss_nil)
      (pss_cons (ps_if (pt_val (pe_callB (call_isi) (by rfl) T.b_isinstance (by decide +kernel) (pa_cons (pv 1) (pa_cons (pe_bltn (v := .ty "bool") (by rfl) T.b_bool (by decide +kernel) rfl) pa_nil))))
        (pss_one (ps_ret (pe_and (pe_callB (call_isi) (by rfl) T.b_isinstance (by decide +kernel) (pa_cons (pv 0) (pa_cons (pe_bltn (v := .ty "bool") (by rfl) T.b_bool (by decide +kernel) rfl) pa_nil))) (pe_one (pe_cmpR op_eq (pv 0) (pv 1) (nomark _)))))) pss_nil)
      (pss_cons (ps_if (pt_val (pe_callB (call_isi) (by rfl) T.b_isinstance (by decide +kernel) (pa_cons (pv 1) (pa_cons (pe_bltn (v := .ty "int") (by rfl) T.b_int (by decide +kernel) rfl) pa_nil))))
        (pss_one (ps_ret (pe_and (pe_callB (call_isi) (by rfl) T.b_isinstance (by decide +kernel) (pa_cons (pv 0) (pa_cons (pe_bltn (v := .ty "int") (by rfl) T.b_int (by decide +kernel) rfl) pa_nil))) (pe_and (pe_not (pe_callB (call_isi) (by rfl) T.b_isinstance (by decide +kernel) (pa_cons (pv 0) (pa_cons (pe_bltn (v := .ty "bool") (by rfl) T.b_bool (by decide +kernel) rfl) pa_nil)))) (pe_one (pe_cmpR op_eq (pv 0) (pv 1) (nomark _))))))) pss_nil)
      (pss_cons (ps_if (pt_val (pe_callB (call_isi) (by rfl) T.b_isinstance (by decide +kernel) (pa_cons (pv 1) (pa_cons (pe_bltn (v := .ty "str") (by rfl) T.b_str (by decide +kernel) rfl) pa_nil))))
        (pss_one (ps_ret (pe_and (pe_callB (call_isi) (by rfl) T.b_isinstance (by decide +kernel) (pa_cons (pv 0) (pa_cons (pe_bltn (v := .ty "str") (by rfl) T.b_str (by decide +kernel) rfl) pa_nil))) (pe_one (pe_cmpR op_eq (pv 0) (pv 1) (nomark _)))))) pss_nil)
      (pss_cons (ps_if (PW.pt (pw_and (pt_val (pe_callB (call_isi) (by rfl) T.b_isinstance (by decide +kernel) (pa_cons (pv 1) (pa_cons (pe_bltn (v := .ty "tuple") (by rfl) T.b_tuple (by decide +kernel) rfl) pa_nil)))) (pw_and1 (pt_not (pt_val (pe_callB (call_isi) (by rfl) T.b_isinstance (by decide +kernel) (pa_cons (pv 0) (pa_cons (pe_bltn (v := .ty "tuple") (by rfl) T.b_tuple (by decide +kernel) rfl) pa_nil))))))))
        (pss_one (ps_ret pe_bl)) pss_nil)
      (pss_cons (ps_if (PW.pt (pw_and (pt_val (pe_callB (call_isi) (by rfl) T.b_isinstance (by decide +kernel) (pa_cons (pv 1) (pa_cons (pe_bltn (v := .ty "list") (by rfl) T.b_list (by decide +kernel) rfl) pa_nil)))) (pw_and1 (pt_not (pt_val (pe_callB (call_isi) (by rfl) T.b_isinstance (by decide +kernel) (pa_cons (pv 0) (pa_cons (pe_bltn (v := .ty "list") (by rfl) T.b_list (by decide +kernel) rfl) pa_nil))))))))
        (pss_one (ps_ret pe_bl)) pss_nil)
      (pss_cons (ps_if (pt_cmpR op_ne (pe_callB call_len_seq (by rfl) T.b_len PySem.boot_len (pa_cons (pv 0) pa_nil)) (pe_callB call_len_seq (by rfl) T.b_len PySem.boot_len (pa_cons (pv 1) pa_nil)) (nomark _))
        (pss_one (ps_ret pe_bl)) pss_nil)
      (pss_cons (ps_for (passes_of rfl) rfl (pi_range1 (by rfl) T.b_range (pa_cons (pe_callB call_len_seq (by rfl) T.b_len PySem.boot_len (pa_cons (pv 1) pa_nil)) pa_nil)) (pg_name (i := 2) sc_l_same.nd rfl (Or.inl rfl))
        (pss_one (ps_if (pt_not (pt_val (pe_call (E := E0) G_l_same hr (by rfl) T.l_same.g T.l_same.F.kp T.l_same.B .nil passL (pa_cons (pe_ix ix_seq (pv 0) (pv 2) (fun _ _ => rfl)) (pa_cons (pe_ix ix_seq (pv 1) (pv 2) (fun _ _ => rfl)) pa_nil)))))
          (pss_one (ps_ret pe_bl)) pss_nil)))
      (pss_one (ps_ret pe_bl)))))))))), ?_⟩
        rcases hobj with ⟨hx, hy⟩ | ⟨hx, hy⟩
        · have e1 := Ex.refl H
          refine q_when (b := false) (et_is (by walk_at "et") (by rfl)) (fun hb H1 e1 => by cases hb) (fun hb H1 e1 => ?_)
          have hx := e1 _ _ hx
          have hy := e1 _ _ hy
          refine q_when (b := false) (by walk_at "et") (fun hb H2 e2 => by cases hb) (fun hb H2 e2 => ?_)
          have hx := e2 _ _ hx
          have hy := e2 _ _ hy
          refine q_when (b := false) (by walk_at "et") (fun hb H3 e3 => by cases hb) (fun hb H3 e3 => ?_)
          have hx := e3 _ _ hx
          have hy := e3 _ _ hy
          refine q_when (b := false) (by walk_at "et") (fun hb H4 e4 => by cases hb) (fun hb H4 e4 => ?_)
          have hx := e4 _ _ hx
          have hy := e4 _ _ hy
          refine q_when (b := false) (et_is (by walk_at "et") (by rfl)) (fun hb H5 e5 => by cases hb) (fun hb H5 e5 => ?_)
          have hx := e5 _ _ hx
          have hy := e5 _ _ hy
          refine q_when (b := false) (et_is (by walk_at "et") (by rfl)) (fun hb H6 e6 => by cases hb) (fun hb H6 e6 => ?_)
          have hx := e6 _ _ hx
          have hy := e6 _ _ hy
          have e06 := ((((e1.trans e2).trans e3).trans e4).trans e5).trans e6
          refine q_when (b := false) (et_is (by walk_at "et") (by rw [hlen]; simp)) (fun hb H7 e7 => by cases hb) (fun hb H7 e7 => ?_)
          have hx := e7 _ _ hx
          have hy := e7 _ _ hy
          refine q_forR1 (n := (ys.length : Int)) (ea_cons (by walk_at "ev") ea_nil) (by omega) (fun i σ' H' => ∃ x2, σ' = [some (.ref pa), some (.ref pb), x2] ∧ Ex H H') (fun H8 e8 => ⟨none, rfl, (e06.trans e7).trans e8⟩) (fun i σ' H' hi hP => ?_) (fun σ' H' hP => ?_)
          · obtain ⟨x2, rfl, e8⟩ := hP
            have hiy : i < ys.length := by omega
            have hix : i < xs.length := by omega
            have gx := List.getElem?_eq_getElem hix
            have gy := List.getElem?_eq_getElem hiy
            refine s_when (b := false) (et_is (et_not (et_B (ev_call (ea_cons (ev_op (ev_var rfl) (ev_var rfl) (rv_ix2 (hta _ e8) gx)) (ea_cons (ev_op (ev_var rfl) (ev_var rfl) (rv_ix2 (htb _ e8) gy)) ea_nil)) (spv_l_same ((hit i _ _ gx gy).ex e8))))) rfl) (fun hb H9 e9 => by cases hb) (fun hb H9 e9 => ?_)
            exact ⟨_, rfl, e8.trans e9⟩
          · obtain ⟨x2, rfl, e8⟩ := hP
            exact s_ret ev_c fun H9 e9 => q _ (e8.trans e9)
        · have e1 := Ex.refl H
          refine q_when (b := false) (et_is (by walk_at "et") (by rfl)) (fun hb H1 e1 => by cases hb) (fun hb H1 e1 => ?_)
          have hx := e1 _ _ hx
          have hy := e1 _ _ hy
          refine q_when (b := false) (by walk_at "et") (fun hb H2 e2 => by cases hb) (fun hb H2 e2 => ?_)
          have hx := e2 _ _ hx
          have hy := e2 _ _ hy
          refine q_when (b := false) (by walk_at "et") (fun hb H3 e3 => by cases hb) (fun hb H3 e3 => ?_)
          have hx := e3 _ _ hx
          have hy := e3 _ _ hy
          refine q_when (b := false) (by walk_at "et") (fun hb H4 e4 => by cases hb) (fun hb H4 e4 => ?_)
          have hx := e4 _ _ hx
          have hy := e4 _ _ hy
          refine q_when (b := false) (et_is (by walk_at "et") (by rfl)) (fun hb H5 e5 => by cases hb) (fun hb H5 e5 => ?_)
          have hx := e5 _ _ hx
          have hy := e5 _ _ hy
          refine q_when (b := false) (et_is (by walk_at "et") (by rfl)) (fun hb H6 e6 => by cases hb) (fun hb H6 e6 => ?_)
          have hx := e6 _ _ hx
          have hy := e6 _ _ hy
          have e06 := ((((e1.trans e2).trans e3).trans e4).trans e5).trans e6
          refine q_when (b := false) (et_is (by walk_at "et") (by rw [hlen]; simp)) (fun hb H7 e7 => by cases hb) (fun hb H7 e7 => ?_)
          have hx := e7 _ _ hx
          have hy := e7 _ _ hy
          refine q_forR1 (n := (ys.length : Int)) (ea_cons (by walk_at "ev") ea_nil) (by omega) (fun i σ' H' => ∃ x2, σ' = [some (.ref pa), some (.ref pb), x2] ∧ Ex H H') (fun H8 e8 => ⟨none, rfl, (e06.trans e7).trans e8⟩) (fun i σ' H' hi hP => ?_) (fun σ' H' hP => ?_)
          · obtain ⟨x2, rfl, e8⟩ := hP
            have hiy : i < ys.length := by omega
            have hix : i < xs.length := by omega
            have gx := List.getElem?_eq_getElem hix
            have gy := List.getElem?_eq_getElem hiy
            refine s_when (b := false) (et_is (et_not (et_B (ev_call (ea_cons (ev_op (ev_var rfl) (ev_var rfl) (rv_ix2 (hta _ e8) gx)) (ea_cons (ev_op (ev_var rfl) (ev_var rfl) (rv_ix2 (htb _ e8) gy)) ea_nil)) (spv_l_same ((hit i _ _ gx gy).ex e8))))) rfl) (fun hb H9 e9 => by cases hb) (fun hb H9 e9 => ?_)
            exact ⟨_, rfl, e8.trans e9⟩
          · obtain ⟨x2, rfl, e8⟩ := hP
            exact s_ret ev_c fun H9 e9 => q _ (e8.trans e9)
end
end K0
end

section
set_option Elab.async false
set_option linter.all false
set_option maxRecDepth 100000
set_option maxHeartbeats 400000
namespace K0
open PySem PySem.Spec PyProof.Rows L2 Evl
local macro_rules | `(tactic| walk_at "rv") => `(tactic| first
  | exact rv_I0
  | (apply rv_I; first | exact (by decide) | (refine Or.inr ⟨?_, ?_⟩ <;> decide) | (refine Or.inl ⟨?_, ?_⟩ <;> decide) | (refine ⟨?_, ?_⟩ <;> first | decide | omega) | (refine ⟨?_, ?_, ?_⟩ <;> first | decide | omega) | omega | assumption)
  | (apply rv_eq; rfl)
  | (apply rv_ne; rfl)
  | (apply rv_ixL; (focus (apply sq_of; assumption)); (focus rfl))
  | exact rv_inSg
  | exact rv_niSg
  | exact rv_ltS
  | (apply rv_addT; first | assumption | omega))
local macro_rules | `(tactic| walk_at "ev") => `(tactic| first
  | exact ev_c
  | (apply ev_var; rfl)
  | assumption
  | (apply ev_op; (focus walk_at "ev"); (focus walk_at "ev"); (focus walk_at "rv"))
  | (apply ev_len; (focus walk_at "ev"); (focus (apply sq_of; assumption)))
  | (apply ev_lenS; (focus walk_at "ev"); (focus (first | assumption | omega)))
  | (apply ev_int1; (focus walk_at "ev"))
  | (apply ev_intB; (focus walk_at "ev"))
  | (apply ev_notV; (focus walk_at "ev"))
  | (apply ev_chain; (focus walk_at "ev"); (focus walk_at "ev"); (focus walk_at "rv"); (focus walk_at "ev"); (focus walk_at "rv")))
local macro_rules | `(tactic| walk_at "et") => `(tactic| first
  | (apply et_and; (focus walk_at "et"); (focus (intro _; walk_at "et")))
  | (apply et_or; (focus walk_at "et"); (focus (intro _; walk_at "et")))
  | (apply et_not; (focus walk_at "et"))
  | (apply et_test; (focus walk_at "ev"))
  | (apply et_B; (focus walk_at "ev")))
local macro_rules | `(tactic| walk_at "ea") => `(tactic| first
  | exact ea_nil
  | (apply ea_cons; (focus walk_at "ev"); (focus walk_at "ea")))
local macro_rules | `(tactic| walk_at "ev") => `(tactic| (apply ev_call; (focus walk_at "ea"); (focus walk_at "spv")))
section
variable {P : Program} {w : World} {K : PySem.W.Frag} {mg : Str → Option Value} {base : Heap} {H : Hp}
theorem dr {p : Addr} {m : Int} {H : Hp} {Q : VK} {E : XK} (hd : DS p H) (h1 : 1 ≤ m) (h2 : m < 1073741824) (k : ∀ (r : Nat) (H' : Hp), (r : Int) < m → Fr p H H' → Q (.int (r : Int)) H') : sp_l_draw [.ref p, .int m] H Q E := ⟨p, m, rfl, hd, h1, h2, k⟩
def sp_l_new : Sp := fun vs H Q _ => ∃ (a : Addr) (ns : List Int), vs = [.ref a] ∧ SqL K H a (ns.map V.int) ∧ ns.length ≤ 100 ∧ ∀ H' p, Ex H H' → H p = none → DS p H' → Q (.ref p) H'
theorem ok_l_new (T : Tx P K mg) : FnOk P w K mg base (L2.CX P w) 1 T.l_new.f T.l_new.fd ["_law_script"] (sp_l_new (K := K)) := by
  refine T.l_new.F.okX sc_l_new (fun vs H Q E h => ?_) (fun cdv A outer s H vs Q E hr h => ?_)
  · obtain ⟨a, ns, rfl, _⟩ := h
    rfl
  · obtain ⟨a, ns, rfl, hS, hn, q⟩ := h
    refine ⟨_, (pss_one (ps_ret (pe_lst (pa_cons (pe_callTy call_list_of (by rfl) T.b_list (by decide +kernel) (pa_cons (pv 0) pa_nil)) (pa_cons pe_int (pa_cons pe_int (pa_cons pe_int (pa_cons pe_int pa_nil)))))))), ?_⟩
    refine ⟨.ref a, rfl, a, ns.map V.int, rfl, Or.inl hS, fun l nl => ?_⟩
    refine ⟨by show 5 ≤ sizeLine; decide, fun p np => ?_⟩
    have hlp : l ≠ p := fun z => by
      rw [z, upd_same] at np
      cases np
    refine q _ p ((Ex.new nl).trans (Ex.new np)) (fresh_back (Ex.new nl) np) ⟨l, ns, 0, 0, 0, 0, upd_same, ?_, hn⟩
    rw [upd_ne hlp, upd_same]
theorem abc_len : ("abcdefghijklmnopqrstuvwxyz" : Str).length ≤ 100000 := by decide +kernel
theorem let_len : LETL.length = 26 := by decide +kernel
theorem let_small : ∀ c ∈ LETL, c < 128 := by decide +kernel
def sp_l_signs : Sp := fun vs H Q _ => ∃ p, vs = [.ref p, .int 4] ∧ DS p H ∧ ∀ (g : Str) (H' : Hp), 1 ≤ g.length → g.length ≤ 4 → (∀ c ∈ g.cps.toList, c ∈ LETL) → Fr p H H' → Q (.str g) H'
theorem ok_l_signs (T : Tx P K mg) : FnOk P w K mg base (L2.CX P w) 2 T.l_signs.f T.l_signs.fd ["_law_state", "_law_top"] sp_l_signs := by
  have G_l_draw : FnOk P w K mg base (L2.CX P w) 1 T.l_draw.f T.l_draw.fd ["_law_state", "_law_many"] sp_l_draw := ok_l_draw T
  refine T.l_signs.F.okX sc_l_signs (fun vs H Q E h => ?_) (fun cdv A outer s H vs Q E hr h => ?_)
  · obtain ⟨p, rfl, _⟩ := h
    rfl
  · obtain ⟨p, rfl, hds, q⟩ := h
    refine ⟨_, (pss_cons (ps_set (i := 2) sc_l_signs.nd rfl (Or.inl rfl) pe_str)
      (pss_cons (ps_set (i := 3) sc_l_signs.nd rfl (Or.inl rfl) (pe_op op_add pe_int (pe_call (E := E0) G_l_draw (hr.mono (by decide)) (by rfl) T.l_draw.g T.l_draw.F.kp T.l_draw.B .nil passL (pa_cons (pv 0) (pa_cons (pv 1) pa_nil)))))
      (pss_cons (ps_set (i := 4) sc_l_signs.nd rfl (Or.inl rfl) (pe_call (E := E0) G_l_draw (hr.mono (by decide)) (by rfl) T.l_draw.g T.l_draw.F.kp T.l_draw.B .nil passL (pa_cons (pv 0) (pa_cons pe_int pa_nil))))
      (pss_cons (ps_set (i := 5) sc_l_signs.nd rfl (Or.inl rfl) (pe_ix ix_str (pv 2) (pv 4) (fun _ _ => rfl)))
      (pss_cons (ps_for (passes_of rfl) rfl (pi_range1 (by rfl) T.b_range (pa_cons (pe_op op_sub (pv 3) pe_int) pa_nil)) (pg_name (i := 6) sc_l_signs.nd rfl (Or.inl rfl))
        (pss_cons (ps_set (i := 4) sc_l_signs.nd rfl (Or.inl rfl) (pe_op op_add (pe_op op_add (pv 4) pe_int) (pe_call (E := E0) G_l_draw (hr.mono (by decide)) (by rfl) T.l_draw.g T.l_draw.F.kp T.l_draw.B .nil passL (pa_cons (pv 0) (pa_cons pe_int pa_nil)))))
        (pss_one (ps_set (i := 5) sc_l_signs.nd rfl (Or.inl rfl) (pe_op op_add_str (pv 5) (pe_ix ix_str (pv 2) (pv 4) (fun _ _ => rfl)))))))
      (pss_one (ps_ret (pv 5)))))))), ?_⟩
    refine ⟨.ref p, rfl, .int 4, rfl, p, _, rfl, hds, (by decide), (by decide), fun r1 H1 hr1 fr1 => ⟨1, (r1 : Int), rfl, rfl, ?_⟩⟩
    refine ⟨.ref p, rfl, p, _, rfl, fr1.ds, (by decide), (by decide), fun r2 H2 hr2 fr2 => ?_⟩
    have fr12 := fr1.trans fr2
    have hl26 : r2 < LETL.length := by rw [let_len]; omega
    show tSeq (tAsg (tOp rIxS (tVar 2) (tVar 4)) (gName 5)) _ _ _ _
    refine q_asg (v := .str ⟨#[LETL.getD r2 0]⟩) (ev_op (x := .str "abcdefghijklmnopqrstuvwxyz") (y := .int (r2 : Int)) (by walk_at "ev") (by walk_at "ev") (rv_ixS abc_len (get_at (l := LETL) hl26))) fun H3 e3 => ?_
    have fr3 := fr12.trans (Ex.fr e3 fr12.ds)
    have mem0 : ∀ k : Nat, k < 26 → LETL.getD k 0 ∈ LETL := fun k hk => by
      have h : k < LETL.length := by rw [let_len]; exact hk
      rw [List.getD_eq_getElem?_getD, List.getElem?_eq_getElem h]
      exact List.getElem_mem h
    refine q_forR1 (n := (1 : Int) + (r1 : Int) - 1) (by walk_at "ea") (by omega) (fun i σ' H' => ∃ (at' : Nat) (g : Str) (x6 : Option V), σ' = [some (.ref p), some (.int 4), some (.str "abcdefghijklmnopqrstuvwxyz"), some (.int (1 + (r1 : Int))), some (.int (at' : Int)), some (.str g), x6] ∧ Fr p H H' ∧ at' ≤ 4 + 6 * i ∧ g.length = 1 + i ∧ ∀ c ∈ g.cps.toList, c ∈ LETL)
      (fun H4 e4 => ⟨r2, ⟨#[LETL.getD r2 0]⟩, none, rfl, fr3.trans (Ex.fr e4 fr3.ds), by omega, rfl, fun c hc => ?_⟩) (fun i σ' H' hi hP => ?_) (fun σ' H' hP => ?_)
    · have : c = LETL.getD r2 0 := by simpa using hc
      rw [this]
      exact mem0 r2 (by omega)
    · obtain ⟨at', g, x6, rfl, fr, hat, hgl, hgm⟩ := hP
      refine ⟨_, rfl, _, _, rfl, rfl, .ref p, rfl, p, _, rfl, fr.ds, (by decide), (by decide), fun r3 H4 hr3 fr4 => ⟨(at' : Int) + 1, (r3 : Int), rfl, rfl, ?_⟩⟩
      have fr5 := fr.trans fr4
      have hat2 : at' + 1 + r3 < 26 := by omega
      have hl26 : at' + 1 + r3 < LETL.length := by rw [let_len]; omega
      have ei : (at' : Int) + 1 + (r3 : Int) = ((at' + 1 + r3 : Nat) : Int) := by omega
      dsimp only [gName]
      refine s_asg (v := .str (g ++ (⟨#[LETL.getD (at' + 1 + r3) 0]⟩ : Str))) (ev_op (x := .str g) (y := .str ⟨#[LETL.getD (at' + 1 + r3) 0]⟩) (by walk_at "ev") (ev_op (x := .str "abcdefghijklmnopqrstuvwxyz") (y := .int ((at' : Int) + 1 + (r3 : Int))) (by walk_at "ev") (by walk_at "ev") (rv_ixS abc_len (by rw [ei]; exact get_at (l := LETL) hl26))) (rv_addT (by rw [hgl]; show 1 + i + 1 ≤ 100000; omega))) fun H5 e5 => ?_
      refine ⟨at' + 1 + r3, g ++ (⟨#[LETL.getD (at' + 1 + r3) 0]⟩ : Str), _, by rw [← ei]; rfl, fr5.trans (Ex.fr e5 fr5.ds), by omega, by rw [Str.length_append, hgl]; rfl, fun c hc => ?_⟩
      rw [cps_append] at hc
      rcases List.mem_append.mp hc with z | z
      · exact hgm c z
      · have : c = LETL.getD (at' + 1 + r3) 0 := by simpa using z
        rw [this]
        exact mem0 _ hat2
    · obtain ⟨at', g, x6, rfl, fr, hat, hgl, hgm⟩ := hP
      refine s_ret (by walk_at "ev") fun H5 e5 => ?_
      exact q g H5 (by omega) (by omega) hgm (fr.trans (Ex.fr e5 fr.ds))
def sp_l_word : Sp := fun vs H Q _ => ∃ (p : Addr) (g : Str) (a b : Nat), vs = [.ref p, .str g, .int (a : Int), .int (b : Int)] ∧ DS p H ∧ 1 ≤ g.length ∧ g.length ≤ 1000 ∧ a ≤ b ∧ b ≤ 1000 ∧ ∀ (z : Str) (H' : Hp), a ≤ z.length → z.length ≤ b → (∀ c ∈ z.cps.toList, c ∈ g.cps.toList) → Fr p H H' → Q (.str z) H'
theorem ok_l_word (T : Tx P K mg) : FnOk P w K mg base (L2.CX P w) 2 T.l_word.f T.l_word.fd ["_law_state", "_law_signs_here", "_law_least", "_law_top"] sp_l_word := by
  have G_l_draw : FnOk P w K mg base (L2.CX P w) 1 T.l_draw.f T.l_draw.fd ["_law_state", "_law_many"] sp_l_draw := ok_l_draw T
  refine T.l_word.F.okX sc_l_word (fun vs H Q E h => ?_) (fun cdv A outer s H vs Q E hr h => ?_)
  · obtain ⟨p, g, a, b, rfl, _⟩ := h
    rfl
  · obtain ⟨p, g, a, b, rfl, hds, hg1, hg2, hab, hb, q⟩ := h
    refine ⟨_, (pss_cons (ps_set (i := 4) sc_l_word.nd rfl (Or.inl rfl) pe_str)
      (pss_cons (ps_for (passes_of rfl) rfl (pi_range1 (by rfl) T.b_range (pa_cons (pe_op op_add (pv 2) (pe_call (E := E0) G_l_draw (hr.mono (by decide)) (by rfl) T.l_draw.g T.l_draw.F.kp T.l_draw.B .nil passL (pa_cons (pv 0) (pa_cons (pe_op op_add (pe_op op_sub (pv 3) (pv 2)) pe_int) pa_nil)))) pa_nil)) (pg_name (i := 5) sc_l_word.nd rfl (Or.inl rfl))
        (pss_one (ps_set (i := 4) sc_l_word.nd rfl (Or.inl rfl) (pe_op op_add_str (pv 4) (pe_ix ix_str (pv 1) (pe_call (E := E0) G_l_draw (hr.mono (by decide)) (by rfl) T.l_draw.g T.l_draw.F.kp T.l_draw.B .nil passL (pa_cons (pv 0) (pa_cons (pe_callB call_len_str (by rfl) T.b_len PySem.boot_len (pa_cons (pv 1) pa_nil)) pa_nil))) (fun _ _ => rfl))))))
      (pss_one (ps_ret (pv 4))))), ?_⟩
    refine ⟨.int (a : Int), rfl, .ref p, rfl, .int (b : Int), rfl, .int (a : Int), rfl, _, _, rfl, rfl, _, _, rfl, rfl, p, _, rfl, hds, (by omega), (by omega), fun r1 H1 hr1 fr1 => ⟨(a : Int), (r1 : Int), rfl, rfl, ?_⟩⟩
    refine ⟨(a : Int) + (r1 : Int), rfl, by omega, by omega, for_range (lo := 0) (n := ((a : Int) + (r1 : Int)).toNat) (fun i σ' H' => ∃ (z : Str) (x5 : Option V), σ' = [some (.ref p), some (.str g), some (.int (a : Int)), some (.int (b : Int)), some (.str z), x5] ∧ Fr p H H' ∧ z.length = i ∧ ∀ c ∈ z.cps.toList, c ∈ g.cps.toList)
      ⟨"", none, rfl, fr1, rfl, fun c hc => by cases hc⟩ (fun i σ' H' hi hP => ?_) (fun σ' H' hP => ?_)⟩
    · obtain ⟨z, x5, rfl, fr, hzl, hzm⟩ := hP
      refine ⟨_, rfl, _, rfl, .ref p, rfl, .str g, rfl, g, rfl, sz_of (by omega), p, _, rfl, fr.ds, (by omega), (by omega), fun r3 H4 hr3 fr4 => ?_⟩
      have h3 : r3 < g.cps.toList.length := by rw [← cps_len]; show r3 < g.length; omega
      refine ⟨g, (r3 : Int), g.cps.toList.getD r3 0, rfl, rfl, sz_of (by omega), get_at h3, ?_⟩
      refine ⟨z, ⟨#[g.cps.toList.getD r3 0]⟩, rfl, rfl, sz_of (by show z.length + 1 ≤ 100000; omega), ?_⟩
      refine ⟨_, _, rfl, fr.trans fr4, by rw [Str.length_append, hzl]; rfl, fun c hc => ?_⟩
      rw [cps_append] at hc
      rcases List.mem_append.mp hc with k | k
      · exact hzm c k
      · have : c = g.cps.toList.getD r3 0 := by simpa using k
        rw [this, List.getD_eq_getElem?_getD, List.getElem?_eq_getElem h3]
        exact List.getElem_mem h3
    · obtain ⟨z, x5, rfl, fr, hzl, hzm⟩ := hP
      show tRet (tVar 4) _ _ _
      refine s_ret (by walk_at "ev") fun H5 e5 => ?_
      exact q z H5 (by omega) (by omega) hzm (fr.trans (Ex.fr e5 fr.ds))
end
end K0
end

section
set_option Elab.async false
set_option linter.all false
set_option maxRecDepth 100000
set_option maxHeartbeats 400000
namespace Evl
open PySem PySem.Spec PyProof.Rows L2
section
variable {σ : L2.St} {H : Hp}
theorem eox_no : EvO tNoPart σ H none := fun H1 _ Q q => q H1 (Ex.refl H1)
theorem ev_slS {te : TE} {tl th : TO} {z : Str} {lo hi : Option Int} (h : Ev te σ H (.str z)) (hl : EvO tl σ H lo) (hh : EvO th σ H hi) (hz : z.length ≤ 100000) : Ev (tSl rSlS te tl th) σ H (.str (cutS z lo hi)) :=
  fun H1 e Q q => h H1 e _ fun H2 e2 => hl H2 (e.trans e2) _ fun H3 e3 => hh H3 ((e.trans e2).trans e3) _ fun H4 e4 => ⟨z, rfl, sz_of hz, q H4 ((e2.trans e3).trans e4)⟩
theorem mem_cutS {z : Str} {lo hi : Option Int} {c : Nat} (h : c ∈ (cutS z lo hi).cps.toList) : c ∈ z.cps.toList :=
  List.mem_of_mem_drop (List.mem_of_mem_take h)
end
end Evl
namespace K0
open PySem PySem.Spec PyProof.Rows L2 Evl
local macro_rules | `(tactic| walk_at "rv") => `(tactic| first
  | exact rv_I0
  | (apply rv_I; first | exact (by decide) | (refine Or.inr ⟨?_, ?_⟩ <;> decide) | (refine Or.inl ⟨?_, ?_⟩ <;> decide) | (refine ⟨?_, ?_⟩ <;> first | decide | omega) | (refine ⟨?_, ?_, ?_⟩ <;> first | decide | omega) | omega | assumption)
  | (apply rv_eq; rfl)
  | (apply rv_ne; rfl)
  | (apply rv_ixL; (focus (apply sq_of; assumption)); (focus rfl))
  | exact rv_inSg
  | exact rv_niSg
  | exact rv_ltS
  | (apply rv_addT; first | assumption | omega))
local macro_rules | `(tactic| walk_at "ev") => `(tactic| first
  | exact ev_c
  | (apply ev_var; rfl)
  | assumption
  | (apply ev_op; (focus walk_at "ev"); (focus walk_at "ev"); (focus walk_at "rv"))
  | (apply ev_len; (focus walk_at "ev"); (focus (apply sq_of; assumption)))
  | (apply ev_lenS; (focus walk_at "ev"); (focus (first | assumption | omega)))
  | (apply ev_int1; (focus walk_at "ev"))
  | (apply ev_intB; (focus walk_at "ev"))
  | (apply ev_notV; (focus walk_at "ev"))
  | (apply ev_chain; (focus walk_at "ev"); (focus walk_at "ev"); (focus walk_at "rv"); (focus walk_at "ev"); (focus walk_at "rv")))
local macro_rules | `(tactic| walk_at "et") => `(tactic| first
  | (apply et_and; (focus walk_at "et"); (focus (intro _; walk_at "et")))
  | (apply et_or; (focus walk_at "et"); (focus (intro _; walk_at "et")))
  | (apply et_not; (focus walk_at "et"))
  | (apply et_test; (focus walk_at "ev"))
  | (apply et_B; (focus walk_at "ev")))
local macro_rules | `(tactic| walk_at "ea") => `(tactic| first
  | exact ea_nil
  | (apply ea_cons; (focus walk_at "ev"); (focus walk_at "ea")))
local macro_rules | `(tactic| walk_at "ev") => `(tactic| (apply ev_call; (focus walk_at "ea"); (focus walk_at "spv")))
local macro_rules | `(tactic| walk_at "ev") => `(tactic| (apply ev_slS; (focus walk_at "ev"); (focus walk_at "eo"); (focus walk_at "eo"); (focus first | assumption | omega)))
local macro_rules | `(tactic| walk_at "eo") => `(tactic| first | exact eox_no | (apply eo_some; (focus walk_at "ev")))
section
variable {P : Program} {w : World} {K : PySem.W.Frag} {mg : Str → Option Value} {base : Heap} {H : Hp}
theorem oth_len : (" !\"#$&'()*+,-./0123456789:;<=>?@ABCDEFGHIJKLMNOPQRSTUVWXYZ[\\]^_`{|}~" : Str).cps.toList.length = 68 := by decide +kernel
theorem oth_small : ∀ c ∈ (" !\"#$&'()*+,-./0123456789:;<=>?@ABCDEFGHIJKLMNOPQRSTUVWXYZ[\\]^_`{|}~" : Str).cps.toList, c < 128 := by decide +kernel
theorem oth_len' : (" !\"#$&'()*+,-./0123456789:;<=>?@ABCDEFGHIJKLMNOPQRSTUVWXYZ[\\]^_`{|}~" : Str).length = 68 := by decide +kernel
def OTHL : List Nat := (" !\"#$&'()*+,-./0123456789:;<=>?@ABCDEFGHIJKLMNOPQRSTUVWXYZ[\\]^_`{|}~" : Str).cps.toList
theorem getD_mem {l : List Nat} {k : Nat} (h : k < l.length) : l.getD k 0 ∈ l := by
  rw [List.getD_eq_getElem?_getD, List.getElem?_eq_getElem h]
  exact List.getElem_mem h
def sp_l_char : Sp := fun vs H Q _ => ∃ p, vs = [.ref p] ∧ DS p H ∧ ∀ (c : Nat) (H' : Hp), c < 128 → Fr p H H' → Q (.str ⟨#[c]⟩) H'
theorem ok_l_char (T : Tx P K mg) : FnOk P w K mg base (L2.CX P w) 2 T.l_char.f T.l_char.fd ["_law_state"] sp_l_char := by
  have G_l_draw : FnOk P w K mg base (L2.CX P w) 1 T.l_draw.f T.l_draw.fd ["_law_state", "_law_many"] sp_l_draw := ok_l_draw T
  refine T.l_char.F.okX sc_l_char (fun vs H Q E h => ?_) (fun cdv A outer s H vs Q E hr h => ?_)
  · obtain ⟨p, rfl, _⟩ := h
    rfl
  · obtain ⟨p, rfl, hds, q⟩ := h
    refine ⟨_, (pss_cons (ps_set (i := 1) sc_l_char.nd rfl (Or.inl rfl) pe_str)
      (pss_cons (ps_set (i := 2) sc_l_char.nd rfl (Or.inl rfl) pe_str)
      (pss_cons (ps_if (pt_cmpR op_eq (pe_call (E := E0) G_l_draw (hr.mono (by decide)) (by rfl) T.l_draw.g T.l_draw.F.kp T.l_draw.B .nil passL (pa_cons (pv 0) (pa_cons pe_int pa_nil))) pe_int (nomark _))
        (pss_one (ps_ret (pe_ix ix_str (pv 1) (pe_call (E := E0) G_l_draw (hr.mono (by decide)) (by rfl) T.l_draw.g T.l_draw.F.kp T.l_draw.B .nil passL (pa_cons (pv 0) (pa_cons pe_int pa_nil))) (fun _ _ => rfl)))) pss_nil)
      (pss_one (ps_ret (pe_ix ix_str (pv 2) (pe_call (E := E0) G_l_draw (hr.mono (by decide)) (by rfl) T.l_draw.g T.l_draw.F.kp T.l_draw.B .nil passL (pa_cons (pv 0) (pa_cons (pe_callB call_len_str (by rfl) T.b_len PySem.boot_len (pa_cons (pv 2) pa_nil)) pa_nil))) (fun _ _ => rfl))))))), ?_⟩
    refine ⟨.ref p, rfl, p, _, rfl, hds, (by decide), (by decide), fun r1 H1 hr1 fr1 => ?_⟩
    dsimp only [tC]
    refine rv_eq (x := .int (r1 : Int)) (y := .int 0) rfl H1 (Ex.refl _) _ fun H2 e2 => ?_
    refine ⟨_, rfl, ?_⟩
    have fr2 := fr1.trans (Ex.fr e2 fr1.ds)
    by_cases hb : decide (V.int (r1 : Int) = .int 0) = true
    · rw [hb]
      refine ⟨.str "abcdefghijklmnopqrstuvwxyz", rfl, .ref p, rfl, p, _, rfl, fr2.ds, (by decide), (by decide), fun r3 H3 hr3 fr3 => ?_⟩
      have h3 : r3 < LETL.length := by rw [let_len]; omega
      exact ⟨"abcdefghijklmnopqrstuvwxyz", (r3 : Int), LETL.getD r3 0, rfl, rfl, sz_of abc_len, get_at (l := LETL) h3, q _ _ (let_small _ (getD_mem h3)) (fr2.trans fr3)⟩
    · rw [Bool.not_eq_true _ |>.mp hb]
      refine ⟨.str " !\"#$&'()*+,-./0123456789:;<=>?@ABCDEFGHIJKLMNOPQRSTUVWXYZ[\\]^_`{|}~", rfl, .ref p, rfl, .str " !\"#$&'()*+,-./0123456789:;<=>?@ABCDEFGHIJKLMNOPQRSTUVWXYZ[\\]^_`{|}~", rfl, _, rfl, sz_of (by rw [oth_len']; decide), p, _, rfl, fr2.ds, (by rw [oth_len']; decide), (by rw [oth_len']; decide), fun r3 H3 hr3 fr3 => ?_⟩
      rw [oth_len'] at hr3
      have h3 : r3 < OTHL.length := by rw [show OTHL.length = 68 from oth_len]; omega
      exact ⟨_, (r3 : Int), OTHL.getD r3 0, rfl, rfl, sz_of (by rw [oth_len']; decide), get_at (l := OTHL) h3, q _ _ (oth_small _ (getD_mem h3)) (fr2.trans fr3)⟩
def sp_l_bent : Sp := fun vs H Q _ => ∃ (p : Addr) (z : Str), vs = [.ref p, .str z] ∧ DS p H ∧ z.length ≤ 200 ∧ (∀ c ∈ z.cps.toList, c < 128) ∧ ∀ (y : Str) (H' : Hp), y.length ≤ 4 * z.length + 1 → (∀ c ∈ y.cps.toList, c < 128) → Fr p H H' → Q (.str y) H'
theorem ok_l_bent (T : Tx P K mg) : FnOk P w K mg base (L2.CX P w) 3 T.l_bent.f T.l_bent.fd ["_law_state", "_law_text"] sp_l_bent := by
  have G_l_draw : FnOk P w K mg base (L2.CX P w) 1 T.l_draw.f T.l_draw.fd ["_law_state", "_law_many"] sp_l_draw := ok_l_draw T
  have G_l_char : FnOk P w K mg base (L2.CX P w) 2 T.l_char.f T.l_char.fd ["_law_state"] sp_l_char := ok_l_char T
  refine T.l_bent.F.okX sc_l_bent (fun vs H Q E h => ?_) (fun cdv A outer s H vs Q E hr h => ?_)
  · obtain ⟨p, z, rfl, _⟩ := h
    rfl
  · obtain ⟨p, z, rfl, hds, hz, hc, q⟩ := h
    refine ⟨_, (pss_cons (ps_set (i := 2) sc_l_bent.nd rfl (Or.inl rfl) (pe_call (E := E0) G_l_draw (hr.mono (by decide)) (by rfl) T.l_draw.g T.l_draw.F.kp T.l_draw.B .nil passL (pa_cons (pv 0) (pa_cons pe_int pa_nil))))
      (pss_cons (ps_set (i := 3) sc_l_bent.nd rfl (Or.inl rfl) (pe_call (E := E0) G_l_draw (hr.mono (by decide)) (by rfl) T.l_draw.g T.l_draw.F.kp T.l_draw.B .nil passL (pa_cons (pv 0) (pa_cons (pe_op op_add (pe_callB call_len_str (by rfl) T.b_len PySem.boot_len (pa_cons (pv 1) pa_nil)) pe_int) pa_nil))))
      (pss_cons (ps_if (pt_cmpR op_eq (pv 2) pe_int (nomark _))
        (pss_one (ps_ret (pe_op op_add_str (pe_op op_add_str (pe_slice sl_str (pv 1) po_none (po_some (pv 3))) (pe_call (E := E0) G_l_char (hr.mono (by decide)) (by rfl) T.l_char.g T.l_char.F.kp T.l_char.B .nil passL (pa_cons (pv 0) pa_nil))) (pe_slice sl_str (pv 1) (po_some (pv 3)) po_none)))) pss_nil)
      (pss_cons (ps_if (pt_cmpR op_eq (pv 2) pe_int (nomark _))
        (pss_one (ps_ret (pe_op op_add_str (pe_slice sl_str (pv 1) po_none (po_some (pv 3))) (pe_slice sl_str (pv 1) (po_some (pe_op op_add (pv 3) pe_int)) po_none)))) pss_nil)
      (pss_cons (ps_if (pt_cmpR op_eq (pv 2) pe_int (nomark _))
        (pss_one (ps_ret (pe_op op_add_str (pe_op op_add_str (pe_slice sl_str (pv 1) po_none (po_some (pv 3))) (pe_call (E := E0) G_l_char (hr.mono (by decide)) (by rfl) T.l_char.g T.l_char.F.kp T.l_char.B .nil passL (pa_cons (pv 0) pa_nil))) (pe_slice sl_str (pv 1) (po_some (pe_op op_add (pv 3) pe_int)) po_none)))) pss_nil)
      (pss_cons (ps_if (pt_cmpR op_eq (pv 2) pe_int (nomark _))
        (pss_one (ps_ret (pe_op op_add_str (pe_op op_add_str (pe_slice sl_str (pv 1) po_none (po_some (pv 3))) (pe_slice sl_str (pv 1) (po_some (pv 3)) (po_some (pe_op op_add (pv 3) pe_int)))) (pe_slice sl_str (pv 1) (po_some (pv 3)) po_none)))) pss_nil)
      (pss_one (ps_ret (pe_op op_add_str (pe_op op_add_str (pe_op op_add_str (pe_slice sl_str (pv 1) po_none (po_some (pv 3))) (pe_slice sl_str (pv 1) (po_some (pe_op op_add (pv 3) pe_int)) (po_some (pe_op op_add (pv 3) pe_int)))) (pe_slice sl_str (pv 1) (po_some (pv 3)) (po_some (pe_op op_add (pv 3) pe_int)))) (pe_slice sl_str (pv 1) (po_some (pe_op op_add (pv 3) pe_int)) po_none)))))))))), ?_⟩
    refine ⟨.ref p, rfl, p, _, rfl, hds, (by decide), (by decide), fun r1 H1 hr1 fr1 => ?_⟩
    refine ⟨.ref p, rfl, .str z, rfl, z, rfl, sz_of (by omega), _, _, rfl, rfl, p, _, rfl, fr1.ds, (by omega), (by omega), fun r2 H2 hr2 fr2 => ?_⟩
    have fr12 := fr1.trans fr2
    have hz1 : z.length ≤ 100000 := by omega
    have L := fun lo hi => cutS_length z lo hi
    have M : ∀ {lo hi : Option Int} {c : Nat}, c ∈ (cutS z lo hi).cps.toList → c < 128 := fun h => hc _ (mem_cutS h)
    dsimp only [gName]
    refine q_when (by walk_at "et") (fun hb H3 e3 => ?_) (fun hb H3 e3 => ?_)
    · have fr3 := fr12.trans (Ex.fr e3 fr12.ds)
      refine ⟨.str z, rfl, .int (r2 : Int), rfl, (r2 : Int), rfl, z, rfl, sz_of hz1, .ref p, rfl, p, rfl, fr3.ds, fun c H4 hc4 fr4 => ?_⟩
      have l1 := L none (some (r2 : Int))
      have l2 := L (some (r2 : Int)) none
      refine ⟨_, _, rfl, rfl, sz_of (by show _ + 1 ≤ 100000; omega), .str z, rfl, .int (r2 : Int), rfl, (r2 : Int), rfl, z, rfl, sz_of hz1, _, _, rfl, rfl, sz_of (by rw [Str.length_append]; show _ + 1 + _ ≤ 100000; omega), q _ _ ?_ ?_ (fr3.trans fr4)⟩
      · rw [Str.length_append, Str.length_append]
        show _ + 1 + _ ≤ _
        omega
      · intro k hk
        rw [cps_append, cps_append] at hk
        rcases List.mem_append.mp hk with h | h
        · rcases List.mem_append.mp h with h | h
          · exact M h
          · have : k = c := by simpa using h
            rw [this]
            exact hc4
        · exact M h
    refine q_when (by walk_at "et") (fun hb H4 e4 => ?_) (fun hb H4 e4 => ?_)
    · have fr3 := fr12.trans (Ex.fr (e3.trans e4) fr12.ds)
      have l1 := L none (some (r2 : Int))
      have l2 := L (some ((r2 : Int) + 1)) none
      show tRet _ _ _ _
      refine s_ret (ev_op (x := .str (cutS z none (some (r2 : Int)))) (y := .str (cutS z (some ((r2 : Int) + 1)) none)) (by walk_at "ev") (by walk_at "ev") (rv_addT (by omega))) fun H5 e5 => q _ _ ?_ ?_ (fr3.trans (Ex.fr e5 fr3.ds))
      · rw [Str.length_append]
        omega
      · intro k hk
        rw [cps_append] at hk
        rcases List.mem_append.mp hk with h | h <;> exact M h
    refine q_when (by walk_at "et") (fun hb H5 e5 => ?_) (fun hb H5 e5 => ?_)
    · have fr3 := fr12.trans (Ex.fr ((e3.trans e4).trans e5) fr12.ds)
      refine ⟨.str z, rfl, .int (r2 : Int), rfl, (r2 : Int), rfl, z, rfl, sz_of hz1, .ref p, rfl, p, rfl, fr3.ds, fun c H6 hc4 fr4 => ?_⟩
      have l1 := L none (some (r2 : Int))
      have l2 := L (some ((r2 : Int) + 1)) none
      refine ⟨_, _, rfl, rfl, sz_of (by show _ + 1 ≤ 100000; omega), .str z, rfl, .int (r2 : Int), rfl, (r2 : Int), 1, rfl, rfl, (r2 : Int) + 1, rfl, z, rfl, sz_of hz1, _, _, rfl, rfl, sz_of (by rw [Str.length_append]; show _ + 1 + _ ≤ 100000; omega), q _ _ ?_ ?_ (fr3.trans fr4)⟩
      · rw [Str.length_append, Str.length_append]
        show _ + 1 + _ ≤ _
        omega
      · intro k hk
        rw [cps_append, cps_append] at hk
        rcases List.mem_append.mp hk with h | h
        · rcases List.mem_append.mp h with h | h
          · exact M h
          · have : k = c := by simpa using h
            rw [this]
            exact hc4
        · exact M h
    refine q_when (by walk_at "et") (fun hb H6 e6 => ?_) (fun hb H6 e6 => ?_)
    · have fr3 := fr12.trans (Ex.fr (((e3.trans e4).trans e5).trans e6) fr12.ds)
      have l1 := L none (some (r2 : Int))
      have l2 := L (some (r2 : Int)) (some ((r2 : Int) + 1))
      have l3 := L (some (r2 : Int)) none
      show tRet _ _ _ _
      refine s_ret (ev_op (x := .str (cutS z none (some (r2 : Int)) ++ cutS z (some (r2 : Int)) (some ((r2 : Int) + 1)))) (y := .str (cutS z (some (r2 : Int)) none)) (ev_op (x := .str (cutS z none (some (r2 : Int)))) (y := .str (cutS z (some (r2 : Int)) (some ((r2 : Int) + 1)))) (by walk_at "ev") (by walk_at "ev") (rv_addT (by omega))) (by walk_at "ev") (rv_addT (by rw [Str.length_append]; omega))) fun H7 e7 => q _ _ ?_ ?_ (fr3.trans (Ex.fr e7 fr3.ds))
      · rw [Str.length_append, Str.length_append]
        omega
      · intro k hk
        rw [cps_append, cps_append] at hk
        rcases List.mem_append.mp hk with h | h
        · rcases List.mem_append.mp h with h | h <;> exact M h
        · exact M h
    · have fr3 := fr12.trans (Ex.fr (((e3.trans e4).trans e5).trans e6) fr12.ds)
      have l1 := L none (some (r2 : Int))
      have l2 := L (some ((r2 : Int) + 1)) (some ((r2 : Int) + 2))
      have l3 := L (some (r2 : Int)) (some ((r2 : Int) + 1))
      have l4 := L (some ((r2 : Int) + 2)) none
      show tRet _ _ _ _
      refine s_ret (ev_op (x := .str (cutS z none (some (r2 : Int)) ++ cutS z (some ((r2 : Int) + 1)) (some ((r2 : Int) + 2)) ++ cutS z (some (r2 : Int)) (some ((r2 : Int) + 1)))) (y := .str (cutS z (some ((r2 : Int) + 2)) none)) (ev_op (x := .str (cutS z none (some (r2 : Int)) ++ cutS z (some ((r2 : Int) + 1)) (some ((r2 : Int) + 2)))) (y := .str (cutS z (some (r2 : Int)) (some ((r2 : Int) + 1)))) (ev_op (x := .str (cutS z none (some (r2 : Int)))) (y := .str (cutS z (some ((r2 : Int) + 1)) (some ((r2 : Int) + 2)))) (by walk_at "ev") (by walk_at "ev") (rv_addT (by omega))) (by walk_at "ev") (rv_addT (by rw [Str.length_append]; omega))) (by walk_at "ev") (rv_addT (by rw [Str.length_append, Str.length_append]; omega))) fun H7 e7 => q _ _ ?_ ?_ (fr3.trans (Ex.fr e7 fr3.ds))
      · rw [Str.length_append, Str.length_append, Str.length_append]
        omega
      · intro k hk
        rw [cps_append, cps_append, cps_append] at hk
        rcases List.mem_append.mp hk with h | h
        · rcases List.mem_append.mp h with h | h
          · rcases List.mem_append.mp h with h | h <;> exact M h
          · exact M h
        · exact M h
def sp_l_unlike : Sp := fun vs H Q _ => ∃ (p : Addr) (g : Str) (n : Nat), vs = [.ref p, .str g, .int (n : Int)] ∧ DS p H ∧ n ≤ g.length ∧ g.length ≤ 100 ∧ ∀ (y : Str) (H' : Hp), y.length = n → (∀ c ∈ y.cps.toList, c ∈ g.cps.toList) → Fr p H H' → Q (.str y) H'
def sgs (l : List Nat) : List V := l.map fun c => V.str ⟨#[c]⟩
theorem map_erase : ∀ (l : List Nat) (k : Nat), (sgs l).eraseIdx k = sgs (l.eraseIdx k)
  | [], _ => rfl
  | _ :: _, 0 => rfl
  | c :: l, k + 1 => by
    show V.str ⟨#[c]⟩ :: (sgs l).eraseIdx k = V.str ⟨#[c]⟩ :: sgs (l.eraseIdx k)
    rw [map_erase l k]
theorem ds_upd {p l : Addr} {H : Hp} {o : HO} {xs : List V} {k : Nat} {t : Str} (h : DS p H) (n : l ≠ p) (hl : H l = some (.lst xs)) (hk : xs[k]? = some (.str t)) : DS p (upd H l o) := by
  obtain ⟨q, ns, i, b, c, d, hp, hq, hn⟩ := h
  refine ⟨q, ns, i, b, c, d, by rw [upd_ne (Ne.symm n)]; exact hp, ?_, hn⟩
  have nq : q ≠ l := fun e => by
    rw [e, hl] at hq
    have e2 : xs = ns.map V.int := HO.lst.inj (Option.some.inj hq)
    rw [e2, List.getElem?_map] at hk
    cases hz : ns[k]? with
    | none => rw [hz] at hk; cases hk
    | some y => rw [hz] at hk; cases hk
  rw [upd_ne nq]
  exact hq
theorem ok_l_unlike (T : Tx P K mg) : FnOk P w K mg base (L2.CX P w) 2 T.l_unlike.f T.l_unlike.fd ["_law_state", "_law_pool", "_law_count"] sp_l_unlike := by
  have G_l_draw : FnOk P w K mg base (L2.CX P w) 1 T.l_draw.f T.l_draw.fd ["_law_state", "_law_many"] sp_l_draw := ok_l_draw T
  refine T.l_unlike.F.okX sc_l_unlike (fun vs H Q E h => ?_) (fun cdv A outer s H vs Q E hr h => ?_)
  · obtain ⟨p, g, n, rfl, _⟩ := h
    rfl
  · obtain ⟨p, g, n, rfl, hds, hn, hg, q⟩ := h
    refine ⟨_, (pss_cons (ps_set (i := 3) sc_l_unlike.nd rfl (Or.inl rfl) (pe_callTy (call_list_str rfl) (by rfl) T.b_list (by decide +kernel) (pa_cons (pv 1) pa_nil)))
      (pss_cons (ps_set (i := 4) sc_l_unlike.nd rfl (Or.inl rfl) pe_str)
      (pss_cons (ps_for (passes_of rfl) rfl (pi_range1 (by rfl) T.b_range (pa_cons (pv 2) pa_nil)) (pg_name (i := 5) sc_l_unlike.nd rfl (Or.inl rfl))
        (pss_one (ps_set (i := 4) sc_l_unlike.nd rfl (Or.inl rfl) (pe_op op_add_str (pv 4) (pe_bm PySem.F.plainAttrs_list PySem.F.slot_list_pop PySem.F.type_list_pop mt_popAt (pv 3) (pa_cons (pe_call (E := E0) G_l_draw (hr.mono (by decide)) (by rfl) T.l_draw.g T.l_draw.F.kp T.l_draw.B .nil passL (pa_cons (pv 0) (pa_cons (pe_callB call_len_seq (by rfl) T.b_len PySem.boot_len (pa_cons (pv 3) pa_nil)) pa_nil))) pa_nil))))))
      (pss_one (ps_ret (pv 4)))))), ?_⟩
    refine ⟨.str g, rfl, g, rfl, sz_of (by omega), fun l nl => ?_⟩
    have lp : l ≠ p := fun e => by
      obtain ⟨_, _, _, _, _, _, hp, _⟩ := hds
      rw [← e, nl] at hp
      cases hp
    have e0 : Ex H (upd H l (.lst (signsV g))) := Ex.new nl
    refine ⟨.int (n : Int), rfl, (n : Int), rfl, by omega, by omega, for_range (lo := 0) (n := (n : Int).toNat) (fun i σ' H' => ∃ (left : List Nat) (y : Str) (x5 : Option V), σ' = [some (.ref p), some (.str g), some (.int (n : Int)), some (.ref l), some (.str y), x5] ∧ Fr p H H' ∧ H' l = some (.lst (sgs left)) ∧ left.length + i = g.length ∧ (∀ c ∈ left, c ∈ g.cps.toList) ∧ y.length = i ∧ ∀ c ∈ y.cps.toList, c ∈ g.cps.toList)
      ⟨g.cps.toList, "", none, rfl, Ex.fr e0 hds, upd_same, (cps_len g).symm, fun c h => h, rfl, fun c h => by cases h⟩ (fun i σ' H' hi hP => ?_) (fun σ' H' hP => ?_)⟩
    · obtain ⟨left, y, x5, rfl, fr, hl, hll, hlm, hyl, hym⟩ := hP
      have hsl : (sgs left).length = left.length := List.length_map ..
      refine ⟨.str y, rfl, .ref l, rfl, ?_, .ref p, rfl, .ref l, rfl, l, sgs left, rfl, Or.inl (sq_of hl), p, _, rfl, fr.ds, (by rw [hsl]; omega), (by rw [hsl]; omega), fun r3 H4 hr3 fr4 => ?_⟩
      · exact .inl ⟨rfl, _, sq_of hl⟩
      rw [hsl] at hr3
      have h3 : r3 < left.length := by omega
      have hl4 := fr4.get lp hl
      refine ⟨l, sgs left, (r3 : Int), r3, .str ⟨#[left.getD r3 0]⟩, rfl, rfl, hl4, (by omega), (by omega), ?_, ?_, ?_⟩
      · rw [hsl]
        unfold seqIndex?
        have h0 : ¬ (r3 : Int) < 0 := by omega
        have h1 : (r3 : Int) < (left.length : Int) := by omega
        simp [h0, h1]
      · unfold sgs
        rw [List.getElem?_map, List.getElem?_eq_getElem h3, List.getD_eq_getElem?_getD, List.getElem?_eq_getElem h3]
        rfl
      refine ⟨y, ⟨#[left.getD r3 0]⟩, rfl, rfl, sz_of (by show y.length + 1 ≤ 100000; omega), ?_⟩
      have frX : Fr p H (upd H4 l (.lst ((sgs left).eraseIdx r3))) := by
        have f := fr.trans fr4
        refine ⟨ds_upd (k := r3) (t := ⟨#[left.getD r3 0]⟩) f.ds lp hl4 ?_, fun a o na ha => ?_⟩
        · unfold sgs
          rw [List.getElem?_map, List.getElem?_eq_getElem h3, List.getD_eq_getElem?_getD, List.getElem?_eq_getElem h3]
          rfl
        · have nal : a ≠ l := fun e => by
            rw [e, nl] at ha
            cases ha
          rw [upd_ne nal]
          exact f.get na ha
      refine ⟨left.eraseIdx r3, _, _, rfl, frX, ?_, ?_, fun c hc => hlm c (List.mem_of_mem_eraseIdx hc), by rw [Str.length_append, hyl]; rfl, fun c hc => ?_⟩
      · rw [upd_same]
        rw [map_erase]
      · rw [List.length_eraseIdx, if_pos h3]
        omega
      · rw [cps_append] at hc
        rcases List.mem_append.mp hc with k | k
        · exact hym c k
        · have : c = left.getD r3 0 := by simpa using k
          rw [this]
          exact hlm _ (getD_mem h3)
    · obtain ⟨left, y, x5, rfl, fr, hl, hll, hlm, hyl, hym⟩ := hP
      show tRet (tVar 4) _ _ _
      refine s_ret (by walk_at "ev") fun H5 e5 => ?_
      exact q y H5 (by omega) hym (fr.trans (Ex.fr e5 fr.ds))
end
end K0
end

section
set_option Elab.async false
set_option linter.all false
set_option maxRecDepth 100000
set_option maxHeartbeats 400000
namespace K0
open PySem PySem.Spec PyProof.Rows L2 Evl
local macro_rules | `(tactic| walk_at "rv") => `(tactic| first
  | exact rv_I0
  | (apply rv_I; first | exact (by decide) | (refine Or.inr ⟨?_, ?_⟩ <;> decide) | (refine Or.inl ⟨?_, ?_⟩ <;> decide) | (refine ⟨?_, ?_⟩ <;> first | decide | omega) | (refine ⟨?_, ?_, ?_⟩ <;> first | decide | omega) | omega | assumption)
  | (apply rv_eq; rfl)
  | (apply rv_ne; rfl)
  | (apply rv_ixL; (focus (apply sq_of; assumption)); (focus rfl))
  | exact rv_inSg
  | exact rv_niSg
  | exact rv_ltS
  | (apply rv_addT; first | assumption | omega))
local macro_rules | `(tactic| walk_at "ev") => `(tactic| first
  | exact ev_c
  | (apply ev_var; rfl)
  | assumption
  | (apply ev_op; (focus walk_at "ev"); (focus walk_at "ev"); (focus walk_at "rv"))
  | (apply ev_len; (focus walk_at "ev"); (focus (apply sq_of; assumption)))
  | (apply ev_lenS; (focus walk_at "ev"); (focus (first | assumption | omega)))
  | (apply ev_int1; (focus walk_at "ev"))
  | (apply ev_intB; (focus walk_at "ev"))
  | (apply ev_notV; (focus walk_at "ev"))
  | (apply ev_chain; (focus walk_at "ev"); (focus walk_at "ev"); (focus walk_at "rv"); (focus walk_at "ev"); (focus walk_at "rv")))
local macro_rules | `(tactic| walk_at "et") => `(tactic| first
  | (apply et_and; (focus walk_at "et"); (focus (intro _; walk_at "et")))
  | (apply et_or; (focus walk_at "et"); (focus (intro _; walk_at "et")))
  | (apply et_not; (focus walk_at "et"))
  | (apply et_test; (focus walk_at "ev"))
  | (apply et_B; (focus walk_at "ev")))
local macro_rules | `(tactic| walk_at "ea") => `(tactic| first
  | exact ea_nil
  | (apply ea_cons; (focus walk_at "ev"); (focus walk_at "ea")))
local macro_rules | `(tactic| walk_at "ev") => `(tactic| (apply ev_call; (focus walk_at "ea"); (focus walk_at "spv")))
local macro_rules | `(tactic| walk_at "rv") => `(tactic| exact rv_isN)
local macro_rules | `(tactic| walk_at "ev") => `(tactic| (apply ev_len2; (focus walk_at "ev"); (focus (first | exact Or.inl (by assumption) | exact Or.inr (by assumption)))))
local macro_rules | `(tactic| walk_at "kit") => `(tactic| first | exact kit_bool_bool | exact kit_bool_int | exact kit_bool_str | exact kit_bool_list | exact kit_bool_tuple | exact kit_int_bool | exact kit_int_int | exact kit_int_str | exact kit_int_list | exact kit_int_tuple | exact kit_str_bool | exact kit_str_int | exact kit_str_str | exact kit_str_list | exact kit_str_tuple | exact kit_list_bool | exact kit_list_int | exact kit_list_str | exact kit_list_list | exact kit_list_tuple | exact kit_tuple_bool | exact kit_tuple_int | exact kit_tuple_str | exact kit_tuple_list | exact kit_tuple_tuple)
local macro_rules | `(tactic| walk_at "ty") => `(tactic| first | exact typ_non | exact typ_bl | exact typ_int | exact typ_str | (apply typ_lst; assumption) | (apply typ_tup; assumption))
local macro_rules | `(tactic| walk_at "ev") => `(tactic| (apply ev_isi; (focus walk_at "ev"); (focus walk_at "ty"); (focus walk_at "kit")))
local macro_rules | `(tactic| walk_at "ev") => `(tactic| (apply ev_andV; (focus walk_at "ev"); (focus (intro _; walk_at "ev"))))
section
variable {P : Program} {w : World} {K : PySem.W.Frag} {mg : Str → Option Value} {base : Heap} {H : Hp}
/-- what is due where an answer or a refusal is told -/
def Due (r : Str ⊕ (Bool × Bool × Bool × Str)) (H : Hp) (x : V) : Prop := match r with
  | .inl z => x = .str z
  | .inr (a, b, c, y) => ∃ p, x = .ref p ∧ H p = some (errT a b c y)
theorem due_ex {r : Str ⊕ (Bool × Bool × Bool × Str)} {H H' : Hp} {x : V} (h : Due r H x) (e : Ex H H') : Due r H' x := by
  match r, h with
  | .inl z, h => exact h
  | .inr (a, b, c, y), ⟨p, hx, hp⟩ => exact ⟨p, hx, e _ _ hp⟩
theorem due_alike {r : Str ⊕ (Bool × Bool × Bool × Str)} {H : Hp} {x y : V} (h : Due r H x) (k : Due r H y) : Alike 1 H x y := by
  match r, h, k with
  | .inl z, h, k => exact Or.inl ⟨by rw [show x = .str z from h]; exact .str z, by rw [show x = .str z from h, show y = .str z from k]⟩
  | .inr (a, b, c, t), ⟨p, hx, hp⟩, ⟨q, hy, hq⟩ =>
    refine Or.inr ⟨p, q, _, _, hx, hy, rfl, (by show 5 ≤ 50000; decide), Or.inr ⟨hp, hq⟩, fun i u v hu hv => ?_⟩
    have : u = v := by rw [hu] at hv; exact Option.some.inj hv
    subst this
    refine ⟨?_, rfl⟩
    match i, hu with
    | 0, hu => cases hu; exact .bl _
    | 1, hu => cases hu; exact .bl _
    | 2, hu => cases hu; exact .bl _
    | 3, hu => cases hu; exact .bl _
    | 4, hu => cases hu; exact .str _
theorem told_due {r : Str ⊕ (Bool × Bool × Bool × Str)} {H : Hp} {Q : VK} (h : ∀ x H', Ex H H' → Due r H' x → Q x H') : Told r H Q := by
  match r, h with
  | .inl z, h => exact fun H' e => h _ _ e rfl
  | .inr (a, b, c, y), h => exact fun H' p e _ hp => h _ _ e ⟨p, rfl, hp⟩
theorem go {P : Prop} {D : Ends} {σ : L2.St} {H : Hp} (h : D.nx σ H) : if (!true) = true then P else tNext D σ H := h
theorem nth_str {ts : List Str} {i : Nat} {x : V} (h : (ts.map V.str)[i]? = some x) : ∃ t, x = .str t ∧ t ∈ ts := by
  rw [List.getElem?_map] at h
  cases hz : ts[i]? with
  | none => rw [hz] at h; cases h
  | some t =>
    rw [hz] at h
    exact ⟨t, (Option.some.inj h).symm, List.mem_of_getElem? hz⟩
def sp_l_texts_kept : Sp := fun vs H Q _ => ∃ (a : Addr) (ts : List Str), vs = [.ref a] ∧ H a = some (.lst (ts.map V.str)) ∧ (∀ t ∈ ts, Sm t) ∧ ∀ H', Ex H H' → Q (.bl true) H'
theorem ok_l_texts_kept (T : Tx P K mg) : FnOk P w K mg base (L2.CX P w) 5 T.l_texts_kept.f T.l_texts_kept.fd ["_law_texts"] sp_l_texts_kept := by
  have G_l_is_alphabet : FnOk P w K mg base (L2.CX P w) 2 T.l_is_alphabet.f T.l_is_alphabet.fd ["_law_text"] sp_l_is_alphabet := ok_l_is_alphabet T
  have G_l_is_group : FnOk P w K mg base (L2.CX P w) 1 T.l_is_group.f T.l_is_group.fd ["_law_text"] sp_l_is_group := ok_l_is_group T
  have G_l_signs_told : FnOk P w K mg base (L2.CX P w) 3 T.l_signs_told.f T.l_signs_told.fd ["_law_text"] sp_l_signs_told := ok_l_signs_told T
  have G_l_group_told : FnOk P w K mg base (L2.CX P w) 4 T.l_group_told.f T.l_group_told.fd ["_law_text"] sp_l_group_told := ok_l_group_told T
  have G_l_same : FnOk P w K mg base (L2.CX P w) 2 T.l_same.f T.l_same.fd ["_law_actual", "_law_due"] (sp_l_same 1) := ok_l_same T 1
  refine T.l_texts_kept.F.okX sc_l_texts_kept (fun vs H Q E h => ?_) (fun cdv A outer s H vs Q E hr h => ?_)
  · obtain ⟨a, ts, rfl, _⟩ := h
    rfl
  · obtain ⟨a, ts, rfl, ha, hts, q⟩ := h
    refine ⟨_, (pss_cons (ps_for (passes_of rfl) rfl (pi_list (pv 0)) (pg_name (i := 1) sc_l_texts_kept.nd rfl (Or.inl rfl))
        (pss_cons (ps_set (i := 2) sc_l_texts_kept.nd rfl (Or.inl rfl) (pe_tup (pa_cons pe_bl (pa_cons pe_bl (pa_cons pe_bl (pa_cons pe_bl (pa_cons (pv 1) pa_nil)))))))
        (Evl.pss_cut (ps_if (pt_val (pe_call (E := E0) G_l_is_alphabet (hr.mono (by decide)) (by rfl) T.l_is_alphabet.g T.l_is_alphabet.F.kp T.l_is_alphabet.B .nil passL (pa_cons (pv 1) pa_nil)))
          (pss_one (ps_set (i := 2) sc_l_texts_kept.nd rfl (Or.inl rfl) (pv 1))) pss_nil)
        (pss_cons (ps_if (pt_not (pt_val (pe_call (E := E0) G_l_same (hr.mono (by decide)) (by rfl) T.l_same.g T.l_same.F.kp T.l_same.B .nil passL (pa_cons (pe_call (E := E0) G_l_signs_told (hr.mono (by decide)) (by rfl) T.l_signs_told.g T.l_signs_told.F.kp T.l_signs_told.B .nil passL (pa_cons (pv 1) pa_nil)) (pa_cons (pv 2) pa_nil)))))
          (pss_one (ps_ret pe_bl)) pss_nil)
        (pss_cons (ps_set (i := 2) sc_l_texts_kept.nd rfl (Or.inl rfl) (pe_tup (pa_cons pe_bl (pa_cons pe_bl (pa_cons pe_bl (pa_cons pe_bl (pa_cons (pv 1) pa_nil)))))))
        (Evl.pss_cut (ps_if (pt_val (pe_call (E := E0) G_l_is_group (hr.mono (by decide)) (by rfl) T.l_is_group.g T.l_is_group.F.kp T.l_is_group.B .nil passL (pa_cons (pv 1) pa_nil)))
          (pss_one (ps_set (i := 2) sc_l_texts_kept.nd rfl (Or.inl rfl) (pv 1))) pss_nil)
        (pss_one (ps_if (pt_not (pt_val (pe_call (E := E0) G_l_same (hr.mono (by decide)) (by rfl) T.l_same.g T.l_same.F.kp T.l_same.B .nil passL (pa_cons (pe_call (E := E0) G_l_group_told (hr.mono (by decide)) (by rfl) T.l_group_told.g T.l_group_told.F.kp T.l_group_told.B .nil passL (pa_cons (pv 1) pa_nil)) (pa_cons (pv 2) pa_nil)))))
          (pss_one (ps_ret pe_bl)) pss_nil))))))))
      (pss_one (ps_ret pe_bl))), ?_⟩
    refine q_forLn (K := K) (a := a) (xs := ts.map V.str) (by walk_at "ev") (sq_of ha) (fun i σ' H' => ∃ (x1 x2 : Option V), σ' = [some (.ref a), x1, x2] ∧ Ex H H')
      (fun H1 e1 => ⟨none, none, rfl, e1⟩) (fun i σ' H' _ hP => ?_) (fun i x σ' H' hx hP => ?_) (fun σ' H' hP => ?_)
    · obtain ⟨_, _, _, e1⟩ := hP
      exact sq_of (e1 _ _ ha)
    · obtain ⟨x1, x2, rfl, e1⟩ := hP
      obtain ⟨t, rfl, ht⟩ := nth_str hx
      have hs := hts t ht
      have hz := hs.1
      refine ⟨.str t, rfl, (by show 5 ≤ sizeLine; decide), fun p2 np2 => ?_⟩
      have e2 : Ex H (upd H' p2 (errT true false false t)) := e1.trans (Ex.new np2)
      refine ⟨fun σ' H'' => ∃ x, σ' = [some (.ref a), some (.str t), some x] ∧ Ex H H'' ∧ Due (if alphaB t = true then .inl t else .inr (true, false, false, t)) H'' x, ?_, ?_⟩
      · refine s_when (b := alphaB t) (et_B (ev_call (by walk_at "ea") (spv_l_is_alphabet hz))) (fun hb H3 e3 => ?_) (fun hb H3 e3 => ?_)
        · refine s_asg (v := .str t) (by walk_at "ev") fun H4 e4 => ⟨.str t, rfl, e2.trans (e3.trans e4), ?_⟩
          rw [if_pos hb]
          rfl
        · refine ⟨.ref p2, rfl, e2.trans e3, ?_⟩
          rw [if_neg (by rw [hb]; decide)]
          exact ⟨p2, rfl, e3 _ _ upd_same⟩
      rintro σ' H3 ⟨x, rfl, e3, dx⟩
      refine ⟨.str t, rfl, t, rfl, hs, told_due fun y H4 e4 dy => ⟨x, rfl, y, x, rfl, due_alike dy (due_ex dx e4), fun H5 e5 => ⟨true, rfl, ?_⟩⟩⟩
      refine go ?_
      refine ⟨.str t, rfl, (by show 5 ≤ sizeLine; decide), fun p6 np6 => ?_⟩
      have e6 : Ex H (upd H5 p6 (errT false true false t)) := (e3.trans (e4.trans e5)).trans (Ex.new np6)
      refine ⟨fun σ' H'' => ∃ x, σ' = [some (.ref a), some (.str t), some x] ∧ Ex H H'' ∧ Due (if groupB t = true then .inl t else .inr (false, true, false, t)) H'' x, ?_, ?_⟩
      · refine s_when (b := groupB t) (et_B (ev_call (by walk_at "ea") (spv_l_is_group hz))) (fun hb H3 e3 => ?_) (fun hb H3 e3 => ?_)
        · refine s_asg (v := .str t) (by walk_at "ev") fun H4 e4 => ⟨.str t, rfl, e6.trans (e3.trans e4), ?_⟩
          rw [if_pos hb]
          rfl
        · refine ⟨.ref p6, rfl, e6.trans e3, ?_⟩
          rw [if_neg (by rw [hb]; decide)]
          exact ⟨p6, rfl, e3 _ _ upd_same⟩
      rintro σ' H3 ⟨x, rfl, e3, dx⟩
      refine ⟨.str t, rfl, t, rfl, hs, told_due fun y H4 e4 dy => ⟨x, rfl, y, x, rfl, due_alike dy (due_ex dx e4), fun H5 e5 => ⟨true, rfl, ?_⟩⟩⟩
      exact go ⟨some (.str t), some x, rfl, e3.trans (e4.trans e5)⟩
    · obtain ⟨x1, x2, rfl, e1⟩ := hP
      show tRet _ _ _ _
      refine s_ret (by walk_at "ev") fun H2 e2 => q _ (e1.trans e2)
theorem one_ne {c : Nat} (h : (!decide (V.str ⟨#[c]⟩ = V.str "")) = false) : ¬ (!decide (V.str ⟨#[c]⟩ = V.str "")) = false := by
  have hn : ¬ V.str ⟨#[c]⟩ = V.str "" := fun e => by
    have h := congrArg Str.length (V.str.inj e)
    have h2 : (1 : Nat) = 0 := h
    cases h2
  rw [decide_eq_false hn]
  decide
def rowR (t g : Str) : Str ⊕ (Bool × Bool × Bool × Str) := match strangeB t g with
  | none => .inl t
  | some c => .inr (false, false, true, ⟨#[c]⟩)
def sp_l_rows_kept : Sp := fun vs H Q _ => ∃ (a : Addr) (ts : List Str) (g : Str), vs = [.ref a, .str g] ∧ H a = some (.lst (ts.map V.str)) ∧ (∀ t ∈ ts, Sm t) ∧ ∀ H', Ex H H' → Q (.bl true) H'
theorem ok_l_rows_kept (T : Tx P K mg) : FnOk P w K mg base (L2.CX P w) 4 T.l_rows_kept.f T.l_rows_kept.fd ["_law_rows_here", "_law_signs_here"] sp_l_rows_kept := by
  have G_l_strange : FnOk P w K mg base (L2.CX P w) 1 T.l_strange.f T.l_strange.fd ["_law_row", "_law_signs_here"] sp_l_strange := ok_l_strange T
  have G_l_row_told : FnOk P w K mg base (L2.CX P w) 3 T.l_row_told.f T.l_row_told.fd ["_law_row", "_law_signs_here"] sp_l_row_told := ok_l_row_told T
  have G_l_same : FnOk P w K mg base (L2.CX P w) 2 T.l_same.f T.l_same.fd ["_law_actual", "_law_due"] (sp_l_same 1) := ok_l_same T 1
  refine T.l_rows_kept.F.okX sc_l_rows_kept (fun vs H Q E h => ?_) (fun cdv A outer s H vs Q E hr h => ?_)
  · obtain ⟨a, ts, g, rfl, _⟩ := h
    rfl
  · obtain ⟨a, ts, g, rfl, ha, hts, q⟩ := h
    refine ⟨_, (pss_cons (ps_for (passes_of rfl) rfl (pi_list (pv 0)) (pg_name (i := 2) sc_l_rows_kept.nd rfl (Or.inl rfl))
        (pss_cons (ps_set (i := 3) sc_l_rows_kept.nd rfl (Or.inl rfl) (pv 2))
        (pss_cons (ps_set (i := 4) sc_l_rows_kept.nd rfl (Or.inl rfl) (pe_call (E := E0) G_l_strange (hr.mono (by decide)) (by rfl) T.l_strange.g T.l_strange.F.kp T.l_strange.B .nil passL (pa_cons (pv 2) (pa_cons (pv 1) pa_nil))))
        (Evl.pss_cut (ps_if (pt_cmpR op_ne (pv 4) pe_str (nomark _))
          (pss_one (ps_set (i := 3) sc_l_rows_kept.nd rfl (Or.inl rfl) (pe_tup (pa_cons pe_bl (pa_cons pe_bl (pa_cons pe_bl (pa_cons pe_bl (pa_cons (pv 4) pa_nil)))))))) pss_nil)
        (pss_one (ps_if (pt_not (pt_val (pe_call (E := E0) G_l_same (hr.mono (by decide)) (by rfl) T.l_same.g T.l_same.F.kp T.l_same.B .nil passL (pa_cons (pe_call (E := E0) G_l_row_told (hr.mono (by decide)) (by rfl) T.l_row_told.g T.l_row_told.F.kp T.l_row_told.B .nil passL (pa_cons (pv 2) (pa_cons (pv 1) pa_nil))) (pa_cons (pv 3) pa_nil)))))
          (pss_one (ps_ret pe_bl)) pss_nil))))))
      (pss_one (ps_ret pe_bl))), ?_⟩
    refine q_forLn (K := K) (a := a) (xs := ts.map V.str) (by walk_at "ev") (sq_of ha) (fun i σ' H' => ∃ (x2 x3 x4 : Option V), σ' = [some (.ref a), some (.str g), x2, x3, x4] ∧ Ex H H')
      (fun H1 e1 => ⟨none, none, none, rfl, e1⟩) (fun i σ' H' _ hP => ?_) (fun i x σ' H' hx hP => ?_) (fun σ' H' hP => ?_)
    · obtain ⟨_, _, _, _, e1⟩ := hP
      exact sq_of (e1 _ _ ha)
    · obtain ⟨x2, x3, x4, rfl, e1⟩ := hP
      obtain ⟨t, rfl, ht⟩ := nth_str hx
      have hs := hts t ht
      have hz := hs.1
      refine q_asg (v := .str t) (by walk_at "ev") fun H2 e2 => ?_
      refine q_asg (v := .str (strV t g)) (ev_call (by walk_at "ea") (spv_l_strange hz)) fun H3 e3 => ?_
      have e23 := e1.trans (e2.trans e3)
      refine ⟨fun σ' H'' => ∃ x, σ' = [some (.ref a), some (.str g), some (.str t), some x, some (.str (strV t g))] ∧ Ex H H'' ∧ Due (rowR t g) H'' x, ?_, ?_⟩
      · refine s_when (by walk_at "et") (fun hb H4 e4 => ?_) (fun hb H4 e4 => ?_)
        · refine ⟨.str (strV t g), rfl, (by show 5 ≤ sizeLine; decide), fun p np => ?_⟩
          refine ⟨.ref p, rfl, (e23.trans e4).trans (Ex.new np), ?_⟩
          unfold rowR
          cases hc : strangeB t g with
          | none => 
            have : strV t g = "" := by unfold strV; rw [hc]
            rw [this] at hb
            exact absurd hb (by decide)
          | some c =>
            have : strV t g = ⟨#[c]⟩ := by unfold strV; rw [hc]
            rw [this]
            exact ⟨p, rfl, upd_same⟩
        · refine ⟨.str t, rfl, e23.trans e4, ?_⟩
          unfold rowR
          cases hc : strangeB t g with
          | none => rfl
          | some c =>
            have : strV t g = ⟨#[c]⟩ := by unfold strV; rw [hc]
            rw [this] at hb
            exact absurd hb (one_ne hb)
      rintro σ' H3 ⟨x, rfl, e3, dx⟩
      refine ⟨.str t, rfl, .str g, rfl, t, g, rfl, hs, told_due (r := rowR t g) fun y H4 e4 dy => ⟨x, rfl, y, x, rfl, due_alike dy (due_ex dx e4), fun H5 e5 => ⟨true, rfl, ?_⟩⟩⟩
      exact go ⟨_, _, _, rfl, e3.trans (e4.trans e5)⟩
    · obtain ⟨x2, x3, x4, rfl, e1⟩ := hP
      show tRet _ _ _ _
      refine s_ret (by walk_at "ev") fun H2 e2 => q _ (e1.trans e2)
theorem revS_len (z : Str) : (revS z).length = z.length := by
  show z.cps.toList.reverse.toArray.size = z.cps.size
  rw [List.size_toArray, List.length_reverse, Array.length_toList]
theorem spv_turned {z : Str} (h : z.length ≤ 1000) : SpV sp_turned [.str z] H (.str (revS z)) := fun H1 _ Q q E => ⟨z, rfl, h, q⟩
theorem spv_renamed {z old new : Str} (h : z.length ≤ 1000) (h1 : new.length = old.length) (h2 : old.length ≤ 100) : SpV sp_renamed [.str z, .str old, .str new] H (.str (renS z old new)) := fun H1 _ Q q E => ⟨z, old, new, rfl, h, h1, h2, q⟩
theorem spv_l_renamed {z old new : Str} (h : z.length ≤ 1000) (h1 : new.length = old.length) (h2 : old.length ≤ 100) : SpV sp_l_renamed [.str z, .str old, .str new] H (.str (renS z old new)) := fun H1 _ Q q E => ⟨z, old, new, rfl, h, h1, h2, q⟩
def sp_l_row_changed : Sp := fun vs H Q _ => ∃ z old new, vs = [.str z, .str old, .str new] ∧ z.length ≤ 1000 ∧ new.length = old.length ∧ old.length ≤ 100 ∧ ∀ H', Ex H H' → Q (.bl true) H'
theorem spv_l_row_changed {z old new : Str} (h : z.length ≤ 1000) (h1 : new.length = old.length) (h2 : old.length ≤ 100) : SpV sp_l_row_changed [.str z, .str old, .str new] H (.bl true) := fun H1 _ Q q E => ⟨z, old, new, rfl, h, h1, h2, q⟩
theorem ok_l_row_changed (T : Tx P K mg) : FnOk P w K mg base (L2.CX P w) 3 T.l_row_changed.f T.l_row_changed.fd ["_law_row", "_law_old", "_law_new_here"] sp_l_row_changed := by
  have G_turned : FnOk P w K mg base (L2.CX P w) 1 T.turned.f T.turned.fd ["row"] sp_turned := ok_turned T
  have G_renamed : FnOk P w K mg base (L2.CX P w) 1 T.renamed.f T.renamed.fd ["row", "old", "new"] sp_renamed := ok_renamed T
  have G_l_renamed : FnOk P w K mg base (L2.CX P w) 1 T.l_renamed.f T.l_renamed.fd ["_law_row", "_law_old", "_law_new_here"] sp_l_renamed := ok_l_renamed T
  have G_l_same : FnOk P w K mg base (L2.CX P w) 2 T.l_same.f T.l_same.fd ["_law_actual", "_law_due"] (sp_l_same 1) := ok_l_same T 1
  refine T.l_row_changed.F.okX sc_l_row_changed (fun vs H Q E h => ?_) (fun cdv A outer s H vs Q E hr h => ?_)
  · obtain ⟨z, old, new, rfl, _⟩ := h
    rfl
  · obtain ⟨z, old, new, rfl, hz, hon, ho, q⟩ := h
    refine ⟨_, (pss_cons (ps_set (i := 3) sc_l_row_changed.nd rfl (Or.inl rfl) (pe_call (E := E0) G_turned (hr.mono (by decide)) (by rfl) T.turned.g T.turned.F.kp T.turned.B .nil passL (pa_cons (pv 0) pa_nil)))
      (pss_cons (ps_if (PW.pt (pw_or (pt_not (pt_val (pe_callB (call_isi) (by rfl) T.b_isinstance (by decide +kernel) (pa_cons (pv 3) (pa_cons (pe_bltn (v := .ty "str") (by rfl) T.b_str (by decide +kernel) rfl) pa_nil))))) (pw_or1 (pt_cmpR op_ne (pe_callB call_len_str (by rfl) T.b_len PySem.boot_len (pa_cons (pv 3) pa_nil)) (pe_callB call_len_str (by rfl) T.b_len PySem.boot_len (pa_cons (pv 0) pa_nil)) (nomark _)))))
        (pss_one (ps_ret pe_bl)) pss_nil)
      (pss_cons (ps_for (passes_of rfl) rfl (pi_range1 (by rfl) T.b_range (pa_cons (pe_callB call_len_str (by rfl) T.b_len PySem.boot_len (pa_cons (pv 0) pa_nil)) pa_nil)) (pg_name (i := 4) sc_l_row_changed.nd rfl (Or.inl rfl))
        (pss_one (ps_if (pt_cmpR op_ne (pe_ix ix_str (pv 3) (pv 4) (fun _ _ => rfl)) (pe_ix ix_str (pv 0) (pe_op op_sub (pe_op op_sub (pe_callB call_len_str (by rfl) T.b_len PySem.boot_len (pa_cons (pv 0) pa_nil)) pe_int) (pv 4)) (fun _ _ => rfl)) (nomark _))
          (pss_one (ps_ret pe_bl)) pss_nil)))
      (pss_one (ps_ret (pe_call (E := E0) G_l_same (hr.mono (by decide)) (by rfl) T.l_same.g T.l_same.F.kp T.l_same.B .nil passL (pa_cons (pe_call (E := E0) G_renamed (hr.mono (by decide)) (by rfl) T.renamed.g T.renamed.F.kp T.renamed.B .nil passL (pa_cons (pv 0) (pa_cons (pv 1) (pa_cons (pv 2) pa_nil)))) (pa_cons (pe_call (E := E0) G_l_renamed (hr.mono (by decide)) (by rfl) T.l_renamed.g T.l_renamed.F.kp T.l_renamed.B .nil passL (pa_cons (pv 0) (pa_cons (pv 1) (pa_cons (pv 2) pa_nil)))) pa_nil)))))))), ?_⟩
    have hz5 : z.length ≤ 100000 := by omega
    have hrl : (revS z).length = z.length := revS_len z
    have hr5 : (revS z).length ≤ 100000 := by omega
    refine q_asg (v := .str (revS z)) (ev_call (by walk_at "ea") (spv_turned hz)) fun H1 e1 => ?_
    refine q_when (by walk_at "et") (fun hb H2 e2 => ?_) (fun hb H2 e2 => ?_)
    · rw [hrl] at hb
      exact absurd hb (by simp)
    refine q_forR0 (n := (z.length : Int)) (by walk_at "ea") (by omega) (fun i σ' H' => ∃ (x4 : Option V), σ' = [some (.str z), some (.str old), some (.str new), some (.str (revS z)), x4] ∧ Ex H H')
      (fun H3 e3 => ⟨none, rfl, (e1.trans e2).trans e3⟩) (fun i σ' H' hi hP => ?_) (fun σ' H' hP => ?_)
    · obtain ⟨x4, rfl, e4⟩ := hP
      have hi' : i < z.cps.toList.length := by rw [← cps_len]; show i < z.length; omega
      have hj : z.cps.toList.length - 1 - i < z.cps.toList.length := by omega
      have h2 : atI z.cps.toList ((z.length : Int) - 1 - (i : Int)) = some (z.cps.toList.getD (z.cps.toList.length - 1 - i) 0) := by
        have : (z.length : Int) - 1 - (i : Int) = ((z.cps.toList.length - 1 - i : Nat) : Int) := by
          have : z.cps.toList.length = z.length := (cps_len z).symm
          omega
        rw [this]
        exact get_at hj
      have h1 : atI (revS z).cps.toList (i : Int) = some (z.cps.toList.getD (z.cps.toList.length - 1 - i) 0) := by
        have hc : (revS z).cps.toList = z.cps.toList.reverse := rfl
        rw [hc]
        have hi2 : i < z.cps.toList.reverse.length := by rw [List.length_reverse]; exact hi'
        rw [get_at hi2, List.getD_eq_getElem?_getD, List.getElem?_reverse hi', List.getD_eq_getElem?_getD]
      refine s_when (et_test (ev_op (x := .str ⟨#[z.cps.toList.getD (z.cps.toList.length - 1 - i) 0]⟩) (y := .str ⟨#[z.cps.toList.getD (z.cps.toList.length - 1 - i) 0]⟩) (ev_op (x := .str (revS z)) (y := .int (i : Int)) (by walk_at "ev") (by walk_at "ev") (rv_ixS hr5 h1)) (ev_op (x := .str z) (y := .int ((z.length : Int) - 1 - (i : Int))) (by walk_at "ev") (by walk_at "ev") (rv_ixS hz5 h2)) (rv_ne rfl))) (fun hb H5 e5 => ?_) (fun hb H5 e5 => ?_)
      · exact absurd hb (by simp)
      · exact ⟨_, rfl, e4.trans e5⟩
    · obtain ⟨x4, rfl, e4⟩ := hP
      show tRet _ _ _ _
      refine s_ret (ev_call (vs := [.str (renS z old new), .str (renS z old new)]) (ea_cons (ev_call (by walk_at "ea") (spv_renamed hz hon ho)) (ea_cons (ev_call (by walk_at "ea") (spv_l_renamed hz hon ho)) ea_nil)) (spv_l_same (Or.inl ⟨.str _, rfl⟩))) fun H5 e5 => q _ (e4.trans e5)
end
end K0
end

section
set_option Elab.async false
set_option linter.all false
set_option maxRecDepth 100000
set_option maxHeartbeats 400000
namespace K0
open PySem PySem.Spec PyProof.Rows L2 Evl
local macro_rules | `(tactic| walk_at "rv") => `(tactic| first
  | exact rv_I0
  | (apply rv_I; first | exact (by decide) | (refine Or.inr ⟨?_, ?_⟩ <;> decide) | (refine Or.inl ⟨?_, ?_⟩ <;> decide) | (refine ⟨?_, ?_⟩ <;> first | decide | omega) | (refine ⟨?_, ?_, ?_⟩ <;> first | decide | omega) | omega | assumption)
  | (apply rv_eq; rfl)
  | (apply rv_ne; rfl)
  | (apply rv_ixL; (focus (apply sq_of; assumption)); (focus rfl))
  | exact rv_inSg
  | exact rv_niSg
  | exact rv_ltS
  | (apply rv_addT; first | assumption | omega))
local macro_rules | `(tactic| walk_at "ev") => `(tactic| first
  | exact ev_c
  | (apply ev_var; rfl)
  | assumption
  | (apply ev_op; (focus walk_at "ev"); (focus walk_at "ev"); (focus walk_at "rv"))
  | (apply ev_len; (focus walk_at "ev"); (focus (apply sq_of; assumption)))
  | (apply ev_lenS; (focus walk_at "ev"); (focus (first | assumption | omega)))
  | (apply ev_int1; (focus walk_at "ev"))
  | (apply ev_intB; (focus walk_at "ev"))
  | (apply ev_notV; (focus walk_at "ev"))
  | (apply ev_chain; (focus walk_at "ev"); (focus walk_at "ev"); (focus walk_at "rv"); (focus walk_at "ev"); (focus walk_at "rv")))
local macro_rules | `(tactic| walk_at "et") => `(tactic| first
  | (apply et_and; (focus walk_at "et"); (focus (intro _; walk_at "et")))
  | (apply et_or; (focus walk_at "et"); (focus (intro _; walk_at "et")))
  | (apply et_not; (focus walk_at "et"))
  | (apply et_test; (focus walk_at "ev"))
  | (apply et_B; (focus walk_at "ev")))
local macro_rules | `(tactic| walk_at "ea") => `(tactic| first
  | exact ea_nil
  | (apply ea_cons; (focus walk_at "ev"); (focus walk_at "ea")))
local macro_rules | `(tactic| walk_at "ev") => `(tactic| (apply ev_call; (focus walk_at "ea"); (focus walk_at "spv")))
local macro_rules | `(tactic| walk_at "rv") => `(tactic| (apply rv_addT; (simp only [Str.length_append]; omega)))
local macro_rules | `(tactic| walk_at "spv") => `(tactic| (apply spv_l_row_changed; (focus ((try rw [Str.length_append]); omega)); (focus (first | assumption | rfl)); (focus first | assumption | omega | decide)))
section
variable {P : Program} {w : World} {K : PySem.W.Frag} {mg : Str → Option Value} {base : Heap} {H : Hp}
variable {σ : L2.St} {D : Ends} {tu tz : TS} {g : TG}
theorem q_forE {tl : TE} {xs : List V} (h : EvL tl σ H xs) (k : ∀ p H1, H p = none → Ex H H1 → H1 p = some (.lst xs) → tSeq (tFor (iList K (tC (.ref p))) g tu) tz D σ H1) : tSeq (tFor (iList K tl) g tu) tz D σ H :=
  h H (Ex.refl H) _ fun p H2 np e hp => k p H2 np e hp
theorem goQ {A B : Prop} (h : B) : if (!true) = true then A else B := h
theorem DS.nn {p l : Addr} {H : Hp} (h : DS p H) (n : H l = none) : l ≠ p := fun e => by
  obtain ⟨_, _, _, _, _, _, hp, _⟩ := h
  rw [← e, n] at hp
  cases hp
theorem mem_rep {z : Str} {n : Nat} {c : Nat} (h : c ∈ (repS z n).cps.toList) : c ∈ z.cps.toList := by
  have h : c ∈ (List.replicate n z.cps.toList).flatten := h
  obtain ⟨l, hl, hc⟩ := List.mem_flatten.mp h
  rw [(List.mem_replicate.mp hl).2] at hc
  exact hc
def poolS (r : Nat) : Str := if r = 0 then "abcd" else "abcdefghijklmnopqrstuvwxyz"
theorem pool_len (r : Nat) : 4 ≤ (poolS r).length ∧ (poolS r).length ≤ 26 := by
  unfold poolS
  split <;> decide +kernel
theorem pool_mem (r : Nat) : ∀ c ∈ (poolS r).cps.toList, c ∈ LETL := by
  unfold poolS
  split <;> decide +kernel
theorem pool_at {r : Nat} (h : (r : Int) < 2) : atI [V.str "abcd", V.str "abcdefghijklmnopqrstuvwxyz"] (r : Int) = some (.str (poolS r)) := by
  have : r = 0 ∨ r = 1 := by omega
  rcases this with h | h <;> subst h <;> rfl
theorem q_ixL {tl ti : TE} {xs : List V} {i : Nat} (h : EvL tl σ H xs) (k : ∀ l H1, H l = none → Ex H H1 → H1 l = some (.lst xs) → ti σ H1 fun y H2 => rIxL K (.ref l) y H2 fun v H3 => tz D (σ.set i (some v)) H3) : tSeq (tAsg (tOp (rIxL K) tl ti) (gName i)) tz D σ H :=
  h H (Ex.refl H) _ fun l H1 a b c => k l H1 a b c
theorem flt_step (h : Nat → Nat) (c : Nat) (cs : List Nat) : ∀ L : List Nat, (L.filter fun i => !decide (h i ∈ cs)).length ≤ (L.filter fun i => !decide (h i ∈ c :: cs)).length + (L.filter fun i => decide (h i = c)).length
  | [] => Nat.zero_le _
  | x :: L => by
    have ih := flt_step h c cs L
    have hd : decide (h x ∈ c :: cs) = (decide (h x = c) || decide (h x ∈ cs)) := by simp
    simp only [List.filter_cons]
    rw [hd]
    generalize decide (h x = c) = A
    generalize decide (h x ∈ cs) = B
    cases A <;> cases B <;> simp at ih ⊢ <;> omega
theorem flt_one (c : Nat) : ((List.range 26).filter fun i => decide (LETL.getD i 0 = c)).length ≤ 1 := by
  by_cases h : c ∈ LETL
  · have k : ∀ c ∈ LETL, ((List.range 26).filter fun i => decide (LETL.getD i 0 = c)).length ≤ 1 := by decide +kernel
    exact k c h
  · rw [List.filter_eq_nil_iff.mpr]
    · exact Nat.zero_le _
    · intro i hi
      have hi : i < LETL.length := by rw [let_len]; exact List.mem_range.mp hi
      intro e
      have e := of_decide_eq_true e
      rw [← e] at h
      exact h (getD_mem hi)
theorem flt_many : ∀ cs : List Nat, 26 ≤ ((List.range 26).filter fun i => !decide (LETL.getD i 0 ∈ cs)).length + cs.length
  | [] => by
    have : (List.range 26).filter (fun i => !decide (LETL.getD i 0 ∈ ([] : List Nat))) = List.range 26 := List.filter_eq_self.mpr fun a _ => by simp
    rw [this, List.length_range]
    exact Nat.le_refl _
  | c :: cs => by
    have a := flt_many cs
    have b := flt_step (fun i => LETL.getD i 0) c cs (List.range 26)
    have d := flt_one c
    rw [List.length_cons]
    omega
theorem spare_at {sg : Str} {r : Nat} (h : sg.length ≤ 4) (hr : r < 22) : ∃ c, c < 128 ∧ atI (given ("abcdefghijklmnopqrstuvwxyz" : Str).cps.size (fun i => !decide (LETL.getD i 0 ∈ sg.cps.toList)) (fun i => .str ⟨#[LETL.getD i 0]⟩)) (r : Int) = some (.str ⟨#[c]⟩) := by
  have hm := flt_many sg.cps.toList
  rw [← cps_len] at hm
  have hs : sg.cps.size ≤ 4 := h
  have hl : r < ((List.range 26).filter fun i => !decide (LETL.getD i 0 ∈ sg.cps.toList)).length := by omega
  have hin := List.getElem_mem hl
  have hk := List.mem_range.mp (List.mem_filter.mp hin).1
  refine ⟨LETL.getD (((List.range 26).filter fun i => !decide (LETL.getD i 0 ∈ sg.cps.toList))[r]) 0, let_small _ (getD_mem (by rw [let_len]; exact hk)), ?_⟩
  refine atI_nat ?_
  unfold given
  rw [show ("abcdefghijklmnopqrstuvwxyz" : Str).cps.size = 26 from by decide +kernel, List.getElem?_map, List.getElem?_eq_getElem hl]
  rfl
def Sb (n : Nat) (z : Str) : Prop := z.length ≤ n ∧ ∀ c ∈ z.cps.toList, c < 128
theorem Sb.app {m n : Nat} {a b : Str} (h : Sb m a) (k : Sb n b) : Sb (m + n) (a ++ b) := ⟨by rw [Str.length_append]; have := h.1; have := k.1; omega, fun c hc => by
  rw [cps_append] at hc
  rcases List.mem_append.mp hc with x | x
  · exact h.2 c x
  · exact k.2 c x⟩
theorem Sb.sm {n : Nat} {z : Str} (h : Sb n z) (k : n ≤ 1000) : Sm z := ⟨Nat.le_trans h.1 k, fun c hc => Nat.lt_trans (h.2 c hc) (by decide)⟩
theorem Sb.one {c : Nat} (h : c < 128) : Sb 1 ⟨#[c]⟩ := ⟨Nat.le_refl _, fun d hd => by
  have : d = c := by simpa using hd
  rw [this]
  exact h⟩
def litL : List Str := ["", "a", "z", "ba", "aa", "az", "abcd", "bcxyz", "abb", "Ab", "aB", "AB", "a c", " ", "a1", "-"]
theorem lit_sb : ∀ t ∈ litL, t.length ≤ 5 ∧ ∀ c ∈ t.cps.toList, c < 128 := by decide +kernel
theorem sb_Z : Sb 1 "Z" := by unfold Sb; decide +kernel
theorem sb_til : Sb 1 "~" := by unfold Sb; decide +kernel
theorem sb_sp : Sb 1 " " := by unfold Sb; decide +kernel
theorem sb_no : Sb 0 "" := by unfold Sb; decide +kernel
def sp_law : Sp := fun vs H Q _ => ∃ (a : Addr) (ns : List Int), vs = [.ref a] ∧ SqL K H a (ns.map V.int) ∧ ns.length ≤ 100 ∧ ∀ H', Q (.bl true) H'
theorem ok_law (T : Tx P K mg) : FnOk P w K mg base (L2.CX P w) 6 T.law.f T.law.fd ["_law_script"] (sp_law (K := K)) := by
  have G_l_new : FnOk P w K mg base (L2.CX P w) 1 T.l_new.f T.l_new.fd ["_law_script"] (sp_l_new (K := K)) := ok_l_new T
  have G_l_draw : FnOk P w K mg base (L2.CX P w) 1 T.l_draw.f T.l_draw.fd ["_law_state", "_law_many"] sp_l_draw := ok_l_draw T
  have G_l_unlike : FnOk P w K mg base (L2.CX P w) 2 T.l_unlike.f T.l_unlike.fd ["_law_state", "_law_pool", "_law_count"] sp_l_unlike := ok_l_unlike T
  have G_l_word : FnOk P w K mg base (L2.CX P w) 2 T.l_word.f T.l_word.fd ["_law_state", "_law_signs_here", "_law_least", "_law_top"] sp_l_word := ok_l_word T
  have G_l_row_changed : FnOk P w K mg base (L2.CX P w) 3 T.l_row_changed.f T.l_row_changed.fd ["_law_row", "_law_old", "_law_new_here"] sp_l_row_changed := ok_l_row_changed T
  have G_l_signs : FnOk P w K mg base (L2.CX P w) 2 T.l_signs.f T.l_signs.fd ["_law_state", "_law_top"] sp_l_signs := ok_l_signs T
  have G_l_same : FnOk P w K mg base (L2.CX P w) 2 T.l_same.f T.l_same.fd ["_law_actual", "_law_due"] (sp_l_same 1) := ok_l_same T 1
  have G_rows_up_to : GFn P w K mg base 1 T.rows_up_to.f T.rows_up_to.fd ["signs", "longest"] sp_rows_up_to := ok_rows_up_to T
  have G_l_rows : FnOk P w K mg base (L2.CX P w) 1 T.l_rows.f T.l_rows.fd ["_law_signs_here", "_law_top"] sp_l_rows := ok_l_rows T
  have G_l_bent : FnOk P w K mg base (L2.CX P w) 3 T.l_bent.f T.l_bent.fd ["_law_state", "_law_text"] sp_l_bent := ok_l_bent T
  have G_l_rows_kept : FnOk P w K mg base (L2.CX P w) 4 T.l_rows_kept.f T.l_rows_kept.fd ["_law_rows_here", "_law_signs_here"] sp_l_rows_kept := ok_l_rows_kept T
  have G_l_texts_kept : FnOk P w K mg base (L2.CX P w) 5 T.l_texts_kept.f T.l_texts_kept.fd ["_law_texts"] sp_l_texts_kept := ok_l_texts_kept T
  have G_l_raised : FnOk P w K mg base (L2.CX P w) 2 T.l_raised.f T.l_raised.fd ["_law_value"] sp_l_raised := ok_l_raised T
  refine T.law.F.okX sc_law (fun vs H Q E h => ?_) (fun cdv A outer s H vs Q E hr h => ?_)
  · obtain ⟨a, ns, rfl, _⟩ := h
    rfl
  · obtain ⟨a, ns, rfl, hS, hn, q⟩ := h
    refine ⟨_, (pss_cons (ps_set (i := 1) sc_law.nd rfl (Or.inl rfl) (pe_call (E := E0) G_l_new (hr.mono (by decide)) (by rfl) T.l_new.g T.l_new.F.kp T.l_new.B .nil passL (pa_cons (pv 0) pa_nil)))
      (pss_cons (ps_set (i := 2) sc_law.nd rfl (Or.inl rfl) pe_str)
      (pss_cons (ps_set (i := 3) sc_law.nd rfl (Or.inl rfl) (pe_ix ix_list (pe_lst (pa_cons pe_str (pa_cons (pv 2) pa_nil))) (pe_call (E := E0) G_l_draw (hr.mono (by decide)) (by rfl) T.l_draw.g T.l_draw.F.kp T.l_draw.B .nil passL (pa_cons (pv 1) (pa_cons pe_int pa_nil))) (fun _ _ => rfl)))
      (pss_cons (ps_set (i := 4) sc_law.nd rfl (Or.inl rfl) (pe_call (E := E0) G_l_draw (hr.mono (by decide)) (by rfl) T.l_draw.g T.l_draw.F.kp T.l_draw.B .nil passL (pa_cons (pv 1) (pa_cons pe_int pa_nil))))
      (pss_cons (ps_set (i := 5) sc_law.nd rfl (Or.inl rfl) (pe_call (E := E0) G_l_unlike (hr.mono (by decide)) (by rfl) T.l_unlike.g T.l_unlike.F.kp T.l_unlike.B .nil passL (pa_cons (pv 1) (pa_cons (pv 3) (pa_cons (pv 4) pa_nil)))))
      (pss_cons (ps_set (i := 6) sc_law.nd rfl (Or.inl rfl) (pe_call (E := E0) G_l_unlike (hr.mono (by decide)) (by rfl) T.l_unlike.g T.l_unlike.F.kp T.l_unlike.B .nil passL (pa_cons (pv 1) (pa_cons (pv 3) (pa_cons (pv 4) pa_nil)))))
      (pss_cons (ps_set (i := 7) sc_law.nd rfl (Or.inl rfl) (pe_call (E := E0) G_l_word (hr.mono (by decide)) (by rfl) T.l_word.g T.l_word.F.kp T.l_word.B .nil passL (pa_cons (pv 1) (pa_cons (pv 3) (pa_cons pe_int (pa_cons pe_int pa_nil))))))
      (Evl.pss_cut (ps_if (pt_cmpR op_eq (pe_call (E := E0) G_l_draw (hr.mono (by decide)) (by rfl) T.l_draw.g T.l_draw.F.kp T.l_draw.B .nil passL (pa_cons (pv 1) (pa_cons pe_int pa_nil))) pe_int (nomark _))
        (pss_one (ps_set (i := 7) sc_law.nd rfl (Or.inl rfl) (pe_op op_mul_str (pv 7) (pe_op op_add pe_int (pe_call (E := E0) G_l_draw (hr.mono (by decide)) (by rfl) T.l_draw.g T.l_draw.F.kp T.l_draw.B .nil passL (pa_cons (pv 1) (pa_cons pe_int pa_nil))))))) pss_nil)
      (pss_cons (ps_if (PW.pt (pw_or (pt_not (pt_val (pe_call (E := E0) G_l_row_changed (hr.mono (by decide)) (by rfl) T.l_row_changed.g T.l_row_changed.F.kp T.l_row_changed.B .nil passL (pa_cons (pv 7) (pa_cons (pv 5) (pa_cons (pv 6) pa_nil)))))) (pw_or1 (pt_not (pt_val (pe_call (E := E0) G_l_row_changed (hr.mono (by decide)) (by rfl) T.l_row_changed.g T.l_row_changed.F.kp T.l_row_changed.B .nil passL (pa_cons (pe_op op_add_str pe_str (pv 7)) (pa_cons pe_str (pa_cons pe_str pa_nil)))))))))
        (pss_one (ps_ret pe_bl)) pss_nil)
      (pss_cons (ps_if (pt_not (pt_val (pe_call (E := E0) G_l_row_changed (hr.mono (by decide)) (by rfl) T.l_row_changed.g T.l_row_changed.F.kp T.l_row_changed.B .nil passL (pa_cons (pe_op op_add_str (pv 7) pe_str) (pa_cons pe_str (pa_cons pe_str pa_nil))))))
        (pss_one (ps_ret pe_bl)) pss_nil)
      (pss_cons (ps_set (i := 8) sc_law.nd rfl (Or.inr rfl) (pe_call (E := E0) G_l_signs (hr.mono (by decide)) (by rfl) T.l_signs.g T.l_signs.F.kp T.l_signs.B .nil passL (pa_cons (pv 1) (pa_cons pe_int pa_nil))))
      (pss_cons (ps_set (i := 9) sc_law.nd rfl (Or.inl rfl) (pe_call (E := E0) G_l_draw (hr.mono (by decide)) (by rfl) T.l_draw.g T.l_draw.F.kp T.l_draw.B .nil passL (pa_cons (pv 1) (pa_cons pe_int pa_nil))))
      (Evl.pss_cut (ps_if (PW.pt (pw_and (pt_cmpR op_lt (pe_callB call_len_str (by rfl) T.b_len PySem.boot_len (pa_cons (pv 8) pa_nil)) pe_int (nomark _)) (pw_and1 (pt_cmpR op_eq (pv 9) pe_int (nomark _)))))
        (pss_one (ps_set (i := 9) sc_law.nd rfl (Or.inl rfl) pe_int)) pss_nil)
      (pss_cons (ps_for (passes_of rfl) rfl (pi_list (pe_lst (pa_cons (pv 9) (pa_cons pe_int (pa_cons pe_int pa_nil))))) (pg_name (i := 10) sc_law.nd rfl (Or.inl rfl))
        (pss_one (ps_if (pt_not (pt_val (pe_call (E := E0) G_l_same (hr.mono (by decide)) (by rfl) T.l_same.g T.l_same.F.kp T.l_same.B .nil passL (pa_cons (pe_listG (E := E0) (pgen_call G_rows_up_to (hr.mono (by decide)) (by rfl) T.rows_up_to.g T.rows_up_to.F.kp T.rows_up_to.B .nil (pa_cons (pv 8) (pa_cons (pv 10) pa_nil))) passL (fun _ _ _ h => h.elim) (hr.mono (by decide)) (by rfl) T.b_list (by decide +kernel)) (pa_cons (pe_call (E := E0) G_l_rows (hr.mono (by decide)) (by rfl) T.l_rows.g T.l_rows.F.kp T.l_rows.B .nil passL (pa_cons (pv 8) (pa_cons (pv 10) pa_nil))) pa_nil)))))
          (pss_one (ps_ret pe_bl)) pss_nil)))
      (pss_cons (ps_set (i := 11) sc_law.nd rfl (Or.inl rfl) (pe_call (E := E0) G_l_word (hr.mono (by decide)) (by rfl) T.l_word.g T.l_word.F.kp T.l_word.B .nil passL (pa_cons (pv 1) (pa_cons (pv 8) (pa_cons pe_int (pa_cons pe_int pa_nil))))))
      (pss_cons (ps_set (i := 12) sc_law.nd rfl (Or.inl rfl) (pe_ix ix_list (pe_lc (own := [("_law_sign", 16)]) (g := gName 16) rfl sc_law.nd (pi_str (pv 2)) (blkOk_by (N := N_law) (sc := defScope s_law) (by decide +kernel)) (fun _ _ _ _ _ => pg_name (i := 16) sc_law.nd rfl (Or.inl rfl)) (fun _ _ _ _ _ => pts_one (pt_cmpR op_notIn_sign (pv 16) (pv 8) (by rfl))) (fun _ _ _ _ _ => (pv 16))) (pe_call (E := E0) G_l_draw (hr.mono (by decide)) (by rfl) T.l_draw.g T.l_draw.F.kp T.l_draw.B .nil passL (pa_cons (pv 1) (pa_cons pe_int pa_nil))) (fun _ _ => rfl)))
      (pss_cons (ps_set (i := 13) sc_law.nd rfl (Or.inl rfl) (pe_call (E := E0) G_l_bent (hr.mono (by decide)) (by rfl) T.l_bent.g T.l_bent.F.kp T.l_bent.B .nil passL (pa_cons (pv 1) (pa_cons (pv 11) pa_nil))))
      (pss_cons (ps_set (i := 14) sc_law.nd rfl (Or.inl rfl) (pe_lst (pa_cons (pv 11) (pa_cons (pv 13) (pa_cons (pe_op op_add_str (pe_op op_add_str (pe_op op_add_str (pv 8) (pv 12)) (pv 11)) pe_str) (pa_cons (pe_op op_add_str (pe_op op_add_str (pv 11) pe_str) (pv 12)) (pa_cons (pe_op op_add_str (pe_op op_add_str (pv 11) (pv 8)) (pv 11)) (pa_cons (pe_op op_add_str pe_str (pv 8)) (pa_cons pe_str (pa_cons (pv 13) pa_nil))))))))))
      (pss_cons (ps_if (pt_not (pt_val (pe_call (E := E0) G_l_rows_kept (hr.mono (by decide)) (by rfl) T.l_rows_kept.g T.l_rows_kept.F.kp T.l_rows_kept.B .nil passL (pa_cons (pv 14) (pa_cons (pv 8) pa_nil)))))
        (pss_one (ps_ret pe_bl)) pss_nil)
      (pss_cons (ps_set (i := 15) sc_law.nd rfl (Or.inl rfl) (pe_lst (pa_cons pe_str (pa_cons pe_str (pa_cons pe_str (pa_cons pe_str (pa_cons pe_str (pa_cons pe_str (pa_cons pe_str (pa_cons pe_str (pa_cons pe_str (pa_cons pe_str (pa_cons pe_str (pa_cons pe_str (pa_cons pe_str (pa_cons pe_str (pa_cons pe_str (pa_cons pe_str pa_nil))))))))))))))))))
      (pss_cons (ps_set (i := 15) sc_law.nd rfl (Or.inl rfl) (pe_op op_cat (pv 15) (pe_lst (pa_cons (pv 8) (pa_cons (pe_call (E := E0) G_l_bent (hr.mono (by decide)) (by rfl) T.l_bent.g T.l_bent.F.kp T.l_bent.B .nil passL (pa_cons (pv 1) (pa_cons (pv 8) pa_nil))) (pa_cons (pe_call (E := E0) G_l_bent (hr.mono (by decide)) (by rfl) T.l_bent.g T.l_bent.F.kp T.l_bent.B .nil passL (pa_cons (pv 1) (pa_cons (pe_call (E := E0) G_l_word (hr.mono (by decide)) (by rfl) T.l_word.g T.l_word.F.kp T.l_word.B .nil passL (pa_cons (pv 1) (pa_cons (pv 2) (pa_cons pe_int (pa_cons pe_int pa_nil))))) pa_nil))) pa_nil))))))
      (pss_cons (ps_if (PW.pt (pw_or (pt_not (pt_val (pe_call (E := E0) G_l_texts_kept (hr.mono (by decide)) (by rfl) T.l_texts_kept.g T.l_texts_kept.F.kp T.l_texts_kept.B .nil passL (pa_cons (pv 15) pa_nil)))) (pw_or1 (pt_not (pt_val (pe_call (E := E0) G_l_texts_kept (hr.mono (by decide)) (by rfl) T.l_texts_kept.g T.l_texts_kept.F.kp T.l_texts_kept.B .nil passL (pa_cons (pe_revL (pv 15)) pa_nil)))))))
        (pss_one (ps_ret pe_bl)) pss_nil)
      (pss_one (ps_ret (pe_call (E := E0) G_l_same (hr.mono (by decide)) (by rfl) T.l_same.g T.l_same.F.kp T.l_same.B .nil passL (pa_cons (pe_call (E := E0) G_l_raised (hr.mono (by decide)) (by rfl) T.l_raised.g T.l_raised.F.kp T.l_raised.B .nil passL (pa_cons (pe_op op_add_str (pv 7) pe_str) pa_nil)) (pa_cons (pe_tup (pa_cons pe_bl (pa_cons pe_bl (pa_cons pe_bl (pa_cons pe_bl (pa_cons (pe_op op_add_str (pv 7) pe_str) pa_nil)))))) pa_nil))))))))))))))))))))))))))), ?_⟩
    refine ⟨.ref a, rfl, a, ns, rfl, hS, hn, fun H1 p e1 np hds => ?_⟩
    refine ⟨.str "abcdefghijklmnopqrstuvwxyz", rfl, (by show 2 ≤ sizeLine; decide), fun l1 nl1 => ?_⟩
    have ds1 := Ex.ds (Ex.new (o := .lst [V.str "abcd", V.str "abcdefghijklmnopqrstuvwxyz"]) nl1) hds
    refine ⟨.ref p, rfl, p, _, rfl, ds1, (by decide), (by decide), fun r1 H2 hr1 fr1 => ?_⟩
    have hl1 := fr1.get (DS.nn hds nl1) (upd_same (a := l1) (o := .lst [V.str "abcd", V.str "abcdefghijklmnopqrstuvwxyz"]) (H := H1))
    refine ⟨l1, _, (r1 : Int), _, rfl, rfl, sq_of hl1, pool_at hr1, ?_⟩
    have frA : Fr p H1 H2 := (Ex.fr (Ex.new nl1) hds).trans fr1
    obtain ⟨hp4, hp26⟩ := pool_len r1
    have hpm := pool_mem r1
    generalize hg : poolS r1 = g at hp4 hp26 hpm
    refine ⟨.ref p, rfl, p, _, rfl, frA.ds, (by decide), (by decide), fun n H3 hn3 fr3 => ?_⟩
    have frB := frA.trans fr3
    refine ⟨.ref p, rfl, .str g, rfl, .int (n : Int), rfl, p, g, n, rfl, frB.ds, (by omega), (by omega), fun old H4 hol hom fr4 => ?_⟩
    have frC := frB.trans fr4
    refine ⟨.ref p, rfl, .str g, rfl, .int (n : Int), rfl, p, g, n, rfl, frC.ds, (by omega), (by omega), fun new H5 hnl hnm fr5 => ?_⟩
    have frD := frC.trans fr5
    refine ⟨.ref p, rfl, .str g, rfl, p, g, 0, 12, rfl, frD.ds, (by omega), (by omega), (by decide), (by decide), fun z H6 _ hz12 hzm fr6 => ?_⟩
    have frE := frD.trans fr6
    have hzs : ∀ c ∈ z.cps.toList, c < 128 := fun c hc => let_small _ (hpm _ (hzm _ hc))
    refine ⟨fun σ' H' => ∃ row : Str, σ' = [some (.ref a), some (.ref p), some (.str "abcdefghijklmnopqrstuvwxyz"), some (.str g), some (.int (n : Int)), some (.str old), some (.str new), some (.str row), none, none, none, none, none, none, none, none, none] ∧ Fr p H1 H' ∧ row.length ≤ 192 ∧ ∀ c ∈ row.cps.toList, c < 128, ?_, ?_⟩
    · refine ⟨.ref p, rfl, p, _, rfl, frE.ds, (by decide), (by decide), fun r7 H7 hr7 fr7 => ?_⟩
      dsimp only [tC]
      refine rv_eq (x := .int (r7 : Int)) (y := .int 1) rfl H7 (Ex.refl _) _ fun H8 e8 => ?_
      have frF := (frE.trans fr7).trans (Ex.fr e8 (frE.trans fr7).ds)
      refine ⟨_, rfl, ?_⟩
      by_cases hb : decide (V.int (r7 : Int) = .int 1) = true
      · rw [hb]
        refine ⟨.str z, rfl, .ref p, rfl, p, _, rfl, frF.ds, (by decide), (by decide), fun r9 H9 hr9 fr9 => ⟨1, (r9 : Int), rfl, rfl, z, 1 + r9, rfl, ?_, (by omega), (by omega), repS z (1 + r9), rfl, frF.trans fr9, ?_, fun c hc => hzs c (mem_rep hc)⟩⟩
        · show V.int (1 + (r9 : Int)) = V.int ((1 + r9 : Nat) : Int)
          rw [Int.natCast_add]
          rfl
        · rw [repS_len]
          have : (1 + r9) * z.length ≤ 16 * 12 := Nat.mul_le_mul (by omega) hz12
          omega
      · rw [Bool.not_eq_true _ |>.mp hb]
        exact ⟨z, rfl, frF, by omega, hzs⟩
    clear hzs hzm hz12 fr6 frE fr5 frD fr4 frC fr3 frB fr1 frA
    rintro σ' H6 ⟨row, rfl, frA, hrl, hrs⟩
    refine q_when (et_or (et_not (et_B (ev_call (vs := [.str row, .str old, .str new]) (by walk_at "ea") (spv_l_row_changed (by omega) (by omega) (by omega))))) (fun _ => et_not (et_B (ev_call (vs := [.str ("abba" ++ row), .str "ab", .str "ba"]) (ea_cons (ev_op (x := .str "abba") (y := .str row) ev_c (by walk_at "ev") (rv_addT (by show 4 + row.length ≤ 100000; omega))) (by walk_at "ea")) (spv_l_row_changed (by rw [Str.length_append]; show 4 + row.length ≤ 1000; omega) rfl (by decide)))))) (fun hb => absurd hb (by decide)) (fun _ H7 e7 => ?_)
    have frB := frA.trans (Ex.fr e7 frA.ds)
    refine q_when (et_not (et_B (ev_call (vs := [.str (row ++ "xyz"), .str "axyz", .str "bzxa"]) (ea_cons (ev_op (x := .str row) (y := .str "xyz") (by walk_at "ev") ev_c (rv_addT (by show row.length + 3 ≤ 100000; omega))) (by walk_at "ea")) (spv_l_row_changed (by rw [Str.length_append]; show row.length + 3 ≤ 1000; omega) rfl (by decide))))) (fun hb => absurd hb (by decide)) (fun _ H8 e8 => ?_)
    have frC := frB.trans (Ex.fr e8 frB.ds)
    clear frB frA
    refine ⟨.ref p, rfl, p, rfl, frC.ds, fun sg H9 hs1 hs4 hsm fr9 => ?_⟩
    have frD := frC.trans fr9
    refine ⟨.ref p, rfl, p, _, rfl, frD.ds, (by decide), (by decide), fun m0 H10 hm0 fr10 => ?_⟩
    have frE := frD.trans fr10
    clear frC frD fr9 fr10
    refine ⟨fun σ' H' => ∃ m : Nat, σ' = [some (.ref a), some (.ref p), some (.str "abcdefghijklmnopqrstuvwxyz"), some (.str g), some (.int (n : Int)), some (.str old), some (.str new), some (.str row), some (.str sg), some (.int (m : Int)), none, none, none, none, none, none, none] ∧ Fr p H1 H' ∧ m ≤ 4, ?_, ?_⟩
    · refine s_when (by walk_at "et") (fun hb H11 e11 => ?_) (fun hb H11 e11 => ?_)
      · refine s_asg ev_c fun H12 e12 => ⟨4, rfl, frE.trans (Ex.fr (e11.trans e12) frE.ds), by decide⟩
      · exact ⟨m0, rfl, frE.trans (Ex.fr e11 frE.ds), by omega⟩
    clear frE
    rintro σ' H11 ⟨m, rfl, frA, hm4⟩
    refine q_forE (K := K) (el_lst (vs := [.int (m : Int), .int 1, .int 0]) (by walk_at "ea") (by show 3 ≤ 100000; decide)) fun lq H12 nq eq hq => ?_
    refine q_forLn (K := K) (a := lq) (xs := [.int (m : Int), .int 1, .int 0]) ev_c (sq_of hq) (fun i σ' H' => ∃ (x10 : Option V), σ' = [some (.ref a), some (.ref p), some (.str "abcdefghijklmnopqrstuvwxyz"), some (.str g), some (.int (n : Int)), some (.str old), some (.str new), some (.str row), some (.str sg), some (.int (m : Int)), x10, none, none, none, none, none, none] ∧ Ex H12 H')
      (fun H13 e13 => ⟨none, rfl, e13⟩) (fun i σ' H' _ hP => ?_) (fun i x σ' H' hx hP => ?_) (fun σ' H' hP => ?_)
    · obtain ⟨_, _, e13⟩ := hP
      exact sq_of (e13 _ _ hq)
    · obtain ⟨x10, rfl, e13⟩ := hP
      have hk : ∃ k : Nat, k ≤ 4 ∧ x = .int (k : Int) := by
        match i, hx with
        | 0, hx => exact ⟨m, hm4, (Option.some.inj hx).symm⟩
        | 1, hx => exact ⟨1, by decide, (Option.some.inj hx).symm⟩
        | 2, hx => exact ⟨0, by decide, (Option.some.inj hx).symm⟩
      obtain ⟨k, hk4, rfl⟩ := hk
      refine ⟨.str sg, rfl, .int (k : Int), rfl, sg, k, rfl, hs4, hk4, fun H14 e14 => ?_⟩
      intro l3 n3
      refine ⟨.str sg, rfl, .int (k : Int), rfl, sg, k, rfl, hs4, hk4, fun H15 l4 e15 n4 h4 => ?_⟩
      have h3 := e15 _ _ (upd_same (a := l3) (o := .lst ((lvls sg k).map V.str)) (H := H14))
      have hlen := lvls_len hs4 k hk4
      refine ⟨.ref l3, .ref l4, rfl, Or.inr ⟨l3, l4, _, _, rfl, rfl, rfl, (by rw [List.length_map]; omega), Or.inl ⟨h3, h4⟩, fun j u v hu hv => ?_⟩, fun H16 e16 => ⟨true, rfl, go ⟨_, rfl, ?_⟩⟩⟩
      · obtain ⟨t, rfl, _⟩ := nth_str hu
        rw [hu] at hv
        exact ⟨.str t, (Option.some.inj hv).symm⟩
      · exact ((e13.trans e14).trans (Ex.new n3)).trans (e15.trans e16)
    · obtain ⟨x10, rfl, e13⟩ := hP
      have frB := frA.trans (Ex.fr (eq.trans e13) frA.ds)
      clear frA
      have hsl : ∀ c ∈ sg.cps.toList, c < 128 := fun c hc => let_small _ (hsm _ hc)
      refine ⟨.ref p, rfl, .str sg, rfl, p, sg, 0, 8, rfl, frB.ds, hs1, (by omega), (by decide), (by decide), fun wd H14 _ hw8 hwm fr14 => ?_⟩
      have frC := frB.trans fr14
      have hwl : ∀ c ∈ wd.cps.toList, c < 128 := fun c hc => hsl _ (hwm _ hc)
      clear frB
      dsimp only [gName]
      refine q_ixL (K := K) (el_lcS (z := "abcdefghijklmnopqrstuvwxyz") (fun i => !decide (LETL.getD i 0 ∈ sg.cps.toList)) (fun i => .str ⟨#[LETL.getD i 0]⟩) (by walk_at "ev") (by decide +kernel) (fun _ => rfl) (fun i c H15 _ hi => ?_) (fun i c H15 _ hi _ => ?_)) fun lc H15 nc ec hc => ?_
      · have hi := cps_at hi
        have : c = LETL.getD i 0 := by
          rw [List.getD_eq_getElem?_getD, show LETL[i]? = some c from hi]
          rfl
        subst this
        exact et_test (ev_op (x := .str ⟨#[LETL.getD i 0]⟩) (y := .str sg) (by walk_at "ev") (by walk_at "ev") rv_niSg)
      · have hi := cps_at hi
        have : c = LETL.getD i 0 := by
          rw [List.getD_eq_getElem?_getD, show LETL[i]? = some c from hi]
          rfl
        subst this
        walk_at "ev"
      have frD := frC.trans (Ex.fr ec frC.ds)
      refine ⟨.ref p, rfl, p, _, rfl, frD.ds, (by decide), (by decide), fun r12 H16 hr12 fr16 => ?_⟩
      have hc2 := fr16.get (DS.nn frC.ds nc) hc
      obtain ⟨sc, hsc, hat⟩ := spare_at hs4 (show r12 < 22 by omega)
      refine ⟨lc, _, (r12 : Int), _, rfl, rfl, sq_of hc2, hat, ?_⟩
      have frE := frD.trans fr16
      clear frC frD
      refine ⟨.ref p, rfl, .str wd, rfl, p, wd, rfl, frE.ds, (by omega), hwl, fun bn H17 hbl hbs fr17 => ?_⟩
      have frF := frE.trans fr17
      clear frE
      have sS : Sb 4 sg := ⟨hs4, hsl⟩
      have sW : Sb 8 wd := ⟨hw8, hwl⟩
      have sB : Sb 33 bn := ⟨by omega, hbs⟩
      have sC : Sb 1 ⟨#[sc]⟩ := Sb.one hsc
      have z1 : ("Z" : Str).length = 1 := rfl
      have z2 : ("~" : Str).length = 1 := rfl
      have z3 : (" " : Str).length = 1 := rfl
      have z4 : (⟨#[sc]⟩ : Str).length = 1 := rfl
      dsimp only [gName]
      refine q_asgL (el_lst (vs := [wd, bn, sg ++ ⟨#[sc]⟩ ++ wd ++ "Z", wd ++ "~" ++ ⟨#[sc]⟩, wd ++ sg ++ wd, " " ++ sg, "", bn].map V.str) (by walk_at "ea") (by show 8 ≤ 100000; decide)) fun p14 H18 n14 e14 h14 => ?_
      have frG := frF.trans (Ex.fr e14 frF.ds)
      refine ⟨.ref p14, rfl, .str sg, rfl, p14, _, sg, rfl, h14, fun t ht => ?_, fun H19 e19 => ⟨true, rfl, go ?_⟩⟩
      · simp only [List.mem_cons, List.not_mem_nil, or_false] at ht
        rcases ht with h | h | h | h | h | h | h | h <;> subst h
        · exact sW.sm (by decide)
        · exact sB.sm (by decide)
        · exact (((sS.app sC).app sW).app sb_Z).sm (by decide)
        · exact ((sW.app sb_til).app sC).sm (by decide)
        · exact ((sW.app sS).app sW).sm (by decide)
        · exact (sb_sp.app sS).sm (by decide)
        · exact sb_no.sm (by decide)
        · exact sB.sm (by decide)
      have frH := frG.trans (Ex.fr e19 frG.ds)
      clear frF frG
      dsimp only
      refine q_asgL (el_lst (vs := litL.map V.str) (by walk_at "ea") (by show 16 ≤ 100000; decide)) fun p15 H20 n15 e15 h15 => ?_
      have frI := frH.trans (Ex.fr e15 frH.ds)
      have p15p := DS.nn frH.ds n15
      clear frH
      refine ⟨.ref p15, rfl, .str sg, rfl, .ref p, rfl, .str sg, rfl, p, sg, rfl, frI.ds, (by omega), hsl, fun y1 H21 hy1 hs1' fr21 => ?_⟩
      have frJ := frI.trans fr21
      refine ⟨.ref p, rfl, .ref p, rfl, .str "abcdefghijklmnopqrstuvwxyz", rfl, p, "abcdefghijklmnopqrstuvwxyz", 1, 5, rfl, frJ.ds, (by decide +kernel), (by decide +kernel), (by decide), (by decide), fun w2 H22 _ hw5 hwm2 fr22 => ?_⟩
      have frK := frJ.trans fr22
      have hws2 : ∀ c ∈ w2.cps.toList, c < 128 := fun c hc => let_small _ (hwm2 _ hc)
      refine ⟨p, w2, rfl, frK.ds, (by omega), hws2, fun y2 H23 hy2 hs2 fr23 => ?_⟩
      have frL := frK.trans fr23
      have h15' := ((fr21.trans fr22).trans fr23).get p15p h15
      clear frI frJ frK
      have sY1 : Sb 17 y1 := ⟨by omega, hs1'⟩
      have sY2 : Sb 21 y2 := ⟨by omega, hs2⟩
      have hTs : ∀ t ∈ litL ++ [sg, y1, y2], Sm t := fun t ht => by
        rcases List.mem_append.mp ht with h | h
        · exact Sb.sm (n := 5) (lit_sb t h) (by decide)
        · simp only [List.mem_cons, List.not_mem_nil, or_false] at h
          rcases h with h | h | h <;> subst h
          · exact sS.sm (by decide)
          · exact sY1.sm (by decide)
          · exact sY2.sm (by decide)
      refine ⟨by show 3 ≤ sizeLine; decide, fun l nl => ?_⟩
      have lp15 : p15 ≠ l := fun e => by
        rw [← e, h15'] at nl
        cases nl
      refine ⟨p15, l, litL.map V.str, _, rfl, rfl, (by rw [upd_ne lp15]; exact h15'), upd_same, (by show 16 + 3 ≤ sizeLine; decide), fun l2 nl2 => ?_⟩
      refine ⟨.ref l2, rfl, l2, litL ++ [sg, y1, y2], rfl, upd_same, hTs, fun H24 e24 => ⟨true, rfl, goQ ?_⟩⟩
      have h24 := e24 _ _ (upd_same (a := l2) (o := .lst (litL.map V.str ++ [V.str sg, V.str y1, V.str y2])) (H := upd H23 l (.lst [V.str sg, V.str y1, V.str y2])))
      refine ⟨.ref l2, rfl, l2, _, rfl, sq_of h24, fun l3 nl3 => ?_⟩
      refine ⟨l3, (litL ++ [sg, y1, y2]).reverse, rfl, ?_, fun t ht => hTs t (List.mem_reverse.mp ht), fun H25 e25 => ⟨true, rfl, go ?_⟩⟩
      · rw [upd_same, List.map_reverse]
        rfl
      have sR : Sb 193 (row ++ " ") := Sb.app (m := 192) (n := 1) ⟨hrl, hrs⟩ sb_sp
      have hr5 : row.length + (" " : Str).length ≤ sizeLine := sz_of (by rw [z3]; omega)
      refine ⟨.str row, rfl, row, " ", rfl, rfl, hr5, row ++ " ", rfl, sR.sm (by decide), told_due (r := .inr (false, false, false, row ++ " ")) fun y H26 e26 dy => ?_⟩
      refine ⟨.str row, rfl, row, " ", rfl, rfl, hr5, (by show 5 ≤ sizeLine; decide), fun pt npt => ?_⟩
      refine ⟨y, .ref pt, rfl, due_alike (due_ex dy (Ex.new npt)) ⟨pt, rfl, upd_same⟩, fun H27 _ => q H27⟩
end
end K0
end

section
set_option Elab.async false
set_option linter.all false
set_option maxRecDepth 100000
set_option maxHeartbeats 4000000
namespace PySem
namespace GrX
open PySem.W PySem.Calls PyProof.Rows PySem.HandSPX
/-! ### the text of the base error's own making -/
def iA : Arguments := { posonlyargs := [], args := [{ arg := "self", annotation := none, pos := ⟨4, 17, 4, 21⟩ }, { arg := "value", annotation := none, pos := ⟨4, 23, 4, 28⟩ }], vararg := none, kwonlyargs := [], kw_defaults := [], kwarg := none, defaults := [] }
def iB : List Stmt :=
  [.Expr (.Call (.Attribute (.Call (.Name "super" ⟨5, 8, 5, 13⟩) [] [] ⟨5, 8, 5, 15⟩) "__init__" ⟨5, 8, 5, 24⟩) [.JoinedStr [.Constant (.str "refused: ") 0 ⟨5, 27, 5, 36⟩, .FormattedValue (.Name "value" ⟨5, 37, 5, 42⟩) 114 none ⟨5, 36, 5, 45⟩] ⟨5, 25, 5, 46⟩] [] ⟨5, 8, 5, 47⟩) ⟨5, 8, 5, 47⟩,
   .Assign [.Attribute (.Name "self" ⟨6, 8, 6, 12⟩) "value" ⟨6, 8, 6, 18⟩] (.Name "value" ⟨6, 21, 6, 26⟩) ⟨6, 8, 6, 26⟩]
def iS : Scope := { kind := .function, names := [(PySem.Str.ofString "self", .local), (PySem.Str.ofString "value", .local), (PySem.Str.ofString "__class__", .free), (PySem.Str.ofString "super", .globalImplicit)], isGenerator := false, isCoroutine := false, more := [] }
abbrev iQ : Str := "GrowsError.__init__"
/-- what the written part says of the base error, at D, and of its making, at fI -/
structure BaseF (prog : Program) (K : Frag) (D fI : Addr) : Prop where
  fn : ∃ (oc : Value) (od : Option Addr) (doc pm : Value) (an : Option Addr) (cda cc : Addr) (ct : Value) (osl : Array (Option Value)),
    K.lookup fI = some ⟨oc, od, .func (ksFn "__init__" iQ iA iB iS .none .none doc pm an (.ref cda) ct cc), osl⟩ ∧ codeIn K (.ref cda) iQ = true ∧
    (∃ ccl cdd vs ccs file tf, K.lookup cda = some ⟨ccl, cdd, .fields vs, ccs⟩ ∧ vs[2]? = some (.str file tf) ∧ ((prog.main.file : Str) == file) = true) ∧
    (∃ cl cld csl, K.lookup cc = some ⟨cl, cld, .cell (some (.ref D)), csl⟩)
  cd : ∃ cdD, clsIn K D = some cdD
  tI : typeIn K (.ref fI) = some (.type "function")
  top : (prog.main.scope.names.lookup ("super" : Str)).isSome = false
  opq : nsIn K cStatics "thirdparty.any" = some none
  sup : nsIn K mainGlobals "super" = some none
section
variable {prog : Program} {w : World} {A : Around} {E : Value → Shared → Prop} {R : Result → Shared → Prop} {s : Shared} {K : Frag} {mg mb : Str → Option Value} {D fI C : Addr}
theorem gr_init0 (T : BaseF prog K D fI) (O : OwnT K D fI C) {x t0 : Addr} {v : Value} (X : K.In s.heap) (G : s.heap.Ns mainGlobals mg) (Bt : s.heap.Ns builtinsNs mb) (hbt : mb "super" = some (.type "super")) (hlim : s.heap.NoLimit) (hx : s.heap.get? x = some (excO C t0)) (hnx : K.lookup x = none)
    (hroom : A.depth < recursionLimit) (hv : ∀ A', A'.depth = A.depth + 1 → Shows prog w A' s.heap v)
    (hq : ∀ h' tk dx t1, InitEnd s.heap h' x C dx t1 v → R (.ok (.ret .none)) { s with heap := h', toks := tk }) :
    codeAny (model prog w) A (.call (.ref fI) ⟨[.ref x, v], []⟩) R s := by
  obtain ⟨oc, od, doc, pm, an, cda, cc, ct, osl, ho, hcd, ⟨ccl, cdd, vs, ccs, file, tf, hcode, hvs, hfile⟩, ⟨cl, cld, csl, hcell⟩⟩ := T.fn
  obtain ⟨cdD, hcdD⟩ := T.cd
  obtain ⟨nm, qq, N, bs, bm, sn, sub, ab, col, dd, k0, k1, k2, k3, k5, hC, hbm⟩ := O.cls
  have hcl : clsIn K C = some { name := nm, bases := bs, mro := .ref C :: bm, ns := N, qualname := qq, hasDict := true, slotNames := sn, subclasses := sub, abstract := ab, collection := col, hasDel := false } := by unfold clsIn; rw [hC] <;> rfl
  obtain ⟨oD, hD1, hD2⟩ : ∃ oD, K.lookup D = some oD ∧ oD.data = .cls cdD := by
    unfold clsIn at hcdD
    split at hcdD
    · rename_i c d cd' sl ho'
      cases hcdD
      exact ⟨_, ho', rfl⟩
    · cases hcdD
  have gns : ∀ {a : Addr} {m : Str → Option Value} {h h' : Heap}, h.Ns a m → (∀ b o, b ≠ x → h.get? b = some o → h'.get? b = some o) → a ≠ x → h'.Ns a m := fun {a m h h'} n k ne => n.at fun o e => k a o ne e
  refine ks_codeAny_call_defAt (binds := [("self", .ref x), ("value", v)]) hroom (X _ _ ho) rfl hlim (codeRec_of X hcd) rfl (BindsTo.of_eq (by first | rfl | with_unfolding_all rfl)) (show ∀ x ∈ iS.names, x.2 ≠ .cell by decide +kernel) (locs rfl) (fun h₁ hns hk₁ => ?_) rfl rfl rfl
  have X₁ : K.In h₁ := X.keeps hk₁
  have hx₁ := hk₁ _ _ hx
  have hxL : s.heap.objs.size ≠ x := Nat.ne_of_gt (Heap.lt_size hx)
  have sub' : (binds : List (Str × Value)) → True := fun _ => trivial
  refine ks_wpAt_execs_cons (ks_wpAt_Expr_any (ks_wpAt_MethodCall ?_))
  refine ks_wpAt_super_base (fd := ksFn "__init__" iQ iA iB iS .none .none doc pm an (.ref cda) ct cc) (by rfl) (by rfl) (by decide +kernel) (by rfl) (X₁ _ _ ho) rfl (by rfl) (by rfl) (X₁ _ _ hcode) rfl hvs hfile T.top ?_
  refine ks_loadName_global (by rfl) (by rfl) (loadGlobal_builtin (mg := mg) (mb := mb) (G.keeps hk₁) (mg_none_of X G T.sup) (Bt.keeps hk₁) hbt ⟨rfl, ?_⟩)
  refine wpAny_loadName_free (by rfl) (by rfl) rfl ⟨_, X₁ _ _ hcell, rfl⟩ ?_
  refine wpAny_loadName_local (by rfl) (by rfl) hns (v := .ref x) (by rfl) ?_
  refine ks_wpAny_isType_cls (X₁ _ _ hD1) hD2 ⟨rfl, ?_⟩
  refine ks_wpAny_call_super (X₁ _ _ hD1) hD2 hx₁ rfl (fun c e => by cases e) (looks_mroIn X₁ O.mD) (fun h₂ hso k₂ => ?_)
  have X₂ : K.In h₂ := X₁.keeps k₂
  have hx₂ := k₂ _ _ hx₁
  have hI : Looks (model prog w) h₂ (isInstance (.ref x) (.type "ValueError")) true := (show InstAt h₂ x (excO C t0) C none from ⟨hx₂, rfl, rfl, trivial⟩).type.andThen (looks_subIn X₂ O.veC)
  have hal : alongIn K "__init__" (((Value.ref C :: bm).dropWhile (· != .ref D)).drop 1) = some (some (.builtin "ValueError.__init__")) := by
    have z := O.sup
    unfold ks_superIn at z
    rw [hcl] at z
    exact z
  have hxC : x ≠ C := fun z => by
    rw [z] at hnx
    rw [hC] at hnx
    cases hnx
  refine kxs_getMethod kxs_ValueError hso (looks_opaque X₂ T.opq) (l₀ := .ref C :: bm) (fun A Q E s k q => wpAny_bind ((looks_clsIn X₂ hcl) A _ E s k (wpAny_pure q))) rfl X₂ hal hI hxC (by decide +kernel) ?_
  refine callWith_mw (i := "ValueError.__init__") (x := x) ?_
  have hns₂ := hns.keeps k₂
  have hrep := hv (A.deeper (callEnv (ksFn "__init__" iQ iA iB iS .none .none doc pm an (.ref cda) ct cc) s.heap.objs.size fI)) rfl
  have len1 : ("refused: " : Str).length ≤ 9 := by decide +kernel
  have lenC : ∀ y : Str, y.length ≤ 16000000 → (Str.empty ++ ("refused: " : Str) ++ y).length ≤ sizeLine := fun y hy => by
    rw [sizeLine_eq, Str.length_append, Str.length_append]
    have e0 : Str.empty.length = 0 := rfl
    omega
  refine Calls.spliced_cons (wpAny_JoinedStr (pos := ⟨5, 25, 5, 46⟩) (Calls.Constant_str ⟨"refused: ", _, rfl, by decide +kernel, ?_⟩))
  refine wpAny_FormattedValue_repr (ldG (m := fun z => List.lookup z [(("self" : Str), Value.ref x), ("value", v)].reverse) (v := v) (hns₂.keeps fun _ _ z => Heap.get?_push_of_some _ z) (by rfl) ?_)
  refine hrep _ _ _ (fun b o z => Heap.get?_push_of_some _ (k₂ b o (hk₁ b o z))) fun y tk tk' hy => ?_
  refine wpAny_formatField_str ?_ ?_ (by rw [sizeLine_eq]; omega)
  all_goals
    refine ⟨y, _, rfl, lenC y hy, lenC y hy, Calls.spliced_nil ⟨Heap.get?_push_size _ rfl, ?_⟩⟩
    have p₃ : ∀ b o, h₂.get? b = some o → (h₂.push (kxs_mw "ValueError.__init__" x)).get? b = some o := fun b o z => Heap.get?_push_of_some _ z
    have X₃ : K.In (h₂.push (kxs_mw "ValueError.__init__" x)) := X₂.keeps p₃
    refine call_mw (X₃ _ _ hC) (p₃ _ _ hx₂) (Heap.get?_push_size _ rfl) (one_size _) fun h₄ t1 k₄ hx₄ => ?_
    have X₄ : K.In h₄ := keepK X₃ hnx k₄
    have hns₄ := gns (hns₂.keeps p₃) k₄ hxL
    show wpAt _ _ _ (execs _ _) _ _ _
    refine wpAt_of_wpAny (wpAny_execs_cons (plainObj_wpAny_Assign_Attribute ?_))
    refine ldG (v := v) hns₄ (by rfl) (ldG (v := .ref x) hns₄ (by rfl) ?_)
    refine set_plain X₄ (ox := excO C t1) (od := none) ⟨hx₄, rfl, rfl, trivial⟩ O.sa ?_
    refine exc_osa X₄ hx₄ hcl (show refsVE (.ref C :: bm) = true from hbm) rfl O.noN (fun h₅ tk₅ dx k₅ dn dne hx₅ hn₅ => ?_)
    show wpAny _ _ (execs _ _) _ _ _
    have kk : ∀ b o, b ≠ x → s.heap.get? b = some o → h₄.get? b = some o := fun b o hb z => k₄ b o hb (p₃ b o (k₂ b o (hk₁ b o z)))
    refine wpAny_execs_nil (hq h₅ tk₅ dx t1 ⟨fun b o hb z => k₅ b o hb (kk b o hb z), hx₅, ?_, dne, hn₅⟩)
    refine Nat.le_trans (Nat.le_of_lt ?_) dn
    exact hns₄.lt
theorem base_of (T : BaseF prog K D fI) : BaseT prog K D fI := ⟨T.cd, T.tI, by
  intro w A R s mg mb C O x t0 v X G Bt hbt hlim hx hnx hroom hv hq
  exact gr_init0 T O X G Bt hbt hlim hx hnx hroom hv hq⟩
end
end GrX
end PySem
end

section
set_option Elab.async false
set_option linter.all false
set_option maxRecDepth 100000
set_option maxHeartbeats 4000000
namespace K0
open PySem PySem.Spec PyProof.Rows L2 Evl
theorem all_mk {w : World} {K : PySem.W.Frag} {h : Heap} {mg : Str → Option Value} {fa : Addr} (X : K.In h) (G : h.Ns mainGlobals mg) (hfa : mg "law" = some (.ref fa))
    {f0 f1 f2 f3 f4 f5 f6 f7 f8 f9 f10 f11 f12 f13 f14 f15 f16 f17 f18 f19 f20 f21 f22 f23 f24 f25 f26 f27 f28 cGrowsError cInvalidSigns cUnknownSign cInvalidGroup fI cda cc : Addr}
    {od0 an0 od1 an1 od2 an2 od3 an3 od4 an4 od5 an5 od6 an6 od7 an7 od8 an8 od9 an9 od10 an10 od11 an11 od12 an12 od13 an13 od14 an14 od15 an15 od16 an16 od17 an17 od18 an18 od19 an19 od20 an20 od21 an21 od22 an22 od23 an23 od24 an24 od25 an25 od26 an26 od27 an27 od28 an28 odI anI cddI cldI : Option Addr}
    {sl0 sl1 sl2 sl3 sl4 sl5 sl6 sl7 sl8 sl9 sl10 sl11 sl12 sl13 sl14 sl15 sl16 sl17 sl18 sl19 sl20 sl21 sl22 sl23 sl24 sl25 sl26 sl27 sl28 oslI ccsI cslI : Array (Option Value)}
    {vsI : Array Value} {cdDI : ClassData} {fileI : Str} {tfI : Tok}
    {oc0 kV0 dc0 pm0 cd0 ct0 oc1 kV1 dc1 pm1 cd1 ct1 oc2 kV2 dc2 pm2 cd2 ct2 oc3 kV3 dc3 pm3 cd3 ct3 oc4 kV4 dc4 pm4 cd4 ct4 oc5 kV5 dc5 pm5 cd5 ct5 oc6 kV6 dc6 pm6 cd6 ct6 oc7 kV7 dc7 pm7 cd7 ct7 oc8 kV8 dc8 pm8 cd8 ct8 oc9 kV9 dc9 pm9 cd9 ct9 oc10 kV10 dc10 pm10 cd10 ct10 oc11 kV11 dc11 pm11 cd11 ct11 oc12 kV12 dc12 pm12 cd12 ct12 oc13 kV13 dc13 pm13 cd13 ct13 oc14 kV14 dc14 pm14 cd14 ct14 oc15 kV15 dc15 pm15 cd15 ct15 oc16 kV16 dc16 pm16 cd16 ct16 oc17 kV17 dc17 pm17 cd17 ct17 oc18 kV18 dc18 pm18 cd18 ct18 oc19 kV19 dc19 pm19 cd19 ct19 oc20 kV20 dc20 pm20 cd20 ct20 oc21 kV21 dc21 pm21 cd21 ct21 oc22 kV22 dc22 pm22 cd22 ct22 oc23 kV23 dc23 pm23 cd23 ct23 oc24 kV24 dc24 pm24 cd24 ct24 oc25 kV25 dc25 pm25 cd25 ct25 oc26 kV26 dc26 pm26 cd26 ct26 oc27 kV27 dc27 pm27 cd27 ct27 oc28 kV28 dc28 pm28 cd28 ct28 ocI docI pmI ctI cclI clI : Value}
    {t_LETTERS t_MOST_SIGNS : Tok}
    {nmGrowsError qGrowsError : Str} {NGrowsError : Addr} {bsGrowsError bmGrowsError : List Value} {snGrowsError : List Str} {subGrowsError : List Value} {abGrowsError : Bool} {colGrowsError : Option Bool} {ddGrowsError : Option Addr} {k0GrowsError k1GrowsError k2GrowsError k3GrowsError k5GrowsError : Option Value}
    {nmInvalidSigns qInvalidSigns : Str} {NInvalidSigns : Addr} {bsInvalidSigns bmInvalidSigns : List Value} {snInvalidSigns : List Str} {subInvalidSigns : List Value} {abInvalidSigns : Bool} {colInvalidSigns : Option Bool} {ddInvalidSigns : Option Addr} {k0InvalidSigns k1InvalidSigns k2InvalidSigns k3InvalidSigns k5InvalidSigns : Option Value}
    {nmUnknownSign qUnknownSign : Str} {NUnknownSign : Addr} {bsUnknownSign bmUnknownSign : List Value} {snUnknownSign : List Str} {subUnknownSign : List Value} {abUnknownSign : Bool} {colUnknownSign : Option Bool} {ddUnknownSign : Option Addr} {k0UnknownSign k1UnknownSign k2UnknownSign k3UnknownSign k5UnknownSign : Option Value}
    {nmInvalidGroup qInvalidGroup : Str} {NInvalidGroup : Addr} {bsInvalidGroup bmInvalidGroup : List Value} {snInvalidGroup : List Str} {subInvalidGroup : List Value} {abInvalidGroup : Bool} {colInvalidGroup : Option Bool} {ddInvalidGroup : Option Addr} {k0InvalidGroup k1InvalidGroup k2InvalidGroup k3InvalidGroup k5InvalidGroup : Option Value}
    (a0 : PySem.W.nsIn K mainGlobals "is_letters" = some (some (.ref f0)))
    (l0 : K.lookup f0 = some ⟨oc0, od0, .func (PySem.W.fnOf "is_letters" "is_letters" (defArgs s_is_letters) (defBody s_is_letters) (defScope s_is_letters) .none kV0 dc0 pm0 an0 cd0 ct0), sl0⟩)
    (c0 : PySem.W.codeIn K cd0 "is_letters" = true)
    (k0 : PySem.W.keepIn K (.ref f0) = true)
    (a1 : PySem.W.nsIn K mainGlobals "check_signs" = some (some (.ref f1)))
    (l1 : K.lookup f1 = some ⟨oc1, od1, .func (PySem.W.fnOf "check_signs" "check_signs" (defArgs s_check_signs) (defBody s_check_signs) (defScope s_check_signs) .none kV1 dc1 pm1 an1 cd1 ct1), sl1⟩)
    (c1 : PySem.W.codeIn K cd1 "check_signs" = true)
    (k1 : PySem.W.keepIn K (.ref f1) = true)
    (a2 : PySem.W.nsIn K mainGlobals "is_group" = some (some (.ref f2)))
    (l2 : K.lookup f2 = some ⟨oc2, od2, .func (PySem.W.fnOf "is_group" "is_group" (defArgs s_is_group) (defBody s_is_group) (defScope s_is_group) .none kV2 dc2 pm2 an2 cd2 ct2), sl2⟩)
    (c2 : PySem.W.codeIn K cd2 "is_group" = true)
    (k2 : PySem.W.keepIn K (.ref f2) = true)
    (a3 : PySem.W.nsIn K mainGlobals "check_group" = some (some (.ref f3)))
    (l3 : K.lookup f3 = some ⟨oc3, od3, .func (PySem.W.fnOf "check_group" "check_group" (defArgs s_check_group) (defBody s_check_group) (defScope s_check_group) .none kV3 dc3 pm3 an3 cd3 ct3), sl3⟩)
    (c3 : PySem.W.codeIn K cd3 "check_group" = true)
    (k3 : PySem.W.keepIn K (.ref f3) = true)
    (a4 : PySem.W.nsIn K mainGlobals "check_row" = some (some (.ref f4)))
    (l4 : K.lookup f4 = some ⟨oc4, od4, .func (PySem.W.fnOf "check_row" "check_row" (defArgs s_check_row) (defBody s_check_row) (defScope s_check_row) .none kV4 dc4 pm4 an4 cd4 ct4), sl4⟩)
    (c4 : PySem.W.codeIn K cd4 "check_row" = true)
    (k4 : PySem.W.keepIn K (.ref f4) = true)
    (a5 : PySem.W.nsIn K mainGlobals "turned" = some (some (.ref f5)))
    (l5 : K.lookup f5 = some ⟨oc5, od5, .func (PySem.W.fnOf "turned" "turned" (defArgs s_turned) (defBody s_turned) (defScope s_turned) .none kV5 dc5 pm5 an5 cd5 ct5), sl5⟩)
    (c5 : PySem.W.codeIn K cd5 "turned" = true)
    (k5 : PySem.W.keepIn K (.ref f5) = true)
    (a6 : PySem.W.nsIn K mainGlobals "renamed" = some (some (.ref f6)))
    (l6 : K.lookup f6 = some ⟨oc6, od6, .func (PySem.W.fnOf "renamed" "renamed" (defArgs s_renamed) (defBody s_renamed) (defScope s_renamed) .none kV6 dc6 pm6 an6 cd6 ct6), sl6⟩)
    (c6 : PySem.W.codeIn K cd6 "renamed" = true)
    (k6 : PySem.W.keepIn K (.ref f6) = true)
    (a7 : PySem.W.nsIn K mainGlobals "rows_up_to" = some (some (.ref f7)))
    (l7 : K.lookup f7 = some ⟨oc7, od7, .func (PySem.W.fnOf "rows_up_to" "rows_up_to" (defArgs s_rows_up_to) (defBody s_rows_up_to) (defScope s_rows_up_to) .none kV7 dc7 pm7 an7 cd7 ct7), sl7⟩)
    (c7 : PySem.W.codeIn K cd7 "rows_up_to" = true)
    (k7 : PySem.W.keepIn K (.ref f7) = true)
    (a8 : PySem.W.nsIn K mainGlobals "_law_new" = some (some (.ref f8)))
    (l8 : K.lookup f8 = some ⟨oc8, od8, .func (PySem.W.fnOf "_law_new" "_law_new" (defArgs s_l_new) (defBody s_l_new) (defScope s_l_new) .none kV8 dc8 pm8 an8 cd8 ct8), sl8⟩)
    (c8 : PySem.W.codeIn K cd8 "_law_new" = true)
    (k8 : PySem.W.keepIn K (.ref f8) = true)
    (a9 : PySem.W.nsIn K mainGlobals "_law_draw" = some (some (.ref f9)))
    (l9 : K.lookup f9 = some ⟨oc9, od9, .func (PySem.W.fnOf "_law_draw" "_law_draw" (defArgs s_l_draw) (defBody s_l_draw) (defScope s_l_draw) .none kV9 dc9 pm9 an9 cd9 ct9), sl9⟩)
    (c9 : PySem.W.codeIn K cd9 "_law_draw" = true)
    (k9 : PySem.W.keepIn K (.ref f9) = true)
    (a10 : PySem.W.nsIn K mainGlobals "_law_same" = some (some (.ref f10)))
    (l10 : K.lookup f10 = some ⟨oc10, od10, .func (PySem.W.fnOf "_law_same" "_law_same" (defArgs s_l_same) (defBody s_l_same) (defScope s_l_same) .none kV10 dc10 pm10 an10 cd10 ct10), sl10⟩)
    (c10 : PySem.W.codeIn K cd10 "_law_same" = true)
    (k10 : PySem.W.keepIn K (.ref f10) = true)
    (a11 : PySem.W.nsIn K mainGlobals "_law_signs" = some (some (.ref f11)))
    (l11 : K.lookup f11 = some ⟨oc11, od11, .func (PySem.W.fnOf "_law_signs" "_law_signs" (defArgs s_l_signs) (defBody s_l_signs) (defScope s_l_signs) .none kV11 dc11 pm11 an11 cd11 ct11), sl11⟩)
    (c11 : PySem.W.codeIn K cd11 "_law_signs" = true)
    (k11 : PySem.W.keepIn K (.ref f11) = true)
    (a12 : PySem.W.nsIn K mainGlobals "_law_word" = some (some (.ref f12)))
    (l12 : K.lookup f12 = some ⟨oc12, od12, .func (PySem.W.fnOf "_law_word" "_law_word" (defArgs s_l_word) (defBody s_l_word) (defScope s_l_word) .none kV12 dc12 pm12 an12 cd12 ct12), sl12⟩)
    (c12 : PySem.W.codeIn K cd12 "_law_word" = true)
    (k12 : PySem.W.keepIn K (.ref f12) = true)
    (a13 : PySem.W.nsIn K mainGlobals "_law_rows" = some (some (.ref f13)))
    (l13 : K.lookup f13 = some ⟨oc13, od13, .func (PySem.W.fnOf "_law_rows" "_law_rows" (defArgs s_l_rows) (defBody s_l_rows) (defScope s_l_rows) .none kV13 dc13 pm13 an13 cd13 ct13), sl13⟩)
    (c13 : PySem.W.codeIn K cd13 "_law_rows" = true)
    (k13 : PySem.W.keepIn K (.ref f13) = true)
    (a14 : PySem.W.nsIn K mainGlobals "_law_renamed" = some (some (.ref f14)))
    (l14 : K.lookup f14 = some ⟨oc14, od14, .func (PySem.W.fnOf "_law_renamed" "_law_renamed" (defArgs s_l_renamed) (defBody s_l_renamed) (defScope s_l_renamed) .none kV14 dc14 pm14 an14 cd14 ct14), sl14⟩)
    (c14 : PySem.W.codeIn K cd14 "_law_renamed" = true)
    (k14 : PySem.W.keepIn K (.ref f14) = true)
    (a15 : PySem.W.nsIn K mainGlobals "_law_char" = some (some (.ref f15)))
    (l15 : K.lookup f15 = some ⟨oc15, od15, .func (PySem.W.fnOf "_law_char" "_law_char" (defArgs s_l_char) (defBody s_l_char) (defScope s_l_char) .none kV15 dc15 pm15 an15 cd15 ct15), sl15⟩)
    (c15 : PySem.W.codeIn K cd15 "_law_char" = true)
    (k15 : PySem.W.keepIn K (.ref f15) = true)
    (a16 : PySem.W.nsIn K mainGlobals "_law_bent" = some (some (.ref f16)))
    (l16 : K.lookup f16 = some ⟨oc16, od16, .func (PySem.W.fnOf "_law_bent" "_law_bent" (defArgs s_l_bent) (defBody s_l_bent) (defScope s_l_bent) .none kV16 dc16 pm16 an16 cd16 ct16), sl16⟩)
    (c16 : PySem.W.codeIn K cd16 "_law_bent" = true)
    (k16 : PySem.W.keepIn K (.ref f16) = true)
    (a17 : PySem.W.nsIn K mainGlobals "_law_unlike" = some (some (.ref f17)))
    (l17 : K.lookup f17 = some ⟨oc17, od17, .func (PySem.W.fnOf "_law_unlike" "_law_unlike" (defArgs s_l_unlike) (defBody s_l_unlike) (defScope s_l_unlike) .none kV17 dc17 pm17 an17 cd17 ct17), sl17⟩)
    (c17 : PySem.W.codeIn K cd17 "_law_unlike" = true)
    (k17 : PySem.W.keepIn K (.ref f17) = true)
    (a18 : PySem.W.nsIn K mainGlobals "_law_is_group" = some (some (.ref f18)))
    (l18 : K.lookup f18 = some ⟨oc18, od18, .func (PySem.W.fnOf "_law_is_group" "_law_is_group" (defArgs s_l_is_group) (defBody s_l_is_group) (defScope s_l_is_group) .none kV18 dc18 pm18 an18 cd18 ct18), sl18⟩)
    (c18 : PySem.W.codeIn K cd18 "_law_is_group" = true)
    (k18 : PySem.W.keepIn K (.ref f18) = true)
    (a19 : PySem.W.nsIn K mainGlobals "_law_is_alphabet" = some (some (.ref f19)))
    (l19 : K.lookup f19 = some ⟨oc19, od19, .func (PySem.W.fnOf "_law_is_alphabet" "_law_is_alphabet" (defArgs s_l_is_alphabet) (defBody s_l_is_alphabet) (defScope s_l_is_alphabet) .none kV19 dc19 pm19 an19 cd19 ct19), sl19⟩)
    (c19 : PySem.W.codeIn K cd19 "_law_is_alphabet" = true)
    (k19 : PySem.W.keepIn K (.ref f19) = true)
    (a20 : PySem.W.nsIn K mainGlobals "_law_strange" = some (some (.ref f20)))
    (l20 : K.lookup f20 = some ⟨oc20, od20, .func (PySem.W.fnOf "_law_strange" "_law_strange" (defArgs s_l_strange) (defBody s_l_strange) (defScope s_l_strange) .none kV20 dc20 pm20 an20 cd20 ct20), sl20⟩)
    (c20 : PySem.W.codeIn K cd20 "_law_strange" = true)
    (k20 : PySem.W.keepIn K (.ref f20) = true)
    (a21 : PySem.W.nsIn K mainGlobals "_law_signs_told" = some (some (.ref f21)))
    (l21 : K.lookup f21 = some ⟨oc21, od21, .func (PySem.W.fnOf "_law_signs_told" "_law_signs_told" (defArgs s_l_signs_told) (defBody s_l_signs_told) (defScope s_l_signs_told) .none kV21 dc21 pm21 an21 cd21 ct21), sl21⟩)
    (c21 : PySem.W.codeIn K cd21 "_law_signs_told" = true)
    (k21 : PySem.W.keepIn K (.ref f21) = true)
    (a22 : PySem.W.nsIn K mainGlobals "_law_group_told" = some (some (.ref f22)))
    (l22 : K.lookup f22 = some ⟨oc22, od22, .func (PySem.W.fnOf "_law_group_told" "_law_group_told" (defArgs s_l_group_told) (defBody s_l_group_told) (defScope s_l_group_told) .none kV22 dc22 pm22 an22 cd22 ct22), sl22⟩)
    (c22 : PySem.W.codeIn K cd22 "_law_group_told" = true)
    (k22 : PySem.W.keepIn K (.ref f22) = true)
    (a23 : PySem.W.nsIn K mainGlobals "_law_row_told" = some (some (.ref f23)))
    (l23 : K.lookup f23 = some ⟨oc23, od23, .func (PySem.W.fnOf "_law_row_told" "_law_row_told" (defArgs s_l_row_told) (defBody s_l_row_told) (defScope s_l_row_told) .none kV23 dc23 pm23 an23 cd23 ct23), sl23⟩)
    (c23 : PySem.W.codeIn K cd23 "_law_row_told" = true)
    (k23 : PySem.W.keepIn K (.ref f23) = true)
    (a24 : PySem.W.nsIn K mainGlobals "_law_raised" = some (some (.ref f24)))
    (l24 : K.lookup f24 = some ⟨oc24, od24, .func (PySem.W.fnOf "_law_raised" "_law_raised" (defArgs s_l_raised) (defBody s_l_raised) (defScope s_l_raised) .none kV24 dc24 pm24 an24 cd24 ct24), sl24⟩)
    (c24 : PySem.W.codeIn K cd24 "_law_raised" = true)
    (k24 : PySem.W.keepIn K (.ref f24) = true)
    (a25 : PySem.W.nsIn K mainGlobals "_law_texts_kept" = some (some (.ref f25)))
    (l25 : K.lookup f25 = some ⟨oc25, od25, .func (PySem.W.fnOf "_law_texts_kept" "_law_texts_kept" (defArgs s_l_texts_kept) (defBody s_l_texts_kept) (defScope s_l_texts_kept) .none kV25 dc25 pm25 an25 cd25 ct25), sl25⟩)
    (c25 : PySem.W.codeIn K cd25 "_law_texts_kept" = true)
    (k25 : PySem.W.keepIn K (.ref f25) = true)
    (a26 : PySem.W.nsIn K mainGlobals "_law_rows_kept" = some (some (.ref f26)))
    (l26 : K.lookup f26 = some ⟨oc26, od26, .func (PySem.W.fnOf "_law_rows_kept" "_law_rows_kept" (defArgs s_l_rows_kept) (defBody s_l_rows_kept) (defScope s_l_rows_kept) .none kV26 dc26 pm26 an26 cd26 ct26), sl26⟩)
    (c26 : PySem.W.codeIn K cd26 "_law_rows_kept" = true)
    (k26 : PySem.W.keepIn K (.ref f26) = true)
    (a27 : PySem.W.nsIn K mainGlobals "_law_row_changed" = some (some (.ref f27)))
    (l27 : K.lookup f27 = some ⟨oc27, od27, .func (PySem.W.fnOf "_law_row_changed" "_law_row_changed" (defArgs s_l_row_changed) (defBody s_l_row_changed) (defScope s_l_row_changed) .none kV27 dc27 pm27 an27 cd27 ct27), sl27⟩)
    (c27 : PySem.W.codeIn K cd27 "_law_row_changed" = true)
    (k27 : PySem.W.keepIn K (.ref f27) = true)
    (a28 : PySem.W.nsIn K mainGlobals "law" = some (some (.ref f28)))
    (l28 : K.lookup f28 = some ⟨oc28, od28, .func (PySem.W.fnOf "law" "law" (defArgs s_law) (defBody s_law) (defScope s_law) .none kV28 dc28 pm28 an28 cd28 ct28), sl28⟩)
    (c28 : PySem.W.codeIn K cd28 "law" = true)
    (k28 : PySem.W.keepIn K (.ref f28) = true)
    (b_ValueError : PySem.W.nsIn K mainGlobals "ValueError" = some none)
    (b_all : PySem.W.nsIn K mainGlobals "all" = some none)
    (b_bool : PySem.W.nsIn K mainGlobals "bool" = some none)
    (b_int : PySem.W.nsIn K mainGlobals "int" = some none)
    (b_isinstance : PySem.W.nsIn K mainGlobals "isinstance" = some none)
    (b_len : PySem.W.nsIn K mainGlobals "len" = some none)
    (b_list : PySem.W.nsIn K mainGlobals "list" = some none)
    (b_range : PySem.W.nsIn K mainGlobals "range" = some none)
    (b_str : PySem.W.nsIn K mainGlobals "str" = some none)
    (b_tuple : PySem.W.nsIn K mainGlobals "tuple" = some none)
    (g_LETTERS : PySem.W.nsIn K mainGlobals "LETTERS" = some (some (.str "abcdefghijklmnopqrstuvwxyz" t_LETTERS)))
    (g_MOST_SIGNS : PySem.W.nsIn K mainGlobals "MOST_SIGNS" = some (some (.int 4 t_MOST_SIGNS)))
    (aCGrowsError : PySem.W.nsIn K mainGlobals "GrowsError" = some (some (.ref cGrowsError)))
    (inGrowsError : PySem.W.findIn K (.ref cGrowsError) "__init__" = some (some (.ref fI)))
    (lI : K.lookup fI = some ⟨ocI, odI, .func (PySem.W.ksFn "__init__" PySem.GrX.iQ PySem.GrX.iA PySem.GrX.iB PySem.GrX.iS .none .none docI pmI anI (.ref cda) ctI cc), oslI⟩)
    (cI : PySem.W.codeIn K (.ref cda) PySem.GrX.iQ = true)
    (ld : K.lookup cda = some ⟨cclI, cddI, .fields vsI, ccsI⟩)
    (vI : vsI[2]? = some (.str fileI tfI))
    (pI : ((PySem.Challenge.rw_stillgrows_k00_words_and_their_refusals.prog.main.file : Str) == fileI) = true)
    (lc : K.lookup cc = some ⟨clI, cldI, .cell (some (.ref cGrowsError)), cslI⟩)
    (dI : PySem.W.clsIn K cGrowsError = some cdDI)
    (tI : PySem.W.typeIn K (.ref fI) = some (.type "function"))
    (oI : PySem.W.nsIn K cStatics "thirdparty.any" = some none)
    (sI : PySem.W.nsIn K mainGlobals "super" = some none)
    (hn : PySem.W.specialIn K (.builtin "object.__class__") "__get__" = some (some (.builtin "getset_descriptor.__get__")))
    (ht : PySem.W.takesIn K (.builtin "object.__class__") = some true)
    (aCInvalidSigns : PySem.W.nsIn K mainGlobals "InvalidSigns" = some (some (.ref cInvalidSigns)))
    (aCUnknownSign : PySem.W.nsIn K mainGlobals "UnknownSign" = some (some (.ref cUnknownSign)))
    (aCInvalidGroup : PySem.W.nsIn K mainGlobals "InvalidGroup" = some (some (.ref cInvalidGroup)))
    (xLGrowsError : K.lookup cGrowsError = some (excClassObj nmGrowsError qGrowsError cGrowsError NGrowsError bsGrowsError bmGrowsError true snGrowsError subGrowsError abGrowsError colGrowsError ddGrowsError k0GrowsError k1GrowsError k2GrowsError k3GrowsError k5GrowsError "ValueError.__new__"))
    (bVGrowsError : HandSPX.refsVE bmGrowsError = true)
    (saGrowsError : PySem.W.findIn K (.ref cGrowsError) "__setattr__" = some (some (.builtin "object.__setattr__")))
    (nvGrowsError : PySem.W.findIn K (.ref cGrowsError) "value" = some none)
    (keGrowsError : PySem.W.keepIn K (.ref cGrowsError) = true)
    (exGrowsError : PySem.W.subIn K (.ref cGrowsError) (.type "BaseException") = some true)
    (veGrowsError : PySem.W.subIn K (.ref cGrowsError) (.type "ValueError") = some true)
    (tyGrowsError : PySem.W.typeIn K (.ref cGrowsError) = some (.type "type"))
    (hdGrowsError : PySem.W.hasDictIn K cGrowsError = true)
    (mDGrowsError : PySem.W.mroIn K cGrowsError (.ref cGrowsError) = some true)
    (suGrowsError : PySem.W.ks_superIn K cGrowsError cGrowsError "__init__" = some (some (.builtin "ValueError.__init__")))
    (gaGrowsError : PySem.W.findIn K (.ref cGrowsError) "__getattribute__" = some (some (.builtin "BaseException.__getattribute__")))
    (ggGrowsError : PySem.W.findIn K (.ref cGrowsError) "__getattr__" = some none)
    (haGrowsError : PySem.W.findIn K (.ref cGrowsError) "__class__" = some (some (.builtin "object.__class__")))
    (hmGrowsError : PySem.W.mroIn K cGrowsError (.type "object") = some true)
    (emGrowsError : PySem.W.exmOne K (.ref cGrowsError) (.ref cGrowsError) = some true)
    (kvGrowsError : PySem.W.kitOne K (.ref cGrowsError) (.type "ValueError") = some true)
    (kiGrowsErrorInvalidSigns : PySem.W.kitOne K (.ref cGrowsError) (.ref cInvalidSigns) = some false)
    (kiGrowsErrorUnknownSign : PySem.W.kitOne K (.ref cGrowsError) (.ref cUnknownSign) = some false)
    (kiGrowsErrorInvalidGroup : PySem.W.kitOne K (.ref cGrowsError) (.ref cInvalidGroup) = some false)
    (xLInvalidSigns : K.lookup cInvalidSigns = some (excClassObj nmInvalidSigns qInvalidSigns cInvalidSigns NInvalidSigns bsInvalidSigns bmInvalidSigns true snInvalidSigns subInvalidSigns abInvalidSigns colInvalidSigns ddInvalidSigns k0InvalidSigns k1InvalidSigns k2InvalidSigns k3InvalidSigns k5InvalidSigns "ValueError.__new__"))
    (bVInvalidSigns : HandSPX.refsVE bmInvalidSigns = true)
    (saInvalidSigns : PySem.W.findIn K (.ref cInvalidSigns) "__setattr__" = some (some (.builtin "object.__setattr__")))
    (nvInvalidSigns : PySem.W.findIn K (.ref cInvalidSigns) "value" = some none)
    (inInvalidSigns : PySem.W.findIn K (.ref cInvalidSigns) "__init__" = some (some (.ref fI)))
    (keInvalidSigns : PySem.W.keepIn K (.ref cInvalidSigns) = true)
    (exInvalidSigns : PySem.W.subIn K (.ref cInvalidSigns) (.type "BaseException") = some true)
    (veInvalidSigns : PySem.W.subIn K (.ref cInvalidSigns) (.type "ValueError") = some true)
    (tyInvalidSigns : PySem.W.typeIn K (.ref cInvalidSigns) = some (.type "type"))
    (hdInvalidSigns : PySem.W.hasDictIn K cInvalidSigns = true)
    (mDInvalidSigns : PySem.W.mroIn K cInvalidSigns (.ref cGrowsError) = some true)
    (suInvalidSigns : PySem.W.ks_superIn K cInvalidSigns cGrowsError "__init__" = some (some (.builtin "ValueError.__init__")))
    (gaInvalidSigns : PySem.W.findIn K (.ref cInvalidSigns) "__getattribute__" = some (some (.builtin "BaseException.__getattribute__")))
    (ggInvalidSigns : PySem.W.findIn K (.ref cInvalidSigns) "__getattr__" = some none)
    (haInvalidSigns : PySem.W.findIn K (.ref cInvalidSigns) "__class__" = some (some (.builtin "object.__class__")))
    (hmInvalidSigns : PySem.W.mroIn K cInvalidSigns (.type "object") = some true)
    (emInvalidSigns : PySem.W.exmOne K (.ref cInvalidSigns) (.ref cGrowsError) = some true)
    (kvInvalidSigns : PySem.W.kitOne K (.ref cInvalidSigns) (.type "ValueError") = some true)
    (kiInvalidSignsInvalidSigns : PySem.W.kitOne K (.ref cInvalidSigns) (.ref cInvalidSigns) = some true)
    (kiInvalidSignsUnknownSign : PySem.W.kitOne K (.ref cInvalidSigns) (.ref cUnknownSign) = some false)
    (kiInvalidSignsInvalidGroup : PySem.W.kitOne K (.ref cInvalidSigns) (.ref cInvalidGroup) = some false)
    (xLUnknownSign : K.lookup cUnknownSign = some (excClassObj nmUnknownSign qUnknownSign cUnknownSign NUnknownSign bsUnknownSign bmUnknownSign true snUnknownSign subUnknownSign abUnknownSign colUnknownSign ddUnknownSign k0UnknownSign k1UnknownSign k2UnknownSign k3UnknownSign k5UnknownSign "ValueError.__new__"))
    (bVUnknownSign : HandSPX.refsVE bmUnknownSign = true)
    (saUnknownSign : PySem.W.findIn K (.ref cUnknownSign) "__setattr__" = some (some (.builtin "object.__setattr__")))
    (nvUnknownSign : PySem.W.findIn K (.ref cUnknownSign) "value" = some none)
    (inUnknownSign : PySem.W.findIn K (.ref cUnknownSign) "__init__" = some (some (.ref fI)))
    (keUnknownSign : PySem.W.keepIn K (.ref cUnknownSign) = true)
    (exUnknownSign : PySem.W.subIn K (.ref cUnknownSign) (.type "BaseException") = some true)
    (veUnknownSign : PySem.W.subIn K (.ref cUnknownSign) (.type "ValueError") = some true)
    (tyUnknownSign : PySem.W.typeIn K (.ref cUnknownSign) = some (.type "type"))
    (hdUnknownSign : PySem.W.hasDictIn K cUnknownSign = true)
    (mDUnknownSign : PySem.W.mroIn K cUnknownSign (.ref cGrowsError) = some true)
    (suUnknownSign : PySem.W.ks_superIn K cUnknownSign cGrowsError "__init__" = some (some (.builtin "ValueError.__init__")))
    (gaUnknownSign : PySem.W.findIn K (.ref cUnknownSign) "__getattribute__" = some (some (.builtin "BaseException.__getattribute__")))
    (ggUnknownSign : PySem.W.findIn K (.ref cUnknownSign) "__getattr__" = some none)
    (haUnknownSign : PySem.W.findIn K (.ref cUnknownSign) "__class__" = some (some (.builtin "object.__class__")))
    (hmUnknownSign : PySem.W.mroIn K cUnknownSign (.type "object") = some true)
    (emUnknownSign : PySem.W.exmOne K (.ref cUnknownSign) (.ref cGrowsError) = some true)
    (kvUnknownSign : PySem.W.kitOne K (.ref cUnknownSign) (.type "ValueError") = some true)
    (kiUnknownSignInvalidSigns : PySem.W.kitOne K (.ref cUnknownSign) (.ref cInvalidSigns) = some false)
    (kiUnknownSignUnknownSign : PySem.W.kitOne K (.ref cUnknownSign) (.ref cUnknownSign) = some true)
    (kiUnknownSignInvalidGroup : PySem.W.kitOne K (.ref cUnknownSign) (.ref cInvalidGroup) = some false)
    (xLInvalidGroup : K.lookup cInvalidGroup = some (excClassObj nmInvalidGroup qInvalidGroup cInvalidGroup NInvalidGroup bsInvalidGroup bmInvalidGroup true snInvalidGroup subInvalidGroup abInvalidGroup colInvalidGroup ddInvalidGroup k0InvalidGroup k1InvalidGroup k2InvalidGroup k3InvalidGroup k5InvalidGroup "ValueError.__new__"))
    (bVInvalidGroup : HandSPX.refsVE bmInvalidGroup = true)
    (saInvalidGroup : PySem.W.findIn K (.ref cInvalidGroup) "__setattr__" = some (some (.builtin "object.__setattr__")))
    (nvInvalidGroup : PySem.W.findIn K (.ref cInvalidGroup) "value" = some none)
    (inInvalidGroup : PySem.W.findIn K (.ref cInvalidGroup) "__init__" = some (some (.ref fI)))
    (keInvalidGroup : PySem.W.keepIn K (.ref cInvalidGroup) = true)
    (exInvalidGroup : PySem.W.subIn K (.ref cInvalidGroup) (.type "BaseException") = some true)
    (veInvalidGroup : PySem.W.subIn K (.ref cInvalidGroup) (.type "ValueError") = some true)
    (tyInvalidGroup : PySem.W.typeIn K (.ref cInvalidGroup) = some (.type "type"))
    (hdInvalidGroup : PySem.W.hasDictIn K cInvalidGroup = true)
    (mDInvalidGroup : PySem.W.mroIn K cInvalidGroup (.ref cGrowsError) = some true)
    (suInvalidGroup : PySem.W.ks_superIn K cInvalidGroup cGrowsError "__init__" = some (some (.builtin "ValueError.__init__")))
    (gaInvalidGroup : PySem.W.findIn K (.ref cInvalidGroup) "__getattribute__" = some (some (.builtin "BaseException.__getattribute__")))
    (ggInvalidGroup : PySem.W.findIn K (.ref cInvalidGroup) "__getattr__" = some none)
    (haInvalidGroup : PySem.W.findIn K (.ref cInvalidGroup) "__class__" = some (some (.builtin "object.__class__")))
    (hmInvalidGroup : PySem.W.mroIn K cInvalidGroup (.type "object") = some true)
    (emInvalidGroup : PySem.W.exmOne K (.ref cInvalidGroup) (.ref cGrowsError) = some true)
    (kvInvalidGroup : PySem.W.kitOne K (.ref cInvalidGroup) (.type "ValueError") = some true)
    (kiInvalidGroupInvalidSigns : PySem.W.kitOne K (.ref cInvalidGroup) (.ref cInvalidSigns) = some false)
    (kiInvalidGroupUnknownSign : PySem.W.kitOne K (.ref cInvalidGroup) (.ref cUnknownSign) = some false)
    (kiInvalidGroupInvalidGroup : PySem.W.kitOne K (.ref cInvalidGroup) (.ref cInvalidGroup) = some true) :
    ∃ fd : FuncData, (∀ (s : Shared) (v : Value), BindsTo s fd ⟨[v], []⟩ [("_law_script", v)]) ∧ ∀ base : Heap, K.In base → base.Ns mainGlobals mg → FnOk PySem.Challenge.rw_stillgrows_k00_words_and_their_refusals.prog w K mg base (L2.CX PySem.Challenge.rw_stillgrows_k00_words_and_their_refusals.prog w) 6 fa fd ["_law_script"] (sp_law (K := K)) := by
  have e : f28 = fa := (Value.ref.inj (Option.some.inj (hfa.symm.trans (PySem.W.mg_of X G a28)))).symm
  subst e
  let T : Tx PySem.Challenge.rw_stillgrows_k00_words_and_their_refusals.prog K mg := {
    is_letters := ⟨f0, _, fun_mk (st := s_is_letters) l0 c0 k0, (fun_mk (x := "is_letters") (qual := "is_letters") (st := s_is_letters) l0 c0 k0).binds (ps := ["text"]) fun _ _ _ _ _ _ us hl => match us, hl with | [_], _ => rfl, PySem.W.mg_of X G a0⟩
    check_signs := ⟨f1, _, fun_mk (st := s_check_signs) l1 c1 k1, (fun_mk (x := "check_signs") (qual := "check_signs") (st := s_check_signs) l1 c1 k1).binds (ps := ["signs"]) fun _ _ _ _ _ _ us hl => match us, hl with | [_], _ => rfl, PySem.W.mg_of X G a1⟩
    is_group := ⟨f2, _, fun_mk (st := s_is_group) l2 c2 k2, (fun_mk (x := "is_group") (qual := "is_group") (st := s_is_group) l2 c2 k2).binds (ps := ["text"]) fun _ _ _ _ _ _ us hl => match us, hl with | [_], _ => rfl, PySem.W.mg_of X G a2⟩
    check_group := ⟨f3, _, fun_mk (st := s_check_group) l3 c3 k3, (fun_mk (x := "check_group") (qual := "check_group") (st := s_check_group) l3 c3 k3).binds (ps := ["group"]) fun _ _ _ _ _ _ us hl => match us, hl with | [_], _ => rfl, PySem.W.mg_of X G a3⟩
    check_row := ⟨f4, _, fun_mk (st := s_check_row) l4 c4 k4, (fun_mk (x := "check_row") (qual := "check_row") (st := s_check_row) l4 c4 k4).binds (ps := ["row", "signs"]) fun _ _ _ _ _ _ us hl => match us, hl with | [_, _], _ => rfl, PySem.W.mg_of X G a4⟩
    turned := ⟨f5, _, fun_mk (st := s_turned) l5 c5 k5, (fun_mk (x := "turned") (qual := "turned") (st := s_turned) l5 c5 k5).binds (ps := ["row"]) fun _ _ _ _ _ _ us hl => match us, hl with | [_], _ => rfl, PySem.W.mg_of X G a5⟩
    renamed := ⟨f6, _, fun_mk (st := s_renamed) l6 c6 k6, (fun_mk (x := "renamed") (qual := "renamed") (st := s_renamed) l6 c6 k6).binds (ps := ["row", "old", "new"]) fun _ _ _ _ _ _ us hl => match us, hl with | [_, _, _], _ => rfl, PySem.W.mg_of X G a6⟩
    rows_up_to := ⟨f7, _, fun_mk (st := s_rows_up_to) l7 c7 k7, (fun_mk (x := "rows_up_to") (qual := "rows_up_to") (st := s_rows_up_to) l7 c7 k7).binds (ps := ["signs", "longest"]) fun _ _ _ _ _ _ us hl => match us, hl with | [_, _], _ => rfl, PySem.W.mg_of X G a7⟩
    l_new := ⟨f8, _, fun_mk (st := s_l_new) l8 c8 k8, (fun_mk (x := "_law_new") (qual := "_law_new") (st := s_l_new) l8 c8 k8).binds (ps := ["_law_script"]) fun _ _ _ _ _ _ us hl => match us, hl with | [_], _ => rfl, PySem.W.mg_of X G a8⟩
    l_draw := ⟨f9, _, fun_mk (st := s_l_draw) l9 c9 k9, (fun_mk (x := "_law_draw") (qual := "_law_draw") (st := s_l_draw) l9 c9 k9).binds (ps := ["_law_state", "_law_many"]) fun _ _ _ _ _ _ us hl => match us, hl with | [_, _], _ => rfl, PySem.W.mg_of X G a9⟩
    l_same := ⟨f10, _, fun_mk (st := s_l_same) l10 c10 k10, (fun_mk (x := "_law_same") (qual := "_law_same") (st := s_l_same) l10 c10 k10).binds (ps := ["_law_actual", "_law_due"]) fun _ _ _ _ _ _ us hl => match us, hl with | [_, _], _ => rfl, PySem.W.mg_of X G a10⟩
    l_signs := ⟨f11, _, fun_mk (st := s_l_signs) l11 c11 k11, (fun_mk (x := "_law_signs") (qual := "_law_signs") (st := s_l_signs) l11 c11 k11).binds (ps := ["_law_state", "_law_top"]) fun _ _ _ _ _ _ us hl => match us, hl with | [_, _], _ => rfl, PySem.W.mg_of X G a11⟩
    l_word := ⟨f12, _, fun_mk (st := s_l_word) l12 c12 k12, (fun_mk (x := "_law_word") (qual := "_law_word") (st := s_l_word) l12 c12 k12).binds (ps := ["_law_state", "_law_signs_here", "_law_least", "_law_top"]) fun _ _ _ _ _ _ us hl => match us, hl with | [_, _, _, _], _ => rfl, PySem.W.mg_of X G a12⟩
    l_rows := ⟨f13, _, fun_mk (st := s_l_rows) l13 c13 k13, (fun_mk (x := "_law_rows") (qual := "_law_rows") (st := s_l_rows) l13 c13 k13).binds (ps := ["_law_signs_here", "_law_top"]) fun _ _ _ _ _ _ us hl => match us, hl with | [_, _], _ => rfl, PySem.W.mg_of X G a13⟩
    l_renamed := ⟨f14, _, fun_mk (st := s_l_renamed) l14 c14 k14, (fun_mk (x := "_law_renamed") (qual := "_law_renamed") (st := s_l_renamed) l14 c14 k14).binds (ps := ["_law_row", "_law_old", "_law_new_here"]) fun _ _ _ _ _ _ us hl => match us, hl with | [_, _, _], _ => rfl, PySem.W.mg_of X G a14⟩
    l_char := ⟨f15, _, fun_mk (st := s_l_char) l15 c15 k15, (fun_mk (x := "_law_char") (qual := "_law_char") (st := s_l_char) l15 c15 k15).binds (ps := ["_law_state"]) fun _ _ _ _ _ _ us hl => match us, hl with | [_], _ => rfl, PySem.W.mg_of X G a15⟩
    l_bent := ⟨f16, _, fun_mk (st := s_l_bent) l16 c16 k16, (fun_mk (x := "_law_bent") (qual := "_law_bent") (st := s_l_bent) l16 c16 k16).binds (ps := ["_law_state", "_law_text"]) fun _ _ _ _ _ _ us hl => match us, hl with | [_, _], _ => rfl, PySem.W.mg_of X G a16⟩
    l_unlike := ⟨f17, _, fun_mk (st := s_l_unlike) l17 c17 k17, (fun_mk (x := "_law_unlike") (qual := "_law_unlike") (st := s_l_unlike) l17 c17 k17).binds (ps := ["_law_state", "_law_pool", "_law_count"]) fun _ _ _ _ _ _ us hl => match us, hl with | [_, _, _], _ => rfl, PySem.W.mg_of X G a17⟩
    l_is_group := ⟨f18, _, fun_mk (st := s_l_is_group) l18 c18 k18, (fun_mk (x := "_law_is_group") (qual := "_law_is_group") (st := s_l_is_group) l18 c18 k18).binds (ps := ["_law_text"]) fun _ _ _ _ _ _ us hl => match us, hl with | [_], _ => rfl, PySem.W.mg_of X G a18⟩
    l_is_alphabet := ⟨f19, _, fun_mk (st := s_l_is_alphabet) l19 c19 k19, (fun_mk (x := "_law_is_alphabet") (qual := "_law_is_alphabet") (st := s_l_is_alphabet) l19 c19 k19).binds (ps := ["_law_text"]) fun _ _ _ _ _ _ us hl => match us, hl with | [_], _ => rfl, PySem.W.mg_of X G a19⟩
    l_strange := ⟨f20, _, fun_mk (st := s_l_strange) l20 c20 k20, (fun_mk (x := "_law_strange") (qual := "_law_strange") (st := s_l_strange) l20 c20 k20).binds (ps := ["_law_row", "_law_signs_here"]) fun _ _ _ _ _ _ us hl => match us, hl with | [_, _], _ => rfl, PySem.W.mg_of X G a20⟩
    l_signs_told := ⟨f21, _, fun_mk (st := s_l_signs_told) l21 c21 k21, (fun_mk (x := "_law_signs_told") (qual := "_law_signs_told") (st := s_l_signs_told) l21 c21 k21).binds (ps := ["_law_text"]) fun _ _ _ _ _ _ us hl => match us, hl with | [_], _ => rfl, PySem.W.mg_of X G a21⟩
    l_group_told := ⟨f22, _, fun_mk (st := s_l_group_told) l22 c22 k22, (fun_mk (x := "_law_group_told") (qual := "_law_group_told") (st := s_l_group_told) l22 c22 k22).binds (ps := ["_law_text"]) fun _ _ _ _ _ _ us hl => match us, hl with | [_], _ => rfl, PySem.W.mg_of X G a22⟩
    l_row_told := ⟨f23, _, fun_mk (st := s_l_row_told) l23 c23 k23, (fun_mk (x := "_law_row_told") (qual := "_law_row_told") (st := s_l_row_told) l23 c23 k23).binds (ps := ["_law_row", "_law_signs_here"]) fun _ _ _ _ _ _ us hl => match us, hl with | [_, _], _ => rfl, PySem.W.mg_of X G a23⟩
    l_raised := ⟨f24, _, fun_mk (st := s_l_raised) l24 c24 k24, (fun_mk (x := "_law_raised") (qual := "_law_raised") (st := s_l_raised) l24 c24 k24).binds (ps := ["_law_value"]) fun _ _ _ _ _ _ us hl => match us, hl with | [_], _ => rfl, PySem.W.mg_of X G a24⟩
    l_texts_kept := ⟨f25, _, fun_mk (st := s_l_texts_kept) l25 c25 k25, (fun_mk (x := "_law_texts_kept") (qual := "_law_texts_kept") (st := s_l_texts_kept) l25 c25 k25).binds (ps := ["_law_texts"]) fun _ _ _ _ _ _ us hl => match us, hl with | [_], _ => rfl, PySem.W.mg_of X G a25⟩
    l_rows_kept := ⟨f26, _, fun_mk (st := s_l_rows_kept) l26 c26 k26, (fun_mk (x := "_law_rows_kept") (qual := "_law_rows_kept") (st := s_l_rows_kept) l26 c26 k26).binds (ps := ["_law_rows_here", "_law_signs_here"]) fun _ _ _ _ _ _ us hl => match us, hl with | [_, _], _ => rfl, PySem.W.mg_of X G a26⟩
    l_row_changed := ⟨f27, _, fun_mk (st := s_l_row_changed) l27 c27 k27, (fun_mk (x := "_law_row_changed") (qual := "_law_row_changed") (st := s_l_row_changed) l27 c27 k27).binds (ps := ["_law_row", "_law_old", "_law_new_here"]) fun _ _ _ _ _ _ us hl => match us, hl with | [_, _, _], _ => rfl, PySem.W.mg_of X G a27⟩
    law := ⟨f28, _, fun_mk (st := s_law) l28 c28 k28, (fun_mk (x := "law") (qual := "law") (st := s_law) l28 c28 k28).binds (ps := ["_law_script"]) fun _ _ _ _ _ _ us hl => match us, hl with | [_], _ => rfl, PySem.W.mg_of X G a28⟩
    b_ValueError := PySem.W.mg_none_of X G b_ValueError
    b_all := PySem.W.mg_none_of X G b_all
    b_bool := PySem.W.mg_none_of X G b_bool
    b_int := PySem.W.mg_none_of X G b_int
    b_isinstance := PySem.W.mg_none_of X G b_isinstance
    b_len := PySem.W.mg_none_of X G b_len
    b_list := PySem.W.mg_none_of X G b_list
    b_range := PySem.W.mg_none_of X G b_range
    b_str := PySem.W.mg_none_of X G b_str
    b_tuple := PySem.W.mg_none_of X G b_tuple
    g_LETTERS := ⟨_, PySem.W.mg_of X G g_LETTERS⟩
    g_MOST_SIGNS := ⟨_, PySem.W.mg_of X G g_MOST_SIGNS⟩
    fI := fI
    base := PySem.GrX.base_of ⟨⟨_, _, _, _, _, cda, cc, _, _, lI, cI, ⟨_, _, _, _, _, _, ld, vI, pI⟩, ⟨_, _, _, lc⟩⟩, ⟨_, dI⟩, tI, by decide +kernel, oI, sI⟩
    a_GrowsError := cGrowsError
    g_GrowsError := PySem.W.mg_of X G aCGrowsError
    o_GrowsError := ⟨⟨_, _, _, _, _, _, _, _, _, _, _, _, _, _, _, xLGrowsError, bVGrowsError⟩, saGrowsError, nvGrowsError, inGrowsError, keGrowsError, exGrowsError, veGrowsError, tyGrowsError, hdGrowsError, mDGrowsError, suGrowsError⟩
    x_GrowsError := ⟨gaGrowsError, ggGrowsError, exGrowsError, hdGrowsError, haGrowsError, hn, ht, hmGrowsError⟩
    f_GrowsError := ⟨gaGrowsError, ggGrowsError, exGrowsError, hdGrowsError⟩
    m_GrowsError := emGrowsError
    v_GrowsError := kvGrowsError
    k_GrowsError_InvalidSigns := kiGrowsErrorInvalidSigns
    k_GrowsError_UnknownSign := kiGrowsErrorUnknownSign
    k_GrowsError_InvalidGroup := kiGrowsErrorInvalidGroup
    a_InvalidSigns := cInvalidSigns
    g_InvalidSigns := PySem.W.mg_of X G aCInvalidSigns
    o_InvalidSigns := ⟨⟨_, _, _, _, _, _, _, _, _, _, _, _, _, _, _, xLInvalidSigns, bVInvalidSigns⟩, saInvalidSigns, nvInvalidSigns, inInvalidSigns, keInvalidSigns, exInvalidSigns, veInvalidSigns, tyInvalidSigns, hdInvalidSigns, mDInvalidSigns, suInvalidSigns⟩
    x_InvalidSigns := ⟨gaInvalidSigns, ggInvalidSigns, exInvalidSigns, hdInvalidSigns, haInvalidSigns, hn, ht, hmInvalidSigns⟩
    f_InvalidSigns := ⟨gaInvalidSigns, ggInvalidSigns, exInvalidSigns, hdInvalidSigns⟩
    m_InvalidSigns := emInvalidSigns
    v_InvalidSigns := kvInvalidSigns
    k_InvalidSigns_InvalidSigns := kiInvalidSignsInvalidSigns
    k_InvalidSigns_UnknownSign := kiInvalidSignsUnknownSign
    k_InvalidSigns_InvalidGroup := kiInvalidSignsInvalidGroup
    a_UnknownSign := cUnknownSign
    g_UnknownSign := PySem.W.mg_of X G aCUnknownSign
    o_UnknownSign := ⟨⟨_, _, _, _, _, _, _, _, _, _, _, _, _, _, _, xLUnknownSign, bVUnknownSign⟩, saUnknownSign, nvUnknownSign, inUnknownSign, keUnknownSign, exUnknownSign, veUnknownSign, tyUnknownSign, hdUnknownSign, mDUnknownSign, suUnknownSign⟩
    x_UnknownSign := ⟨gaUnknownSign, ggUnknownSign, exUnknownSign, hdUnknownSign, haUnknownSign, hn, ht, hmUnknownSign⟩
    f_UnknownSign := ⟨gaUnknownSign, ggUnknownSign, exUnknownSign, hdUnknownSign⟩
    m_UnknownSign := emUnknownSign
    v_UnknownSign := kvUnknownSign
    k_UnknownSign_InvalidSigns := kiUnknownSignInvalidSigns
    k_UnknownSign_UnknownSign := kiUnknownSignUnknownSign
    k_UnknownSign_InvalidGroup := kiUnknownSignInvalidGroup
    a_InvalidGroup := cInvalidGroup
    g_InvalidGroup := PySem.W.mg_of X G aCInvalidGroup
    o_InvalidGroup := ⟨⟨_, _, _, _, _, _, _, _, _, _, _, _, _, _, _, xLInvalidGroup, bVInvalidGroup⟩, saInvalidGroup, nvInvalidGroup, inInvalidGroup, keInvalidGroup, exInvalidGroup, veInvalidGroup, tyInvalidGroup, hdInvalidGroup, mDInvalidGroup, suInvalidGroup⟩
    x_InvalidGroup := ⟨gaInvalidGroup, ggInvalidGroup, exInvalidGroup, hdInvalidGroup, haInvalidGroup, hn, ht, hmInvalidGroup⟩
    f_InvalidGroup := ⟨gaInvalidGroup, ggInvalidGroup, exInvalidGroup, hdInvalidGroup⟩
    m_InvalidGroup := emInvalidGroup
    v_InvalidGroup := kvInvalidGroup
    k_InvalidGroup_InvalidSigns := kiInvalidGroupInvalidSigns
    k_InvalidGroup_UnknownSign := kiInvalidGroupUnknownSign
    k_InvalidGroup_InvalidGroup := kiInvalidGroupInvalidGroup
  }
  exact ⟨_, fun s v => .of_eq rfl, fun base _ _ => ok_law T⟩
theorem walk {l : PySem.W.OpenLaw} {q : Program} {loose : List Str} {XP : (Str → Option Value) → Heap → Prop} {YP : World → Heap → Prop} {d : DefRec} {K : Params → PySem.W.Frag} (hn : l.most = some 63) (hdf : d.params.defaults = [])
    (hY : ∀ (w : World) (h : Heap), YP w h → (K w.params).In h)
    (F : ∀ (w : World) (mg : Str → Option Value) (fa : Addr) (h : Heap), (K w.params).In h → h.Ns mainGlobals mg → mg d.name = some (.ref fa) →
      ∃ fd : FuncData, (∀ (s : Shared) (u : Value), BindsTo s fd ⟨[u], []⟩ [("_law_script", u)]) ∧ ∀ base : Heap, (K w.params).In base → base.Ns mainGlobals mg → FnOk l.prog w (K w.params) mg base (L2.CX l.prog w) 6 fa fd ["_law_script"] (sp_law (K := K w.params))) :
    PySem.W.WalkO q loose XP YP l.row.toRowW d [] (fun f vs => PySem.call f vs) :=
  L2.walk_of (n := 63) (k := 6) (x := "_law_script") (CX := fun w => L2.CX l.prog w) (sp := fun w => sp_law (K := K w.params)) hn (by decide) hdf ⟨rfl, by decide, by decide⟩ hY F (fun _ _ a ns hl _ hS => ⟨a, ns, rfl, hS, by omega, fun _ => rfl⟩) fun _ _ _ _ _ ⟨_, _, _, _, _, _, _, _, _, _, _, _, h⟩ => h
end K0
end

section
set_option Elab.async false
set_option linter.all false
open PySem PySem.W PyProof.Rows
set_option maxRecDepth 100000 in
set_option maxHeartbeats 0 in
theorem PySem.Challenge.cw_stillgrows_k00_words_and_their_refusals_holds : PySem.Challenge.rw_stillgrows_k00_words_and_their_refusals.Holds := by
  w_on; o_law; k_head; (case hw => w_witness2)
  k_fill
  refine K0.walk (l := PySem.Challenge.rw_stillgrows_k00_words_and_their_refusals) rfl rfl (fun w h Y => PySem.W.kIn_of Y) ?F
  case F =>
    intro w mg fa h KX G hmg
    refine' K0.all_mk KX G hmg ?a0 ?l0 ?c0 ?k0 ?a1 ?l1 ?c1 ?k1 ?a2 ?l2 ?c2 ?k2 ?a3 ?l3 ?c3 ?k3 ?a4 ?l4 ?c4 ?k4 ?a5 ?l5 ?c5 ?k5 ?a6 ?l6 ?c6 ?k6 ?a7 ?l7 ?c7 ?k7 ?a8 ?l8 ?c8 ?k8 ?a9 ?l9 ?c9 ?k9 ?a10 ?l10 ?c10 ?k10 ?a11 ?l11 ?c11 ?k11 ?a12 ?l12 ?c12 ?k12 ?a13 ?l13 ?c13 ?k13 ?a14 ?l14 ?c14 ?k14 ?a15 ?l15 ?c15 ?k15 ?a16 ?l16 ?c16 ?k16 ?a17 ?l17 ?c17 ?k17 ?a18 ?l18 ?c18 ?k18 ?a19 ?l19 ?c19 ?k19 ?a20 ?l20 ?c20 ?k20 ?a21 ?l21 ?c21 ?k21 ?a22 ?l22 ?c22 ?k22 ?a23 ?l23 ?c23 ?k23 ?a24 ?l24 ?c24 ?k24 ?a25 ?l25 ?c25 ?k25 ?a26 ?l26 ?c26 ?k26 ?a27 ?l27 ?c27 ?k27 ?a28 ?l28 ?c28 ?k28 ?b_ValueError ?b_all ?b_bool ?b_int ?b_isinstance ?b_len ?b_list ?b_range ?b_str ?b_tuple ?g_LETTERS ?g_MOST_SIGNS ?aCGrowsError ?inGrowsError ?lI ?cI ?ld ?vI ?pI ?lc ?dI ?tI ?oI ?sI ?hn ?ht ?aCInvalidSigns ?aCUnknownSign ?aCInvalidGroup ?xLGrowsError ?bVGrowsError ?saGrowsError ?nvGrowsError ?keGrowsError ?exGrowsError ?veGrowsError ?tyGrowsError ?hdGrowsError ?mDGrowsError ?suGrowsError ?gaGrowsError ?ggGrowsError ?haGrowsError ?hmGrowsError ?emGrowsError ?kvGrowsError ?kiGrowsErrorInvalidSigns ?kiGrowsErrorUnknownSign ?kiGrowsErrorInvalidGroup ?xLInvalidSigns ?bVInvalidSigns ?saInvalidSigns ?nvInvalidSigns ?inInvalidSigns ?keInvalidSigns ?exInvalidSigns ?veInvalidSigns ?tyInvalidSigns ?hdInvalidSigns ?mDInvalidSigns ?suInvalidSigns ?gaInvalidSigns ?ggInvalidSigns ?haInvalidSigns ?hmInvalidSigns ?emInvalidSigns ?kvInvalidSigns ?kiInvalidSignsInvalidSigns ?kiInvalidSignsUnknownSign ?kiInvalidSignsInvalidGroup ?xLUnknownSign ?bVUnknownSign ?saUnknownSign ?nvUnknownSign ?inUnknownSign ?keUnknownSign ?exUnknownSign ?veUnknownSign ?tyUnknownSign ?hdUnknownSign ?mDUnknownSign ?suUnknownSign ?gaUnknownSign ?ggUnknownSign ?haUnknownSign ?hmUnknownSign ?emUnknownSign ?kvUnknownSign ?kiUnknownSignInvalidSigns ?kiUnknownSignUnknownSign ?kiUnknownSignInvalidGroup ?xLInvalidGroup ?bVInvalidGroup ?saInvalidGroup ?nvInvalidGroup ?inInvalidGroup ?keInvalidGroup ?exInvalidGroup ?veInvalidGroup ?tyInvalidGroup ?hdInvalidGroup ?mDInvalidGroup ?suInvalidGroup ?gaInvalidGroup ?ggInvalidGroup ?haInvalidGroup ?hmInvalidGroup ?emInvalidGroup ?kvInvalidGroup ?kiInvalidGroupInvalidSigns ?kiInvalidGroupUnknownSign ?kiInvalidGroupInvalidGroup
    (case a0 => k_is)
    (case l0 => k_is)
    (case c0 => k_is)
    (case k0 => k_is)
    (case a1 => k_is)
    (case l1 => k_is)
    (case c1 => k_is)
    (case k1 => k_is)
    (case a2 => k_is)
    (case l2 => k_is)
    (case c2 => k_is)
    (case k2 => k_is)
    (case a3 => k_is)
    (case l3 => k_is)
    (case c3 => k_is)
    (case k3 => k_is)
    (case a4 => k_is)
    (case l4 => k_is)
    (case c4 => k_is)
    (case k4 => k_is)
    (case a5 => k_is)
    (case l5 => k_is)
    (case c5 => k_is)
    (case k5 => k_is)
    (case a6 => k_is)
    (case l6 => k_is)
    (case c6 => k_is)
    (case k6 => k_is)
    (case a7 => k_is)
    (case l7 => k_is)
    (case c7 => k_is)
    (case k7 => k_is)
    (case a8 => k_is)
    (case l8 => k_is)
    (case c8 => k_is)
    (case k8 => k_is)
    (case a9 => k_is)
    (case l9 => k_is)
    (case c9 => k_is)
    (case k9 => k_is)
    (case a10 => k_is)
    (case l10 => k_is)
    (case c10 => k_is)
    (case k10 => k_is)
    (case a11 => k_is)
    (case l11 => k_is)
    (case c11 => k_is)
    (case k11 => k_is)
    (case a12 => k_is)
    (case l12 => k_is)
    (case c12 => k_is)
    (case k12 => k_is)
    (case a13 => k_is)
    (case l13 => k_is)
    (case c13 => k_is)
    (case k13 => k_is)
    (case a14 => k_is)
    (case l14 => k_is)
    (case c14 => k_is)
    (case k14 => k_is)
    (case a15 => k_is)
    (case l15 => k_is)
    (case c15 => k_is)
    (case k15 => k_is)
    (case a16 => k_is)
    (case l16 => k_is)
    (case c16 => k_is)
    (case k16 => k_is)
    (case a17 => k_is)
    (case l17 => k_is)
    (case c17 => k_is)
    (case k17 => k_is)
    (case a18 => k_is)
    (case l18 => k_is)
    (case c18 => k_is)
    (case k18 => k_is)
    (case a19 => k_is)
    (case l19 => k_is)
    (case c19 => k_is)
    (case k19 => k_is)
    (case a20 => k_is)
    (case l20 => k_is)
    (case c20 => k_is)
    (case k20 => k_is)
    (case a21 => k_is)
    (case l21 => k_is)
    (case c21 => k_is)
    (case k21 => k_is)
    (case a22 => k_is)
    (case l22 => k_is)
    (case c22 => k_is)
    (case k22 => k_is)
    (case a23 => k_is)
    (case l23 => k_is)
    (case c23 => k_is)
    (case k23 => k_is)
    (case a24 => k_is)
    (case l24 => k_is)
    (case c24 => k_is)
    (case k24 => k_is)
    (case a25 => k_is)
    (case l25 => k_is)
    (case c25 => k_is)
    (case k25 => k_is)
    (case a26 => k_is)
    (case l26 => k_is)
    (case c26 => k_is)
    (case k26 => k_is)
    (case a27 => k_is)
    (case l27 => k_is)
    (case c27 => k_is)
    (case k27 => k_is)
    (case a28 => k_is)
    (case l28 => k_is)
    (case c28 => k_is)
    (case k28 => k_is)
    (case b_ValueError => k_is)
    (case b_all => k_is)
    (case b_bool => k_is)
    (case b_int => k_is)
    (case b_isinstance => k_is)
    (case b_len => k_is)
    (case b_list => k_is)
    (case b_range => k_is)
    (case b_str => k_is)
    (case b_tuple => k_is)
    (case g_LETTERS => k_is)
    (case g_MOST_SIGNS => k_is)
    (case aCGrowsError => k_is)
    (case inGrowsError => k_is)
    (case lI => k_is)
    (case cI => k_is)
    (case ld => k_is)
    (case vI => rfl)
    (case pI => first | rfl | decide +kernel)
    (case lc => k_is)
    (case dI => k_is)
    (case tI => k_is)
    (case oI => k_is)
    (case sI => k_is)
    (case hn => k_is)
    (case ht => k_is)
    (case aCInvalidSigns => k_is)
    (case aCUnknownSign => k_is)
    (case aCInvalidGroup => k_is)
    (case xLGrowsError => k_is)
    (case bVGrowsError => first | rfl | decide +kernel)
    (case saGrowsError => k_is)
    (case nvGrowsError => k_is)
    (case keGrowsError => k_is)
    (case exGrowsError => k_is)
    (case veGrowsError => k_is)
    (case tyGrowsError => k_is)
    (case hdGrowsError => k_is)
    (case mDGrowsError => first | k_is | rfl | decide +kernel)
    (case suGrowsError => first | kernel_rfl | rfl | k_is)
    (case gaGrowsError => k_is)
    (case ggGrowsError => k_is)
    (case haGrowsError => k_is)
    (case hmGrowsError => k_is)
    (case emGrowsError => first | k_is | rfl | decide +kernel)
    (case kvGrowsError => first | k_is | rfl | decide +kernel)
    (case kiGrowsErrorInvalidSigns => first | k_is | rfl | decide +kernel)
    (case kiGrowsErrorUnknownSign => first | k_is | rfl | decide +kernel)
    (case kiGrowsErrorInvalidGroup => first | k_is | rfl | decide +kernel)
    (case xLInvalidSigns => k_is)
    (case bVInvalidSigns => first | rfl | decide +kernel)
    (case saInvalidSigns => k_is)
    (case nvInvalidSigns => k_is)
    (case inInvalidSigns => k_is)
    (case keInvalidSigns => k_is)
    (case exInvalidSigns => k_is)
    (case veInvalidSigns => k_is)
    (case tyInvalidSigns => k_is)
    (case hdInvalidSigns => k_is)
    (case mDInvalidSigns => first | k_is | rfl | decide +kernel)
    (case suInvalidSigns => first | kernel_rfl | rfl | k_is)
    (case gaInvalidSigns => k_is)
    (case ggInvalidSigns => k_is)
    (case haInvalidSigns => k_is)
    (case hmInvalidSigns => k_is)
    (case emInvalidSigns => first | k_is | rfl | decide +kernel)
    (case kvInvalidSigns => first | k_is | rfl | decide +kernel)
    (case kiInvalidSignsInvalidSigns => first | k_is | rfl | decide +kernel)
    (case kiInvalidSignsUnknownSign => first | k_is | rfl | decide +kernel)
    (case kiInvalidSignsInvalidGroup => first | k_is | rfl | decide +kernel)
    (case xLUnknownSign => k_is)
    (case bVUnknownSign => first | rfl | decide +kernel)
    (case saUnknownSign => k_is)
    (case nvUnknownSign => k_is)
    (case inUnknownSign => k_is)
    (case keUnknownSign => k_is)
    (case exUnknownSign => k_is)
    (case veUnknownSign => k_is)
    (case tyUnknownSign => k_is)
    (case hdUnknownSign => k_is)
    (case mDUnknownSign => first | k_is | rfl | decide +kernel)
    (case suUnknownSign => first | kernel_rfl | rfl | k_is)
    (case gaUnknownSign => k_is)
    (case ggUnknownSign => k_is)
    (case haUnknownSign => k_is)
    (case hmUnknownSign => k_is)
    (case emUnknownSign => first | k_is | rfl | decide +kernel)
    (case kvUnknownSign => first | k_is | rfl | decide +kernel)
    (case kiUnknownSignInvalidSigns => first | k_is | rfl | decide +kernel)
    (case kiUnknownSignUnknownSign => first | k_is | rfl | decide +kernel)
    (case kiUnknownSignInvalidGroup => first | k_is | rfl | decide +kernel)
    (case xLInvalidGroup => k_is)
    (case bVInvalidGroup => first | rfl | decide +kernel)
    (case saInvalidGroup => k_is)
    (case nvInvalidGroup => k_is)
    (case inInvalidGroup => k_is)
    (case keInvalidGroup => k_is)
    (case exInvalidGroup => k_is)
    (case veInvalidGroup => k_is)
    (case tyInvalidGroup => k_is)
    (case hdInvalidGroup => k_is)
    (case mDInvalidGroup => first | k_is | rfl | decide +kernel)
    (case suInvalidGroup => first | kernel_rfl | rfl | k_is)
    (case gaInvalidGroup => k_is)
    (case ggInvalidGroup => k_is)
    (case haInvalidGroup => k_is)
    (case hmInvalidGroup => k_is)
    (case emInvalidGroup => first | k_is | rfl | decide +kernel)
    (case kvInvalidGroup => first | k_is | rfl | decide +kernel)
    (case kiInvalidGroupInvalidSigns => first | k_is | rfl | decide +kernel)
    (case kiInvalidGroupUnknownSign => first | k_is | rfl | decide +kernel)
    (case kiInvalidGroupInvalidGroup => first | k_is | rfl | decide +kernel)
end
