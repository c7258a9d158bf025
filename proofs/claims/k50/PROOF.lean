import PyProof.Rows.All
import Wide.All
import OpenK.AllK
import Wide.FinOn
import PySem.Challenge.RW_pointorstrip_k50_calendar_rows
import HandS.ForMost
import HandS.Wide
import HandS.IsInst
import HandS.Style
import HandS.OwnEq
import HandS.Flow
import HandS.Records
import HandS.TupAny
import HandS.Walk
set_option Elab.async false
set_option linter.all false
set_option maxRecDepth 100000
set_option maxHeartbeats 0
/-! ### rules and heaps of our own -/
namespace My
open PySem PySem.Spec PyProof.Rows L2
theorem asm {p : Prop} (h : p) : p := h
/-- what the operators ask, closed up so that nothing unfolds it -/
structure OkMul (i j : Int) : Prop where
  ok : IntMulOk i j
structure OkDiv (i j : Int) : Prop where
  ok : CDivW i j
structure OkMod (i j : Int) : Prop where
  ok : 0 < j
theorem op_mulA {X : Cx} : OpR X (binaryOp .Mult) (rI OkMul fun i j => .int (i * j)) := opI fun _ _ _ _ _ _ _ hc q => mul_int q hc.ok
theorem op_fdivA {X : Cx} : OpR X (binaryOp .FloorDiv) (rI OkDiv fun i j => .int (i / j)) := opI fun i j _ _ _ _ _ hc q => by
  have h1 : (0 : Int) < j := hc.ok.1
  exact floordiv_int (by omega) (by rw [Int.fdiv_eq_ediv_of_nonneg i (by omega)]; exact q) (.inl (PyProof.noPylong_of_log2 hc.ok.2))
theorem op_modA {X : Cx} : OpR X (binaryOp .Mod) (rI OkMod fun i j => .int (i % j)) := opI fun i j _ _ _ _ _ hc q => by
  have h1 : (0 : Int) < j := hc.ok
  exact mod_int' (by omega) (by rw [Int.fmod_eq_emod_of_nonneg i (by omega)]; exact q)
theorem pget_list {X : Cx} : PGet X (rIxL X.K) := by
  intro pins s σ H x y v u Q I rx ry h
  obtain ⟨p, xs, i, z, rfl, rfl, hq, he, q⟩ := h
  cases rx
  obtain ⟨t, rfl⟩ := ry
  obtain ⟨its, r, pl, hz⟩ := I.list hq
  obtain ⟨j, h1, h2, h3, h4, h5⟩ := atI_get he
  obtain ⟨w, ew, rw'⟩ := r.get h2
  have hl := r.length
  have hn := line63
  have fin : EP X pins σ Q w s := ⟨z, H, I, rw', q⟩
  by_cases h0 : 0 ≤ i
  · have hj : i.toNat = j := by
      rw [seqIndex_of h0 h5] at h1
      exact Option.some.inj h1
    exact wpAny_getItem_list pl.isList h0 (by omega) (by rw [hj]; simpa using ew) fin
  · have hj : (i + (its.toArray.size : Int)).toNat = j := by
      rw [seqIndex_neg (by omega) h4] at h1
      rw [List.size_toArray, ← hl]
      exact Option.some.inj h1
    exact wpAny_getItem_list_neg pl.isList (by omega) (by rw [List.size_toArray] <;> omega) (by omega) (by rw [hj]; simpa using ew) fin
theorem same_upd {H : Hp} {p : Addr} {o : HO} (h : H p = none) : Same H (upd H p o) := fun b x e => by
  rw [upd_ne (ne_of_none e h)]
  exact e
/-- all but one object as it was -/
def Keep (d : Addr) (H H' : Hp) : Prop := ∀ b o, b ≠ d → H b = some o → H' b = some o
theorem Keep.refl (d : Addr) (H : Hp) : Keep d H H := fun _ _ _ h => h
theorem Keep.trans {d : Addr} {H H1 H2 : Hp} (a : Keep d H H1) (b : Keep d H1 H2) : Keep d H H2 := fun c o n h => b c o n (a c o n h)
theorem Keep.of {d : Addr} {H H1 : Hp} (a : Same H H1) : Keep d H H1 := fun c o _ h => a c o h
theorem Keep.upd (d : Addr) (H : Hp) (o : HO) : Keep d H (upd H d o) := fun b x n e => by
  rw [upd_ne n]
  exact e
theorem Keep.seq {K : PySem.W.Frag} {d : Addr} {H H' : Hp} {a : Addr} {xs : List V} (e : Keep d H H') (n : a ≠ d) (h : SqL K H a xs) : SqL K H' a xs := by
  rcases h with (h | ⟨o, h⟩) | h
  · exact .inl (.inl (e _ _ n h))
  · exact .inl (.inr ⟨o, e _ _ n h⟩)
  · exact .inr h
theorem Keep.tup {K : PySem.W.Frag} {d : Addr} {H H' : Hp} {a : Addr} {xs : List V} (e : Keep d H H') (n : a ≠ d) (h : SqT K H a xs) : SqT K H' a xs := by
  rcases h with (h | ⟨o, h⟩) | h
  · exact .inl (.inl (e _ _ n h))
  · exact .inl (.inr ⟨o, e _ _ n h⟩)
  · exact .inr h
theorem Same.tup {K : PySem.W.Frag} {H H' : Hp} {a : Addr} {xs : List V} (e : Same H H') (h : SqT K H a xs) : SqT K H' a xs := by
  rcases h with (h | ⟨o, h⟩) | h
  · exact .inl (.inl (e _ _ h))
  · exact .inl (.inr ⟨o, e _ _ h⟩)
  · exact .inr h
theorem Keep.seqS {K : PySem.W.Frag} {d s : Addr} {H H' : Hp} {r : List V} {ns : List Int} (e : Keep d H H') (hd : H d = some (.lst (.ref s :: r))) (h : SqL K H s (ns.map V.int)) : SqL K H' s (ns.map V.int) := by
  rcases h with (h | ⟨o, h⟩) | h
  · refine .inl (.inl (e _ _ ?_ h))
    rintro rfl
    rw [hd] at h
    cases ns with
    | nil => cases h
    | cons n ns => cases h
  · refine .inl (.inr ⟨o, e _ _ ?_ h⟩)
    rintro rfl
    rw [hd] at h
    cases h
  · exact .inr h
/-- the list that draws: the script, how many were drawn -/
def DrawAt (K : PySem.W.Frag) (H : Hp) (d s : Addr) (ns : List Int) : Prop := ∃ k : Int, H d = some (.lst [.ref s, .int k]) ∧ SqL K H s (ns.map V.int) ∧ ns.length ≤ 63
theorem DrawAt.same {K : PySem.W.Frag} {H H' : Hp} {d s : Addr} {ns : List Int} (e : Same H H') (h : DrawAt K H d s ns) : DrawAt K H' d s ns := by
  obtain ⟨k, h1, h3, h4⟩ := h
  exact ⟨k, e _ _ h1, e.seq h3, h4⟩
theorem DrawAt.set {K : PySem.W.Frag} {H : Hp} {d s : Addr} {ns : List Int} {k : Int} (h : DrawAt K H d s ns) : DrawAt K (upd H d (.lst [.ref s, .int k])) d s ns := by
  obtain ⟨k0, h1, h3, h4⟩ := h
  exact ⟨k, upd_same, (Keep.upd d H _).seqS h1 h3, h4⟩
theorem mulOk {i j : Int} {a b : Nat} (ha : i.natAbs < 2 ^ a) (hb : j.natAbs < 2 ^ b) (h0 : 0 < a) (h1 : 0 < b) (h : a + b ≤ 1000000) : OkMul i j := ⟨(wide_mul ha hb h0 h1 h).ok⟩
theorem mulOkL {i j : Int} (h1 : -(2 ^ 64) < i) (h2 : i < 2 ^ 64) : OkMul i j := ⟨CMul.ok (.inl ⟨h1, h2⟩)⟩
theorem mulOkR {i j : Int} (h1 : -(2 ^ 64) < j) (h2 : j < 2 ^ 64) : OkMul i j := ⟨CMul.ok (.inr ⟨h1, h2⟩)⟩
theorem divOk {i j : Int} (h : 0 < j) (hb : j < 2 ^ 64) : OkDiv i j := ⟨wide_div (b := 64) h (by omega) (by decide) (by decide)⟩
theorem call_absN {X : Cx} : CallR X (.builtin "abs") (fun xs H Q => ∃ i : Int, xs = [.int i] ∧ Q (.int (i.natAbs : Int)) H) := fun pins s σ H xs us Q I r ⟨i, e, q⟩ => call_abs pins s σ H xs us Q I r ⟨i, e, by
  have h : (if i < 0 then -i else i) = (i.natAbs : Int) := by split <;> omega
  rw [h]
  exact q⟩
theorem call_minN {X : Cx} (hc : X.calm = true) : CallR X (.builtin "min") (fun xs H Q => ∃ i j : Int, xs = [.int i, .int j] ∧ Q (.int (min i j)) H) := fun pins s σ H xs us Q I r ⟨i, j, e, q⟩ => call_min2 hc pins s σ H xs us Q I r ⟨i, j, e, by
  have h : (if j < i then j else i) = min i j := by split <;> omega
  rw [h]
  exact q⟩
/-- the ways of a conditional expression joined -/
theorem tIf_via {t : TT} {ta tb : TE} {σ : L2.St} {H : Hp} {Q : VK} (R : V → Hp → Prop) (h : ∀ Q' : VK, (∀ v H', R v H' → Q' v H') → tIf t ta tb σ H Q') (k : ∀ v H', R v H' → Q v H') : tIf t ta tb σ H Q := h Q k
/-- name = a if t else b, more -/
theorem sIf_via {t : TT} {ta tb : TE} {g : TG} {u : TS} {D : Ends} {σ : L2.St} {H : Hp} (R : V → Hp → Prop) (h : ∀ Q' : VK, (∀ v H', R v H' → Q' v H') → tIf t ta tb σ H Q') (k : ∀ v H', R v H' → g v σ H' fun σ' H'' => u D σ' H'') : tSeq (tAsg (tIf t ta tb) g) u D σ H := h _ k
theorem call_intI {X : Cx} : CallR X (.type "int") (fun xs H Q => ∃ i, xs = [.int i] ∧ Q (.int i) H) := fun pins s σ H xs us Q I r h => call_int1 pins s σ H xs us Q I r (.inl h)
theorem call_lenL {X : Cx} : CallR X (.builtin "len") (fun xs H Q => ∃ p ys, xs = [.ref p] ∧ SqL X.K H p ys ∧ Q (.int ys.length) H) := fun pins s σ H xs us Q I r ⟨p, ys, e, h, q⟩ => call_len_seq pins s σ H xs us Q I r ⟨p, ys, e, .inl h, q⟩
theorem pe_ty {X : Cx} {x : Str} {n : String} {pos : Pos} (hg : Gl X x) (hm : X.mg x = none) (hv : bootBuiltins x = some (.type n)) (hn : x ≠ Str.ofString "__name__" := by decide) (hd : (x == Str.ofString "__debug__") = false := by decide) : PE X (.Name x pos) (tC (.ty n)) := pe_bltn hg hm hv rfl (hn := hn) (hd := hd)
section
variable {P : Program} {w : World} {K : PySem.W.Frag} {mg : Str → Option Value} {base : Heap}
/-- a def that stands at its name and keeps its promise -/
structure Has (P : Program) (w : World) (K : PySem.W.Frag) (mg : Str → Option Value) (base : Heap) (x : Str) (k : Nat) (ps : List Str) (sp : Sp) (f : Addr) (fd : FuncData) : Prop where
  G : FnOk P w K mg base CX0 k f fd ps sp
  g : mg x = some (.ref f)
  k : PySem.W.keepIn K (.ref f) = true
  b : Binds K fd ps []
/-- the def as the top left it -/
structure Def (K : PySem.W.Frag) (mg : Str → Option Value) (x : Str) (st : Stmt) (ps : List Str) (f : Addr) (fd : FuncData) : Prop where
  F : Fun K x x st f fd
  g : mg x = some (.ref f)
  b : Binds K fd ps []
theorem Def.has {x : Str} {st : Stmt} {ps : List Str} {k : Nat} {sp : Sp} {f : Addr} {fd : FuncData} (D : Def K mg x st ps f fd) (G : FnOk P w K mg base CX0 k f fd ps sp) : Has P w K mg base x k ps sp f fd := ⟨G, D.g, D.F.kp, D.b⟩
end
end My
/-! ### the truth of an instance whose class has an own __bool__; objects that are made -/
namespace L2
open PySem PySem.Spec PyProof.Rows
/-- a class with an own __bool__ at f -/
structure BoolC (K : PySem.W.Frag) (C f : Addr) : Prop where
  eq : PySem.W.findIn K (.ref C) "__bool__" = some (some (.ref f))
  fn : PySem.W.isFn K (.ref f) = true
section
variable {X : Cx} {C f : Addr} {fd : FuncData} {ps : List Str} {sp : Sp} {CX : CXT} {E : XK} {n : Nat}
theorem call_one (F : FnOk X.prog X.w X.K X.mg X.base CX n f fd ps sp) (hb : Binds X.K fd ps []) (hx : Passes CX X E) {A : Around} (hr : Room n A) (hfr : A.frames = X.A.frames) {pins : List (Addr × Obj)} {σ : L2.St} {H : Hp} {s : Shared} {x : V} {u : Value}
    (I : Inv X pins σ H s) (rx : RelV x u) {Q : VK} (h : sp [x] H Q E) : wpAny (model X.prog X.w) A (call (.ref f) [u]) (EP X pins σ Q) X.xe s := by
  have e0 : Env0 X.prog X.w X.K X.mg X.base A X.stack s H := by
    have e := I.env0
    exact ⟨hfr ▸ e.frames, e.mod, e.bs, e.bsz, e.funs, e.frf, e.hok, e.bare⟩
  have hl := F.len _ _ _ _ h
  have r1 : Vals [x] [u] := .cons rx .nil
  refine wpAny_call (codeAny_mono (F.run A X.stack s H ⟨[u], []⟩ [u] [x] _ E hr e0 (by simpa using hb s [u] I.kIn (by simpa using hl)) r1 h) fun r s' hq => ?_)
  cases r with
  | error e => exact hx pins σ H s e s' I hq
  | ok fl =>
    cases fl with
    | ret w => exact I.after hq
    | next => exact hq.elim
    | brk => exact hq.elim
    | cont => exact hq.elim
def rTruI (C : Addr) (sp : Sp) (E : XK) : V → Hp → (Bool → Hp → Prop) → Prop := fun x H Q => ∃ a dx fs, x = .ref a ∧ H a = some (.ins C dx fs) ∧ sp [x] H (fun v H' => ∃ b, v = .bl b ∧ Q b H') E
theorem tru_ins (M : BoolC X.K C f) (F : FnOk X.prog X.w X.K X.mg X.base CX n f fd ps sp) (hb : Binds X.K fd ps []) (hx : Passes CX X E) (hr : Room n X.A) : TruR X (rTruI C sp E) := by
  intro pins s σ H x v Q I rx h
  obtain ⟨a, dx, fs, rfl, ha, q⟩ := h
  cases rx
  obtain ⟨mA, J, _⟩ := ins_get I.hok ha
  obtain ⟨od, J, _⟩ := J.look
  obtain ⟨m, hF⟩ := I.fr
  refine PySem.W.truthy_K hF I.ok.mod.kin J M.eq M.fn ?_
  refine wpAny_mono (call_one F hb hx hr rfl I (x := .ref a) rfl q) (fun w s' z => ?_) fun _ _ e => e
  obtain ⟨_, H', I', rz, k, rfl, qk⟩ := z
  cases (show w = .bool k from rz)
  exact ⟨H', I', qk⟩
theorem tru_or {r1 r2 : V → Hp → (Bool → Hp → Prop) → Prop} (h1 : TruR X r1) (h2 : TruR X r2) : TruR X (fun x H Q => r1 x H Q ∨ r2 x H Q) := by
  intro pins s σ H x v Q I rx h
  rcases h with h | h
  · exact h1 pins s σ H x v Q I rx h
  · exact h2 pins s σ H x v Q I rx h
end
end L2
namespace My
open PySem PySem.Spec PyProof.Rows L2
/-- what a class must have so that its instances' fields are read and stored -/
structure ClsR (K : PySem.W.Frag) (mg : Str → Option Value) (x : Str) (C : Addr) : Prop where
  g : mg x = some (.ref C)
  cl : Cls K C
/-- and so that isinstance may be asked of them -/
structure ClsI (K : PySem.W.Frag) (C : Addr) : Prop where
  ha : PySem.W.findIn K (.ref C) "__class__" = some (some (.builtin "object.__class__"))
  hm : PySem.W.mroIn K C (.type "object") = some true
  own : PySem.W.kitOne K (.ref C) (.ref C) = some true
/-- what isinstance asks of object itself -/
structure ObjI (K : PySem.W.Frag) : Prop where
  hn : PySem.W.specialIn K (.builtin "object.__class__") "__get__" = some (some (.builtin "getset_descriptor.__get__"))
  ht : PySem.W.takesIn K (.builtin "object.__class__") = some true
theorem same_make {H H' : Hp} {x dx C : Addr} {fs : List (Str × V)} (nx : H x = none) (nd : H dx = none) (ne : dx ≠ x) (kp : Keep x (upd (upd H dx (.own x)) x (.ins C dx fs)) H') : Same H H' := fun b o e => by
  have n1 : b ≠ x := fun z => by
    rw [z, nx] at e
    cases e
  have n2 : b ≠ dx := fun z => by
    rw [z, nd] at e
    cases e
  refine kp _ _ n1 ?_
  rw [upd_ne n1, upd_ne n2]
  exact e
section
variable {P : Program} {w : World} {K : PySem.W.Frag} {mg : Str → Option Value} {base : Heap}
/-- C(..), as a def calls it, that raises nothing -/
structure Made (P : Program) (w : World) (K : PySem.W.Frag) (mg : Str → Option Value) (base : Heap) (x : Str) (k : Nat) (ps : List Str) (sp : Sp) (C f : Addr) (fd : FuncData) : Prop where
  M : Mk K C f
  G : FnOk P w K mg base CX0 k f fd ps sp
  g : mg x = some (.ref C)
  b : Binds K fd ps []
/-- x.m(..), as a def calls it -/
structure Mth (P : Program) (w : World) (K : PySem.W.Frag) (mg : Str → Option Value) (base : Heap) (C : Addr) (m : Str) (k : Nat) (ps : List Str) (sp : Sp) (f : Addr) (fd : FuncData) : Prop where
  c : Cls K C
  m : Meth K C m f
  G : FnOk P w K mg base CX0 k f fd ps sp
  b : Binds K fd ps []
/-- bool(x), if x: .., as a def asks it -/
structure Bol (P : Program) (w : World) (K : PySem.W.Frag) (mg : Str → Option Value) (base : Heap) (C : Addr) (k : Nat) (sp : Sp) (f : Addr) (fd : FuncData) : Prop where
  M : BoolC K C f
  G : FnOk P w K mg base CX0 k f fd ["self"] sp
  b : Binds K fd ["self"] []
end
/-- an __init__ that only stores its arguments -/
def spStore (C : Addr) (names : List Str) : Sp := fun vs H Q _ => ∃ x dx xs, vs = .ref x :: xs ∧ xs.length = names.length ∧ H x = some (.ins C dx []) ∧ ∀ H', Keep x H H' → H' x = some (.ins C dx (names.zip xs)) → Q .non H'
end My
/-! rows of numbers and rounded lines: the mathematics -/
namespace M50
/-- the simplest fraction p / q between l and h (if there is one) -/
structure Best (l : Int × Int) (h : Option (Int × Int)) (p q : Int) : Prop where
  q1 : 1 ≤ q
  lo : l.1 * q < p * l.2
  hi : ∀ r, h = some r → p * r.2 < r.1 * q
  least : ∀ p' q', 1 ≤ q' → l.1 * q' < p' * l.2 → (∀ r, h = some r → p' * r.2 < r.1 * q') → q ≤ q' ∧ (q' = q → p ≤ p') ∧ (0 ≤ l.1 → p ≤ p')
theorem le_of_mul {a b c : Int} (hc : 0 < c) (h : a * c ≤ b * c) : a ≤ b := Int.le_of_mul_le_mul_right h hc
theorem lt_of_mul {a b c : Int} (hc : 0 < c) (h : a * c < b * c) : a < b := Int.lt_of_mul_lt_mul_right h (Int.le_of_lt hc)
theorem pos_of_mul {a c : Int} (hc : 0 < c) (h : 0 < a * c) : 0 < a := lt_of_mul hc (by rw [Int.zero_mul]; exact h)
theorem best_base {l : Int × Int} {h : Option (Int × Int)} (hl : 0 < l.2) (hh : ∀ r, h = some r → (l.1 / l.2 + 1) * r.2 < r.1) : Best l h (l.1 / l.2 + 1) 1 := by
  have k1 := Int.ediv_mul_le l.1 (show l.2 ≠ 0 by omega)
  have k2 := Int.lt_ediv_add_one_mul_self l.1 hl
  generalize l.1 / l.2 = w at *
  refine ⟨by omega, by omega, fun r e => by rw [Int.mul_one]; exact hh r e, fun p' q' h1 h2 _ => ⟨h1, fun e => ?_, fun h0 => ?_⟩⟩
  · subst e
    have : w * l.2 < p' * l.2 := by omega
    have := lt_of_mul hl this
    omega
  · have w0 : -1 < w := by
      have : -1 * l.2 < w * l.2 := by
        have : (w + 1) * l.2 = w * l.2 + l.2 := by grind
        omega
      exact lt_of_mul hl this
    have a1 : w * l.2 * q' ≤ l.1 * q' := Int.mul_le_mul_of_nonneg_right k1 (by omega)
    have a2 : (w * q') * l.2 < p' * l.2 := by
      have e : w * l.2 * q' = (w * q') * l.2 := by grind
      omega
    have a3 := lt_of_mul hl a2
    have a4 : w * 1 ≤ w * q' := Int.mul_le_mul_of_nonneg_left h1 (by omega)
    omega
/-- the numbers beyond the whole part, turned over -/
def nextL (w : Int) (h : Int × Int) : Int × Int := (h.2, h.1 - w * h.2)
def nextH (w : Int) (l : Int × Int) : Option (Int × Int) := if l.1 - w * l.2 = 0 then none else some (l.2, l.1 - w * l.2)
theorem step_pos {l h : Int × Int} (hl : 0 < l.2) (hh : 0 < h.2) (lt : l.1 * h.2 < h.1 * l.2) : 0 < h.1 - l.1 / l.2 * h.2 := by
  have k1 := Int.ediv_mul_le l.1 (show l.2 ≠ 0 by omega)
  generalize l.1 / l.2 = w at *
  have a1 : w * l.2 * h.2 ≤ l.1 * h.2 := Int.mul_le_mul_of_nonneg_right k1 (by omega)
  have a2 : 0 < (h.1 - w * h.2) * l.2 := by
    have e : (h.1 - w * h.2) * l.2 = h.1 * l.2 - w * l.2 * h.2 := by grind
    omega
  exact pos_of_mul hl a2
theorem best_step {l h : Int × Int} (hl : 0 < l.2) (hh : 0 < h.2) (lt : l.1 * h.2 < h.1 * l.2) {P Q : Int} (b : Best (nextL (l.1 / l.2) h) (nextH (l.1 / l.2) l) P Q) : Best l (some h) (l.1 / l.2 * P + Q) P := by
  have k1 := Int.ediv_mul_le l.1 (show l.2 ≠ 0 by omega)
  have k2 := Int.lt_ediv_add_one_mul_self l.1 hl
  have kp := step_pos hl hh lt
  generalize l.1 / l.2 = w at *
  obtain ⟨q1, lo, hi, least⟩ := b
  unfold nextL at lo least
  dsimp only at lo least
  have r0 : 0 ≤ l.1 - w * l.2 := by omega
  have P0 : 0 < P := by
    have : 0 < P * (h.1 - w * h.2) := by
      have : 0 < h.2 * Q := Int.mul_pos hh (by omega)
      omega
    exact pos_of_mul kp this
  have hi' : P * (l.1 - w * l.2) < l.2 * Q := by
    by_cases z : l.1 - w * l.2 = 0
    · rw [z, Int.mul_zero]
      exact Int.mul_pos hl (by omega)
    · have := hi (l.2, l.1 - w * l.2) (by unfold nextH; rw [if_neg z])
      exact this
  refine ⟨by omega, ?_, fun r e => ?_, fun p' q' h1 h2 h3 => ?_⟩
  · grind
  · cases e
    grind
  · have h3 := h3 h rfl
    have u0 : 0 < p' - w * q' := by
      have a1 : w * l.2 * q' ≤ l.1 * q' := Int.mul_le_mul_of_nonneg_right k1 (by omega)
      have a2 : 0 < (p' - w * q') * l.2 := by
        have e : (p' - w * q') * l.2 = p' * l.2 - w * l.2 * q' := by grind
        omega
      exact pos_of_mul hl a2
    have z := least q' (p' - w * q') (by omega) (by grind) (fun r e => by
      unfold nextH at e
      split at e
      · cases e
      · cases e
        dsimp only
        grind)
    have z3 := z.2.2 (by omega)
    refine ⟨z3, fun e => ?_, fun l0 => ?_⟩
    · subst e
      have := z.1
      omega
    · have w0 : 0 ≤ w := by
        have : -1 * l.2 < w * l.2 := by
          have : (w + 1) * l.2 = w * l.2 + l.2 := by grind
          omega
        have := lt_of_mul hl this
        omega
      have a4 : w * P ≤ w * q' := Int.mul_le_mul_of_nonneg_left z3 w0
      have := z.1
      omega
/-- small numbers, the least not below 0 -/
def Small (l : Int × Int) (h : Option (Int × Int)) : Prop := 0 ≤ l.1 ∧ l.1 ≤ 1000 ∧ 0 < l.2 ∧ l.2 ≤ 1000 ∧ ∀ r, h = some r → 0 < r.1 ∧ r.1 ≤ 1000 ∧ 0 < r.2 ∧ r.2 ≤ 1000 ∧ l.1 * r.2 < r.1 * l.2
theorem Best.small {l : Int × Int} {h : Option (Int × Int)} {p q : Int} (s : Small l h) (b : Best l h p q) : 0 < p ∧ p ≤ 2000 ∧ q ≤ 2000 := by
  obtain ⟨s1, s2, s3, s4, s5⟩ := s
  have p0 : 0 < p := by
    have := Int.mul_nonneg s1 (show 0 ≤ q by have := b.q1; omega)
    have := b.lo
    exact pos_of_mul s3 (by omega)
  refine ⟨p0, ?_⟩
  cases h with
  | none =>
    have z := b.least (l.1 + 1) 1 (by omega) (by
      have : 1 * (l.1 + 1) ≤ l.2 * (l.1 + 1) := Int.mul_le_mul_of_nonneg_right (by omega) (by omega)
      grind) (fun r e => nomatch e)
    have := z.2.2 s1
    omega
  | some r =>
    obtain ⟨t1, t2, t3, t4, t5⟩ := s5 r rfl
    have z := b.least (l.1 + r.1) (l.2 + r.2) (by omega) (by grind) (fun r' e => by cases e; grind)
    have := z.2.2 s1
    omega
theorem Best.den {l h : Int × Int} {p q : Int} (l0 : 0 < l.2) (h0 : 0 < h.2) (lt : l.1 * h.2 < h.1 * l.2) (b : Best l (some h) p q) : q ≤ l.2 + h.2 :=
  (b.least (l.1 + h.1) (l.2 + h.2) (by omega) (by grind) (fun r' e => by cases e; grind)).1
/-- from one pair of ends to the next -/
def Step (a : (Int × Int) × Option (Int × Int)) (w : Int) (c : (Int × Int) × Option (Int × Int)) : Prop := (∀ P Q, Best c.1 c.2 P Q → Best a.1 a.2 (w * P + Q) P) ∧ Small c.1 c.2
def Steps : List Int → (Int × Int) × Option (Int × Int) → (Int × Int) × Option (Int × Int) → Prop
  | [], a, b => a = b
  | w :: ws, a, b => ∃ c, Step a w c ∧ Steps ws c b
theorem Steps.snoc : ∀ {ws : List Int} {a b c : (Int × Int) × Option (Int × Int)} {w : Int}, Steps ws a b → Step b w c → Steps (ws ++ [w]) a c
  | [], _, _, c, _, h, s => by
    cases h
    exact ⟨c, s, rfl⟩
  | _ :: _, _, _, _, _, ⟨d, h1, h2⟩, s => ⟨d, h1, Steps.snoc h2 s⟩
theorem Steps.last : ∀ {ws : List Int} {a c : (Int × Int) × Option (Int × Int)} {w : Int}, Steps (ws ++ [w]) a c → ∃ b, Steps ws a b ∧ Step b w c
  | [], a, c, _, ⟨d, h1, h2⟩ => by
    cases h2
    exact ⟨a, rfl, h1⟩
  | _ :: _, _, _, _, ⟨d, h1, h2⟩ => by
    obtain ⟨b, h3, h4⟩ := Steps.last h2
    exact ⟨b, ⟨d, h1, h3⟩, h4⟩
theorem step_of {l h : Int × Int} (hl : 0 < l.2) (l1 : l.2 ≤ 1000) (hh : 0 < h.2) (h1 : h.2 ≤ 1000) (lt : l.1 * h.2 < h.1 * l.2) (nb : ¬ (l.1 / l.2 + 1) * h.2 < h.1) :
    Step (l, some h) (l.1 / l.2) (nextL (l.1 / l.2) h, nextH (l.1 / l.2) l) := by
  refine ⟨fun P Q b => best_step hl hh lt b, ?_⟩
  have k1 := Int.ediv_mul_le l.1 (show l.2 ≠ 0 by omega)
  have k2 := Int.lt_ediv_add_one_mul_self l.1 hl
  have kp := step_pos hl hh lt
  generalize l.1 / l.2 = w at *
  have e1 : (w + 1) * h.2 = w * h.2 + h.2 := by grind
  have e2 : (w + 1) * l.2 = w * l.2 + l.2 := by grind
  unfold nextL nextH
  refine ⟨by dsimp only; omega, by dsimp only; omega, kp, by dsimp only; omega, fun r e => ?_⟩
  split at e
  · cases e
  · cases e
    dsimp only
    refine ⟨hl, l1, by omega, by omega, ?_⟩
    grind
/-! rows -/
/-- the slope a / m is strictly within the bounds of all pairs of places -/
def Fit (g : Nat → Int) (n : Nat) (a m : Int) : Prop := ∀ i j : Nat, i < j → j < n → (g j - g i - 1) * m < a * ((j : Int) - i) ∧ a * ((j : Int) - i) < (g j - g i + 1) * m
def Off (g : Nat → Int) (n : Nat) (a m b : Int) : Prop := (∀ x, x < n → m * g x - a * (x : Int) ≤ b) ∧ ∃ x, x < n ∧ b = m * g x - a * (x : Int)
def LeastFit (g : Nat → Int) (n : Nat) (a m : Int) : Prop := 1 ≤ m ∧ Fit g n a m ∧ ∀ a' m', 1 ≤ m' → Fit g n a' m' → m ≤ m' ∧ (m' = m → a ≤ a')
theorem line_ok {g : Nat → Int} {n : Nat} {a m b : Int} (hm : 1 ≤ m) (f : Fit g n a m) (o : Off g n a m b) {x : Nat} (hx : x < n) : (a * (x : Int) + b) / m = g x := by
  obtain ⟨o1, y, hy, rfl⟩ := o
  have h1 := o1 x hx
  rw [Int.ediv_eq_iff_of_pos (by omega)]
  refine ⟨by grind, ?_⟩
  rcases Nat.lt_trichotomy x y with h | h | h
  · have := (f x y h hy).1
    grind
  · subst h
    grind
  · have := (f y x h hx).2
    grind
theorem fit_of_line {g : Nat → Int} {n : Nat} {a m b : Int} (hm : 1 ≤ m) (h : ∀ x, x < n → (a * (x : Int) + b) / m = g x) : Fit g n a m := by
  intro i j hij hj
  have e1 := h i (by omega)
  have e2 := h j hj
  rw [Int.ediv_eq_iff_of_pos (by omega)] at e1 e2
  have := e1.1
  have := e1.2
  have := e2.1
  have := e2.2
  constructor <;> grind
theorem LeastFit.eq {g : Nat → Int} {n : Nat} {a m a' m' : Int} (h : LeastFit g n a m) (h' : LeastFit g n a' m') : m = m' ∧ a = a' := by
  have x := h.2.2 a' m' h'.1 h'.2.1
  have y := h'.2.2 a m h.1 h.2.1
  have e : m = m' := by omega
  have := x.2 e.symm
  have := y.2 e
  exact ⟨e, by omega⟩
theorem Off.eq {g : Nat → Int} {n : Nat} {a m b b' : Int} (h : Off g n a m b) (h' : Off g n a m b') : b = b' := by
  obtain ⟨h1, x, hx, e⟩ := h
  obtain ⟨h2, y, hy, e'⟩ := h'
  have := h1 y hy
  have := h2 x hx
  omega
/-- the greatest lower bound's pair, the least upper bound's pair -/
def LoAt (g : Nat → Int) (n i j : Nat) : Prop := i < j ∧ j < n ∧ ∀ i' j' : Nat, i' < j' → j' < n → ¬ (g j - g i - 1) * ((j' : Int) - i') < (g j' - g i' - 1) * ((j : Int) - i)
def UpAt (g : Nat → Int) (n i j : Nat) : Prop := i < j ∧ j < n ∧ ∀ i' j' : Nat, i' < j' → j' < n → ¬ (g j' - g i' + 1) * ((j : Int) - i) < (g j - g i + 1) * ((j' : Int) - i')
theorem mul3 {a b c d e f : Int} (hb : 0 < b) (hd : 0 < d) (hf : 0 < f) (h1 : a * d ≤ c * b) (h2 : c * f < e * d) : a * f < e * b := by
  have x : a * d * f ≤ c * b * f := Int.mul_le_mul_of_nonneg_right h1 (by omega)
  have y : c * f * b < e * d * b := Int.mul_lt_mul_of_pos_right h2 hb
  have z : (a * f) * d < (e * b) * d := by grind
  exact lt_of_mul hd z
theorem mul3' {a b c d e f : Int} (hb : 0 < b) (hd : 0 < d) (hf : 0 < f) (h1 : a * d < c * b) (h2 : c * f ≤ e * d) : a * f < e * b := by
  have x : a * d * f < c * b * f := Int.mul_lt_mul_of_pos_right h1 hf
  have y : c * f * b ≤ e * d * b := Int.mul_le_mul_of_nonneg_right h2 (by omega)
  have z : (a * f) * d < (e * b) * d := by grind
  exact lt_of_mul hd z
/-- between both pairs' bounds is within all bounds -/
theorem fit_iff {g : Nat → Int} {n i j k l : Nat} (lo : LoAt g n i j) (up : UpAt g n k l) {a m : Int} (hm : 1 ≤ m) :
    Fit g n a m ↔ (g j - g i - 1) * m < a * ((j : Int) - i) ∧ a * ((l : Int) - k) < (g l - g k + 1) * m := by
  obtain ⟨l1, l2, l3⟩ := lo
  obtain ⟨u1, u2, u3⟩ := up
  refine ⟨fun f => ⟨(f i j l1 l2).1, (f k l u1 u2).2⟩, fun ⟨h1, h2⟩ i' j' h h' => ⟨?_, ?_⟩⟩
  · have z := Int.not_lt.mp (l3 i' j' h h')
    exact mul3 (show 0 < (j' : Int) - i' by omega) (show 0 < (j : Int) - i by omega) (show 0 < m by omega) z h1
  · have z := Int.not_lt.mp (u3 i' j' h h')
    exact mul3' (show 0 < m by omega) (show 0 < (l : Int) - k by omega) (show 0 < (j' : Int) - i' by omega) h2 z
theorem leastFit_of {g : Nat → Int} {n i j k l : Nat} (lo : LoAt g n i j) (up : UpAt g n k l) {a m : Int} (b : Best (g j - g i - 1, (j : Int) - i) (some (g l - g k + 1, (l : Int) - k)) a m) : LeastFit g n a m := by
  refine ⟨b.q1, (fit_iff lo up b.q1).mpr ⟨b.lo, b.hi _ rfl⟩, fun a' m' h f => ?_⟩
  have ⟨f1, f2⟩ := (fit_iff lo up h).mp f
  have z := b.least a' m' h f1 (fun r e => by cases e; exact f2)
  exact ⟨z.1, z.2.1⟩
theorem noFit_of {g : Nat → Int} {n i j k l : Nat} (lo : LoAt g n i j) (up : UpAt g n k l) (h : ¬ (g j - g i - 1) * ((l : Int) - k) < (g l - g k + 1) * ((j : Int) - i)) : ¬ ∃ a m, 1 ≤ m ∧ Fit g n a m := by
  rintro ⟨a, m, hm, f⟩
  have ⟨f1, f2⟩ := (fit_iff lo up hm).mp f
  exact h (mul3' (show 0 < (j : Int) - i by have := lo.1; omega) (show 0 < m by omega) (show 0 < (l : Int) - k by have := up.1; omega) f1 (Int.le_of_lt f2))
/-! of some pairs -/
def LoB (g : Nat → Int) (S : Nat → Nat → Prop) (i j : Nat) : Prop := ∀ i' j' : Nat, S i' j' → ¬ (g j - g i - 1) * ((j' : Int) - i') < (g j' - g i' - 1) * ((j : Int) - i)
def UpB (g : Nat → Int) (S : Nat → Nat → Prop) (i j : Nat) : Prop := ∀ i' j' : Nat, S i' j' → ¬ (g j' - g i' + 1) * ((j : Int) - i) < (g j - g i + 1) * ((j' : Int) - i')
/-- the pairs up to a place -/
def Upto (t u i j : Nat) : Prop := i < j ∧ (j < t ∨ (j = t ∧ i < u))
theorem upto_next {t u i j : Nat} (h : Upto t (u + 1) i j) : Upto t u i j ∨ (i = u ∧ j = t) := by
  unfold Upto at *
  omega
theorem LoB.stay {g : Nat → Int} {t u i j : Nat} (h : LoB g (Upto t u) i j) (n : ¬ (g j - g i - 1) * ((t : Int) - u) < (g t - g u - 1) * ((j : Int) - i)) : LoB g (Upto t (u + 1)) i j := fun i' j' s => by
  rcases upto_next s with z | ⟨rfl, rfl⟩
  · exact h i' j' z
  · exact n
theorem LoB.move {g : Nat → Int} {t u i j : Nat} (hij : i < j) (hut : u < t) (h : LoB g (Upto t u) i j) (n : (g j - g i - 1) * ((t : Int) - u) < (g t - g u - 1) * ((j : Int) - i)) : LoB g (Upto t (u + 1)) u t := fun i' j' s => by
  rcases upto_next s with z | ⟨rfl, rfl⟩
  · have k := Int.not_lt.mp (h i' j' z)
    have := mul3 (show 0 < (j' : Int) - i' by have := z.1; omega) (show 0 < (j : Int) - i by omega) (show 0 < (t : Int) - u by omega) k n
    omega
  · omega
theorem UpB.stay {g : Nat → Int} {t u i j : Nat} (h : UpB g (Upto t u) i j) (n : ¬ (g t - g u + 1) * ((j : Int) - i) < (g j - g i + 1) * ((t : Int) - u)) : UpB g (Upto t (u + 1)) i j := fun i' j' s => by
  rcases upto_next s with z | ⟨rfl, rfl⟩
  · exact h i' j' z
  · exact n
theorem UpB.move {g : Nat → Int} {t u i j : Nat} (hij : i < j) (hut : u < t) (h : UpB g (Upto t u) i j) (n : (g t - g u + 1) * ((j : Int) - i) < (g j - g i + 1) * ((t : Int) - u)) : UpB g (Upto t (u + 1)) u t := fun i' j' s => by
  rcases upto_next s with z | ⟨rfl, rfl⟩
  · have k := Int.not_lt.mp (h i' j' z)
    have := mul3' (show 0 < (t : Int) - u by omega) (show 0 < (j : Int) - i by omega) (show 0 < (j' : Int) - i' by have := z.1; omega) n k
    omega
  · omega
theorem upto_row {t i j : Nat} (h : Upto (t + 1) 0 i j) : Upto t t i j := by
  unfold Upto at *
  omega
/-- raised by s at each place -/
theorem fit_raise {g h : Nat → Int} {n : Nat} {s : Int} (e : ∀ x, x < n → h x = s * (x : Int) + g x) {a m : Int} : Fit h n (a + s * m) m ↔ Fit g n a m := by
  constructor
  · intro f i j hij hj
    have := f i j hij hj
    rw [e i (by omega), e j hj] at this
    constructor <;> grind
  · intro f i j hij hj
    have := f i j hij hj
    rw [e i (by omega), e j hj]
    constructor <;> grind
theorem leastFit_raise {g h : Nat → Int} {n : Nat} {s : Int} (e : ∀ x, x < n → h x = s * (x : Int) + g x) {a m : Int} (f : LeastFit g n a m) : LeastFit h n (a + s * m) m := by
  refine ⟨f.1, (fit_raise e).mpr f.2.1, fun a' m' h1 h2 => ?_⟩
  have z := f.2.2 (a' - s * m') m' h1 ((fit_raise e).mp (by rw [Int.sub_add_cancel]; exact h2))
  refine ⟨z.1, fun q => ?_⟩
  have := z.2 q
  subst q
  omega
theorem off_raise {g h : Nat → Int} {n : Nat} {s : Int} (e : ∀ x, x < n → h x = s * (x : Int) + g x) {a m b : Int} (o : Off g n a m b) : Off h n (a + s * m) m b := by
  obtain ⟨o1, x, hx, o2⟩ := o
  refine ⟨fun y hy => ?_, x, hx, ?_⟩
  · have := o1 y hy
    rw [e y hy]
    grind
  · rw [e x hx, o2]
    grind
/-! sums of a row of 0s and 1s -/
def psum (v : Nat → Int) : Nat → Int
  | 0 => 0
  | k + 1 => psum v k + v k
theorem psum_range {v : Nat → Int} {n : Nat} (hv : ∀ i, i < n → v i = 0 ∨ v i = 1) : ∀ {i j : Nat}, i ≤ j → j ≤ n → psum v i ≤ psum v j ∧ psum v j ≤ psum v i + ((j : Int) - i)
  | i, j, h, hj => by
    induction j with
    | zero =>
      have : i = 0 := by omega
      subst this
      omega
    | succ j ih =>
      by_cases e : i = j + 1
      · subst e
        omega
      · have z := ih (by omega) (by omega)
        have := hv j (by omega)
        show psum v i ≤ psum v j + v j ∧ psum v j + v j ≤ _
        omega
theorem spread_ok {v : Nat → Int} {n : Nat} (hv : ∀ i, i < n → v i = 0 ∨ v i = 1) (h1 : ∃ i, i < n ∧ v i = 1) {a m b : Int} (f : LeastFit (psum v) (n + 1) a m) (o : Off (psum v) (n + 1) a m b) : 1 ≤ a ∧ a ≤ m ∧ 0 ≤ b ∧ b ≤ m - 1 := by
  have m1 := f.1
  have a1 : 1 ≤ a := by
    obtain ⟨i, hi, e⟩ := h1
    have z := (f.2.1 i (i + 1) (by omega) (by omega)).1
    have e2 : psum v (i + 1) = psum v i + v i := rfl
    rw [e2, e] at z
    have : psum v i + 1 - psum v i - 1 = 0 := by omega
    rw [this, Int.zero_mul, show (((i + 1 : Nat) : Int) - i) = 1 by omega] at z
    omega
  have b0 : 0 ≤ b := by
    have := o.1 0 (by omega)
    have e : psum v 0 = 0 := rfl
    rw [e] at this
    omega
  have b1 : b ≤ m - 1 := by
    have z := line_ok m1 f.2.1 o (show 0 < n + 1 by omega)
    have e : psum v 0 = 0 := rfl
    rw [e, Int.ediv_eq_iff_of_pos (by omega)] at z
    omega
  refine ⟨a1, ?_, b0, b1⟩
  apply Int.not_lt.mp
  intro h
  have all1 : ∀ i, i < n → v i = 1 := fun i hi => by
    rcases hv i hi with e | e
    · have z := (f.2.1 i (i + 1) (by omega) (by omega)).2
      have e2 : psum v (i + 1) = psum v i + v i := rfl
      rw [e2, e, show (((i + 1 : Nat) : Int) - i) = 1 by omega] at z
      have : (psum v i + 0 - psum v i + 1) * m = m := by
        rw [show psum v i + 0 - psum v i + 1 = 1 by omega, Int.one_mul]
      omega
    · exact e
  have ps : ∀ k : Nat, k ≤ n → psum v k = k := fun k => by
    induction k with
    | zero => exact fun _ => rfl
    | succ k ih =>
      intro hk
      show psum v k + v k = _
      rw [ih (by omega), all1 k (by omega)]
      omega
  have fit1 : Fit (psum v) (n + 1) 1 1 := fun i j hij hj => by
    rw [ps i (by omega), ps j (by omega)]
    constructor <;> omega
  have z := f.2.2 1 1 (by decide) fit1
  have : m = 1 := by omega
  have := z.2 this.symm
  omega
theorem psum_zero {v : Nat → Int} {n : Nat} (h : ∀ i, i < n → v i = 0) : ∀ k : Nat, k ≤ n → psum v k = 0
  | 0, _ => rfl
  | k + 1, hk => by
    show psum v k + v k = 0
    rw [psum_zero h k (by omega), h k (by omega)]
    omega
end M50
namespace K50
open PySem PySem.Spec PyProof.Rows L2 My
/-! ### the text -/
def topS (i : Nat) : Stmt := PySem.Challenge.pw_pointorstrip_k50_calendar_rows.main.body.getD i (.Pass ⟨0, 0, 0, 0⟩)
abbrev s_is_number : Stmt := topS 6
theorem sc_is_number : FnScope ["value"] ["value"] (defScope s_is_number) := ⟨rfl, rfl, rfl, by decide +kernel, rfl, by decide +kernel, by decide +kernel⟩
abbrev s_check_numbers : Stmt := topS 7
theorem sc_check_numbers : FnScope ["values", "value"] ["values"] (defScope s_check_numbers) := ⟨rfl, rfl, rfl, by decide +kernel, rfl, by decide +kernel, by decide +kernel⟩
abbrev s_check_from : Stmt := topS 8
theorem sc_check_from : FnScope ["least", "value"] ["least", "value"] (defScope s_check_from) := ⟨rfl, rfl, rfl, by decide +kernel, rfl, by decide +kernel, by decide +kernel⟩
abbrev s_is_between : Stmt := topS 9
theorem sc_is_between : FnScope ["least", "most", "value"] ["least", "most", "value"] (defScope s_is_between) := ⟨rfl, rfl, rfl, by decide +kernel, rfl, by decide +kernel, by decide +kernel⟩
abbrev s_check_between : Stmt := topS 10
theorem sc_check_between : FnScope ["least", "most", "value"] ["least", "most", "value"] (defScope s_check_between) := ⟨rfl, rfl, rfl, by decide +kernel, rfl, by decide +kernel, by decide +kernel⟩
abbrev s_below : Stmt := topS 12
theorem sc_below : FnScope ["one", "other"] ["one", "other"] (defScope s_below) := ⟨rfl, rfl, rfl, by decide +kernel, rfl, by decide +kernel, by decide +kernel⟩
abbrev s_floor_of : Stmt := topS 13
theorem sc_floor_of : FnScope ["fraction"] ["fraction"] (defScope s_floor_of) := ⟨rfl, rfl, rfl, by decide +kernel, rfl, by decide +kernel, by decide +kernel⟩
abbrev s_simplest_between : Stmt := topS 14
theorem sc_simplest_between : FnScope ["low", "high", "parts", "whole", "rest", "p", "q", "part"] ["low", "high"] (defScope s_simplest_between) := ⟨rfl, rfl, rfl, by decide +kernel, rfl, by decide +kernel, by decide +kernel⟩
abbrev s_Line___init__ : Stmt := inClass (topS 16) 0
theorem sc_Line___init__ : FnScope ["self", "a", "b", "m"] ["self", "a", "b", "m"] (defScope s_Line___init__) := ⟨rfl, rfl, rfl, by decide +kernel, rfl, by decide +kernel, by decide +kernel⟩
abbrev s_Line_at : Stmt := inClass (topS 16) 2
theorem sc_Line_at : FnScope ["self", "x"] ["self", "x"] (defScope s_Line_at) := ⟨rfl, rfl, rfl, by decide +kernel, rfl, by decide +kernel, by decide +kernel⟩
abbrev s_Stairs___init__ : Stmt := inClass (topS 20) 0
theorem sc_Stairs___init__ : FnScope ["self", "line", "low", "high"] ["self", "line", "low", "high"] (defScope s_Stairs___init__) := ⟨rfl, rfl, rfl, by decide +kernel, rfl, by decide +kernel, by decide +kernel⟩
abbrev s_Stairs___bool__ : Stmt := inClass (topS 20) 1
theorem sc_Stairs___bool__ : FnScope ["self"] ["self"] (defScope s_Stairs___bool__) := ⟨rfl, rfl, rfl, by decide +kernel, rfl, by decide +kernel, by decide +kernel⟩
abbrev s_Crooked___init__ : Stmt := inClass (topS 21) 0
theorem sc_Crooked___init__ : FnScope ["self", "low", "high"] ["self", "low", "high"] (defScope s_Crooked___init__) := ⟨rfl, rfl, rfl, by decide +kernel, rfl, by decide +kernel, by decide +kernel⟩
abbrev s_Crooked___bool__ : Stmt := inClass (topS 21) 1
theorem sc_Crooked___bool__ : FnScope ["self"] ["self"] (defScope s_Crooked___bool__) := ⟨rfl, rfl, rfl, by decide +kernel, rfl, by decide +kernel, by decide +kernel⟩
abbrev s_lower_bound : Stmt := topS 22
theorem sc_lower_bound : FnScope ["row", "pair", "first", "last"] ["row", "pair"] (defScope s_lower_bound) := ⟨rfl, rfl, rfl, by decide +kernel, rfl, by decide +kernel, by decide +kernel⟩
abbrev s_upper_bound : Stmt := topS 23
theorem sc_upper_bound : FnScope ["row", "pair", "first", "last"] ["row", "pair"] (defScope s_upper_bound) := ⟨rfl, rfl, rfl, by decide +kernel, rfl, by decide +kernel, by decide +kernel⟩
abbrev s_least_offset : Stmt := topS 24
theorem sc_least_offset : FnScope ["row", "a", "m", "x", "number"] ["row", "a", "m"] (defScope s_least_offset) := ⟨rfl, rfl, rfl, by decide +kernel, rfl, by decide +kernel, by decide +kernel⟩
abbrev s_stairs : Stmt := topS 25
theorem sc_stairs : FnScope ["row"] ["row"] (defScope s_stairs) := ⟨rfl, rfl, rfl, by decide +kernel, rfl, by decide +kernel, by decide +kernel⟩
abbrev s_stairs_of : Stmt := topS 26
theorem sc_stairs_of : FnScope ["row", "low", "high", "last", "first", "pair", "least", "greatest", "a", "m"] ["row"] (defScope s_stairs_of) := ⟨rfl, rfl, rfl, by decide +kernel, rfl, by decide +kernel, by decide +kernel⟩
abbrev s_Spread___init__ : Stmt := inClass (topS 29) 0
theorem sc_Spread___init__ : FnScope ["self", "ticks", "slots", "ahead"] ["self", "ticks", "slots", "ahead"] (defScope s_Spread___init__) := ⟨rfl, rfl, rfl, by decide +kernel, rfl, by decide +kernel, by decide +kernel⟩
abbrev s_Spread_line : Stmt := inClass (topS 29) 2
theorem sc_Spread_line : FnScope ["self"] ["self"] (defScope s_Spread_line) := ⟨rfl, rfl, rfl, by decide +kernel, rfl, by decide +kernel, by decide +kernel⟩
abbrev s_Spread_has : Stmt := inClass (topS 29) 3
theorem sc_Spread_has : FnScope ["self", "slot"] ["self", "slot"] (defScope s_Spread_has) := ⟨rfl, rfl, rfl, by decide +kernel, rfl, by decide +kernel, by decide +kernel⟩
abbrev s_Spread_many : Stmt := inClass (topS 29) 4
theorem sc_Spread_many : FnScope ["self", "first", "last", "line"] ["self", "first", "last"] (defScope s_Spread_many) := ⟨rfl, rfl, rfl, by decide +kernel, rfl, by decide +kernel, by decide +kernel⟩
abbrev s_spread_of : Stmt := topS 30
theorem sc_spread_of : FnScope ["row", "value", "sums", "found"] ["row"] (defScope s_spread_of) := ⟨rfl, rfl, rfl, by decide +kernel, rfl, by decide +kernel, by decide +kernel⟩
abbrev s__law_number : Stmt := topS 32
theorem sc__law_number : FnScope ["script", "index", "cell", "turn", "rest", "step", "blend"] ["script", "index"] (defScope s__law_number) := ⟨rfl, rfl, rfl, by decide +kernel, rfl, by decide +kernel, by decide +kernel⟩
abbrev s__law_take : Stmt := topS 33
theorem sc__law_take : FnScope ["draw", "many"] ["draw", "many"] (defScope s__law_take) := ⟨rfl, rfl, rfl, by decide +kernel, rfl, by decide +kernel, by decide +kernel⟩
abbrev s_law : Stmt := topS 34
theorem sc_law : FnScope ["script", "draw", "short", "many", "slots", "some", "lengths", "at", "sums", "length", "told", "spread", "line", "day", "found", "slot", "x", "one"] ["script"] (defScope s_law) := ⟨rfl, rfl, rfl, by decide +kernel, rfl, by decide +kernel, by decide +kernel⟩
/-- the built-in names that are still built-in, the package's constants -/
structure Nm (mg : Str → Option Value) : Prop where
  len : mg "len" = none
  range : mg "range" = none
  int : mg "int" = none
  bool : mg "bool" = none
  isinstance : mg "isinstance" = none
  list : mg "list" = none
  tuple : mg "tuple" = none
  max : mg "max" = none
  sum : mg "sum" = none
  enumerate : mg "enumerate" = none
  LEAST_MANY : ∃ t, mg "LEAST_MANY" = some (.int 2 t)
  MOST_MANY_stairs : ∃ t, mg "MOST_MANY_stairs" = some (.int 200 t)
  MOST_MANY_spreads : ∃ t, mg "MOST_MANY_spreads" = some (.int 199 t)
end K50
namespace K50
open PySem PySem.Spec PyProof.Rows L2 My M50
local macro_rules | `(tactic| walk_at "side") => `(tactic| (first
  | assumption
  | (refine OkMod.mk ?_; omega)
  | (refine mulOkL ?_ ?_ <;> omega)
  | (refine mulOkR ?_ ?_ <;> omega)
  | (refine divOk ?_ ?_ <;> omega)))
local macro_rules | `(tactic| walk_at "rd") => `(tactic| (first
  | with_reducible refine ⟨_, rfl, ?_⟩
  | refine ⟨_, rfl, ?_⟩
  | refine ⟨_, _, rfl, rfl, ?_⟩
  | refine And.intro (by walk_at "side") ?_
  | refine ⟨_, _, rfl, asm (by assumption), ?_⟩
  | refine ⟨_, _, rfl, asm ?_⟩))
section
variable {P : Program} {w : World} {K : PySem.W.Frag} {mg : Str → Option Value} {base : Heap}
/-! ### the draws -/
def spNumber (K : PySem.W.Frag) : Sp := fun vs H Q _ => ∃ (s : Addr) (i : Int) (ns : List Int), vs = [.ref s, .int i] ∧ SqL K H s (ns.map V.int) ∧ ns.length ≤ 63 ∧ ∀ (v : Int) H', Same H H' → Q (.int v) H'
theorem dpAll_ints {K : PySem.W.Frag} {H : Hp} : ∀ ns : List Int, DpAll K H (ns.map V.int) (ns.map PyData.int)
  | [] => .nil
  | n :: r => .cons (.int n) (dpAll_ints r)
theorem atI_mod {ns : List Int} (i : Int) (h : 0 < ns.length) : ∃ c : Int, atI (ns.map V.int) (i % ((ns.map V.int).length : Int)) = some (.int c) := by
  rw [List.length_map]
  have h0 := Int.emod_nonneg i (show ((ns.length : Nat) : Int) ≠ 0 by omega)
  have h1 := Int.emod_lt_of_pos i (show (0 : Int) < ((ns.length : Nat) : Int) by omega)
  generalize i % ((ns.length : Nat) : Int) = k at h0 h1
  obtain ⟨j, rfl⟩ := Int.eq_ofNat_of_zero_le h0
  have hj : j < ns.length := by omega
  refine ⟨ns[j], atI_nat ?_⟩
  rw [List.getElem?_map, List.getElem?_eq_getElem hj]
  rfl
theorem ok__law_number {f : Addr} {fd : FuncData} (T : Nm mg) (F : Fun K "_law_number" "_law_number" s__law_number f fd) : FnOk P w K mg base CX0 1 f fd ["script", "index"] (spNumber K) := by
  refine F.ok sc__law_number (fun vs H Q E h => ?_) (fun cdv A outer s H vs Q E hr h => ?_)
  · obtain ⟨s, i, ns, rfl, _⟩ := h
    rfl
  · obtain ⟨a, i, ns, rfl, hS, hl, q⟩ := h
    refine ⟨_, (pss_cons (ps_asg (pe_ifExp (pt_cmpR (op_neD hr.units) (pv 0) (pe_lst pa_nil) (nomark _)) (pe_tup (pa_cons (pe_ix ix_list (pv 0) (pe_op op_modA (pv 1) (pe_callB call_lenL (by rfl) T.len (by decide +kernel) (pa_cons (pv 0) pa_nil))) (fun _ _ => rfl)) (pa_cons (pe_op op_fdivA (pv 1) (pe_callB call_lenL (by rfl) T.len (by decide +kernel) (pa_cons (pv 0) pa_nil))) pa_nil))) (pe_tup (pa_cons pe_int (pa_cons pe_int pa_nil)))) (pg_tup rfl (pgs_cons (pg_name (i := 2) sc__law_number.nd rfl (Or.inl rfl)) (pgs_cons (pg_name (i := 3) sc__law_number.nd rfl (Or.inl rfl)) pgs_nil))))
    (pss_cons (ps_set (i := 4) sc__law_number.nd rfl (Or.inl rfl) (pe_ifExp (pt_cmpR op_lt (pv 3) pe_int (nomark _)) (pe_op op_sub (pv 2) (pe_op op_pow pe_int pe_int)) pe_int))
    (pss_cons (ps_for PassesOwn.never rfl (pi_range1 rfl T.range (pa_cons (pe_op op_modA (pe_callTy call_intI (by rfl) T.int (by decide +kernel) (pa_cons (pv 3) pa_nil)) pe_int) pa_nil)) (pg_name (i := 5) sc__law_number.nd rfl (Or.inl rfl))
      (pss_one (ps_set (i := 4) sc__law_number.nd rfl (Or.inl rfl) (pe_op op_fdivA (pv 4) pe_int))))
    (pss_cons (ps_if (pt_cmpR op_gt (pv 4) pe_int (nomark _))
      (pss_one (ps_ret (pe_op op_modA (pe_callTy call_intI (by rfl) T.int (by decide +kernel) (pa_cons (pv 4) pa_nil)) pe_int)))
      pss_nil)
    (pss_cons (ps_set (i := 6) sc__law_number.nd rfl (Or.inl rfl) (pe_op op_modA (pe_op op_add (pe_op op_mulA (pe_callTy call_intI (by rfl) T.int (by decide +kernel) (pa_cons (pe_op op_add (pv 2) (pe_op op_mulA pe_int (pv 1))) pa_nil)) pe_int) (pe_op op_mulA pe_int (pe_callB call_lenL (by rfl) T.len (by decide +kernel) (pa_cons (pv 0) pa_nil)))) pe_int))
    (pss_cons (ps_set (i := 6) sc__law_number.nd rfl (Or.inl rfl) (pe_op op_modA (pe_op op_add (pe_op op_mulA (pv 6) (pv 6)) (pe_op op_mulA pe_int (pv 1))) pe_int))
    (pss_one (ps_ret (pe_callTy call_intI (by rfl) T.int (by decide +kernel) (pa_cons (pe_op op_modA (pe_op op_add (pe_op op_mulA (pv 6) pe_int) (pe_op op_fdivA (pv 6) pe_int)) pe_int) pa_nil)))))))))), ?_⟩
    refine tIf_via (fun v H1 => ∃ p, ∃ c t : Int, v = .ref p ∧ Same H H1 ∧ H1 p = some (.tup [.int c, .int t])) (fun Q' h' => ?_) ?_
    · replace h' : ∀ p (c t : Int) H1, Same H H1 → H1 p = some (.tup [.int c, .int t]) → Q' (.ref p) H1 := fun p c t H1 a b => h' _ _ ⟨p, c, t, rfl, a, b⟩
      refine ⟨_, rfl, Nat.zero_le _, fun p np => ?_⟩
      have s1 : Same H (upd H p (.lst [])) := same_upd np
      have hS1 := s1.seq hS
      refine ⟨.list (ns.map PyData.int), .list [], .lst hS1 (dpAll_ints ns), .lst (.inl (.inl upd_same)) .nil, PySem.W.ke_shaped_ints ns, rfl, _, rfl, ?_⟩
      by_cases hn : ns = []
      · subst hn
        refine iteF ?_
        refine ⟨by show 2 ≤ sizeLine; decide, fun t nt => h' t _ _ _ (s1.trans (same_upd nt)) upd_same⟩
      · have e : (PyData.list (ns.map PyData.int)).eqv (PyData.list []) = false := by
          cases ns with
          | nil => exact absurd rfl hn
          | cons n r => rfl
        rw [e]
        refine iteT ?_
        have l0 : 0 < ns.length := List.length_pos_iff.mpr hn
        have l1 : (0 : Int) < ((ns.map V.int).length : Int) := by
          rw [List.length_map]
          omega
        have l2 : OkDiv i ((ns.map V.int).length : Int) := divOk l1 (by rw [List.length_map]; omega)
        obtain ⟨c, hc⟩ := atI_mod i l0
        have l3 : OkMod i ((ns.map V.int).length : Int) := ⟨l1⟩
        repeat (walk_at "rd")
        refine ⟨_, _, _, _, rfl, rfl, hS1, hc, ?_⟩
        repeat (walk_at "rd")
        exact ⟨by show 2 ≤ sizeLine; decide, fun t nt => h' t _ _ _ (s1.trans (same_upd nt)) upd_same⟩
    rintro _ H1 ⟨p, c, t, rfl, s1, hp⟩
    have hS1 := s1.seq hS
    refine ⟨p, _, rfl, .inl (.inl hp), rfl, _, _, rfl, _, _, rfl, rfl, ?_⟩
    -- rest = cell - 10 ** 18 if turn < 60 else 0
    dsimp only
    refine sIf_via (fun v H' => ∃ r : Int, v = .int r ∧ H1 = H') (fun Q' h' => ?_) ?_
    · replace h' : ∀ r : Int, Q' (.int r) H1 := fun r => h' _ _ ⟨r, rfl, rfl⟩
      refine ⟨_, rfl, _, _, rfl, rfl, _, rfl, ite2 (fun _ => ?_) (fun _ => h' 0)⟩
      exact ⟨_, rfl, _, _, rfl, rfl, ⟨by decide, by decide, by decide⟩, _, _, rfl, rfl, h' _⟩
    -- the loop
    rintro _ _ ⟨r, rfl, rfl⟩
    have c60 : OkMod t 60 := ⟨by omega⟩
    have t0 := Int.emod_nonneg t (show (60 : Int) ≠ 0 by decide)
    have t1 := Int.emod_lt_of_pos t (show (0 : Int) < 60 by decide)
    repeat (walk_at "rd")
    refine ⟨(by omega), (by omega), for_range (n := (t % 60).toNat) (fun i' σ H' => ∃ (r : Int), ∃ y, σ = [some (.ref a), some (.int i), some (.int c), some (.int t), some (.int r), y, none] ∧ H' = H1) ⟨r, none, rfl, rfl⟩ ?_ ?_⟩
    · rintro j σ H' hj ⟨r, y, rfl, rfl⟩
      have d : OkDiv r 1009 := divOk (by omega) (by omega)
      repeat (walk_at "rd")
      rfl
    rintro σ H' ⟨r, y, rfl, rfl⟩
    have c9 : OkMod r 1009 := ⟨by omega⟩
    refine ⟨_, rfl, _, _, rfl, rfl, _, rfl, ite2 (fun _ => ?_) (fun _ => ?_)⟩
    · repeat (walk_at "rd")
      exact q _ _ s1
    repeat (walk_at "rd")
    exact q _ _ s1
def spTake (K : PySem.W.Frag) : Sp := fun vs H Q _ => ∃ (d s : Addr) (m : Int) (ns : List Int), vs = [.ref d, .int m] ∧ DrawAt K H d s ns ∧ 0 < m ∧ ∀ (r : Int) H', 0 ≤ r → r < m → Keep d H H' → DrawAt K H' d s ns → Q (.int r) H'
theorem ok__law_take {f f1 : Addr} {fd fd1 : FuncData} (T : Nm mg) (C__law_number : Has P w K mg base "_law_number" 1 ["script", "index"] (spNumber K) f1 fd1) (F : Fun K "_law_take" "_law_take" s__law_take f fd) : FnOk P w K mg base CX0 2 f fd ["draw", "many"] (spTake K) := by
  refine F.ok sc__law_take (fun vs H Q E h => ?_) (fun cdv A outer s H vs Q E hr h => ?_)
  · obtain ⟨d, s, m, ns, rfl, _⟩ := h
    rfl
  · obtain ⟨d, s, m, ns, rfl, hD, hm, q⟩ := h
    obtain ⟨k, h1, h3, h4⟩ := id hD
    refine ⟨_, (pss_cons (ps_augS (pv 0) pe_int pget_list pe_int ip_add set_list)
    (pss_one (ps_ret (pe_op op_modA (pe_callTy call_intI (by rfl) T.int (by decide +kernel) (pa_cons (pe_call C__law_number.G (hr.mono (by decide)) (by rfl) C__law_number.g C__law_number.k C__law_number.b .nil pass0 (pa_cons (pe_ix ix_list (pv 0) pe_int (fun _ _ => rfl)) (pa_cons (pe_callTy call_intI (by rfl) T.int (by decide +kernel) (pa_cons (pe_ix ix_list (pv 0) pe_int (fun _ _ => rfl)) pa_nil)) pa_nil))) pa_nil)) (pv 1))))), ?_⟩
    refine ⟨_, rfl, d, _, _, _, rfl, rfl, .inl (.inl h1), rfl, _, _, rfl, rfl, d, _, _, 1, rfl, rfl, h1, rfl, ?_⟩
    have D1 : DrawAt K (upd H d (.lst [.ref s, .int (k + 1)])) d s ns := hD.set
    have K1 : Keep d H (upd H d (.lst [.ref s, .int (k + 1)])) := Keep.upd d H _
    refine ⟨_, rfl, d, _, _, _, rfl, rfl, .inl (.inl upd_same), rfl, _, rfl, d, _, _, _, rfl, rfl, .inl (.inl upd_same), rfl, _, rfl, ?_⟩
    refine ⟨s, k + 1, ns, rfl, K1.seqS h1 h3, h4, fun v H' sm => ?_⟩
    refine ⟨_, rfl, _, rfl, _, _, rfl, rfl, ⟨hm⟩, ?_⟩
    exact q _ _ (Int.emod_nonneg _ (by omega)) (Int.emod_lt_of_pos _ hm) (K1.trans (Keep.of sm)) (D1.same sm)
end
end K50

namespace K50
open PySem PySem.Spec PyProof.Rows L2 My M50
local macro_rules | `(tactic| walk_at "side") => `(tactic| (first
  | assumption
  | (refine OkMod.mk ?_; omega)
  | (refine mulOkL ?_ ?_ <;> omega)
  | (refine mulOkR ?_ ?_ <;> omega)
  | (refine divOk ?_ ?_ <;> omega)))
local macro_rules | `(tactic| walk_at "rd") => `(tactic| (first
  | with_reducible refine ⟨_, rfl, ?_⟩
  | refine ⟨_, rfl, ?_⟩
  | refine ⟨_, _, rfl, rfl, ?_⟩
  | refine And.intro (by walk_at "side") ?_
  | refine ⟨_, _, rfl, asm (by assumption), ?_⟩
  | refine ⟨_, _, rfl, asm ?_⟩))
section
variable {P : Program} {w : World} {K : PySem.W.Frag} {mg : Str → Option Value} {base : Heap}

/-! ### is_number, is_between, check_between, check_numbers, check_from -/
def spIsN : Sp := fun vs H Q _ => ∃ i : Int, vs = [.int i] ∧ Q (.bl true) H
theorem ok_is_number {f : Addr} {fd : FuncData} (T : Nm mg) (F : Fun K "is_number" "is_number" s_is_number f fd) : FnOk P w K mg base CX0 1 f fd ["value"] spIsN := by
  refine F.ok sc_is_number (fun vs H Q E h => ?_) (fun cdv A outer s H vs Q E hr h => ?_)
  · obtain ⟨i, rfl, _⟩ := h
    rfl
  · obtain ⟨i, rfl, q⟩ := h
    refine ⟨_, (pss_one (ps_ret (pe_and (pe_callB call_isi (by rfl) T.isinstance (by decide +kernel) (pa_cons (pv 0) (pa_cons (pe_ty (n := "int") (by rfl) T.int (by decide +kernel)) pa_nil))) (pe_one (pe_not (pe_callB call_isi (by rfl) T.isinstance (by decide +kernel) (pa_cons (pv 0) (pa_cons (pe_ty (n := "bool") (by rfl) T.bool (by decide +kernel)) pa_nil)))))))), ?_⟩
    refine ⟨_, rfl, _, _, _, _, _, rfl, .ty _, .base (.int _), kit_ty (by decide +kernel), true, rfl, iteT ?_⟩
    exact ⟨_, rfl, _, _, _, _, _, rfl, .ty _, .base (.int _), kit_ty (by decide +kernel), false, rfl, q⟩
def spBetween : Sp := fun vs H Q _ => ∃ l m i : Int, vs = [.int l, .int m, .int i] ∧ l ≤ i ∧ i ≤ m ∧ Q (.bl true) H
theorem ok_is_between {f fN : Addr} {fd fdN : FuncData} (C_is_number : Has P w K mg base "is_number" 1 ["value"] spIsN fN fdN) (F : Fun K "is_between" "is_between" s_is_between f fd) : FnOk P w K mg base CX0 2 f fd ["least", "most", "value"] spBetween := by
  refine F.ok sc_is_between (fun vs H Q E h => ?_) (fun cdv A outer s H vs Q E hr h => ?_)
  · obtain ⟨l, m, i, rfl, _⟩ := h
    rfl
  · obtain ⟨l, m, i, rfl, h1, h2, q⟩ := h
    refine ⟨_, (pss_one (ps_ret (pe_and (pe_call C_is_number.G (hr.mono (by decide)) (by rfl) C_is_number.g C_is_number.k C_is_number.b .nil pass0 (pa_cons (pv 2) pa_nil)) (pe_one (pe_chain op_le op_le (pv 0) (pv 2) (pv 1)))))), ?_⟩
    refine ⟨_, rfl, i, rfl, true, rfl, iteT ?_⟩
    refine ⟨_, rfl, _, rfl, _, _, rfl, rfl, _, rfl, ?_⟩
    rw [decide_eq_true h1]
    refine iteT ⟨_, rfl, _, _, rfl, rfl, ?_⟩
    show Q (.bl (decide (i ≤ m))) H
    rw [decide_eq_true h2]
    exact q
def spCheckB : Sp := fun vs H Q _ => ∃ l m i : Int, vs = [.int l, .int m, .int i] ∧ l ≤ i ∧ i ≤ m ∧ Q .non H
theorem ok_check_between {f fN : Addr} {fd fdN : FuncData} (C_is_between : Has P w K mg base "is_between" 2 ["least", "most", "value"] spBetween fN fdN) (F : Fun K "check_between" "check_between" s_check_between f fd) : FnOk P w K mg base CX0 3 f fd ["least", "most", "value"] spCheckB := by
  refine F.ok sc_check_between (fun vs H Q E h => ?_) (fun cdv A outer s H vs Q E hr h => ?_)
  · obtain ⟨l, m, i, rfl, _⟩ := h
    rfl
  · obtain ⟨l, m, i, rfl, h1, h2, q⟩ := h
    refine ⟨_, (pss_one (ps_if (pt_not (pt_val (pe_call C_is_between.G (hr.mono (by decide)) (by rfl) C_is_between.g C_is_between.k C_is_between.b .nil pass0 (pa_cons (pv 0) (pa_cons (pv 1) (pa_cons (pv 2) pa_nil))))))
      (pss_one ps_never)
      pss_nil)), ?_⟩
    exact ⟨_, rfl, _, rfl, _, rfl, l, m, i, rfl, h1, h2, true, rfl, iteF q⟩
def spCheckNums (K : PySem.W.Frag) : Sp := fun vs H Q _ => ∃ (a : Addr) (ns : List Int), vs = [.ref a] ∧ SqL K H a (ns.map V.int) ∧ Q .non H
theorem ok_check_numbers {f fN : Addr} {fd fdN : FuncData} (C_is_number : Has P w K mg base "is_number" 1 ["value"] spIsN fN fdN) (F : Fun K "check_numbers" "check_numbers" s_check_numbers f fd) : FnOk P w K mg base CX0 2 f fd ["values"] (spCheckNums K) := by
  refine F.ok sc_check_numbers (fun vs H Q E h => ?_) (fun cdv A outer s H vs Q E hr h => ?_)
  · obtain ⟨a, ns, rfl, _⟩ := h
    rfl
  · obtain ⟨a, ns, rfl, hS, q⟩ := h
    refine ⟨_, (pss_one (ps_for PassesOwn.never rfl (pi_list (pv 0)) (pg_name (i := 1) sc_check_numbers.nd rfl (Or.inl rfl))
      (pss_one (ps_if (pt_not (pt_val (pe_call C_is_number.G (hr.mono (by decide)) (by rfl) C_is_number.g C_is_number.k C_is_number.b .nil pass0 (pa_cons (pv 1) pa_nil))))
      (pss_one ps_never)
      pss_nil)))), ?_⟩
    refine ⟨_, rfl, a, rfl, ⟨_, hS⟩, for_list (K := K) (a := a) (xs := ns.map V.int) (fun i σ H' => ∃ y, σ = [some (.ref a), y] ∧ H' = H) ⟨none, rfl, rfl⟩ (fun i σ H' _ ⟨_, _, e⟩ => e ▸ hS) ?_ ?_⟩
    · rintro i x σ H' hi ⟨y, rfl, rfl⟩
      obtain ⟨z, _, rfl⟩ := List.mem_map.mp (List.mem_of_getElem? hi)
      exact ⟨_, rfl, z, rfl, true, rfl, iteF ⟨_, rfl, rfl⟩⟩
    · rintro σ H' ⟨y, rfl, rfl⟩
      exact q
def spCheckFrom : Sp := fun vs H Q _ => ∃ l i : Int, vs = [.int l, .int i] ∧ l ≤ i ∧ Q .non H
theorem ok_check_from {f fN : Addr} {fd fdN : FuncData} (C_is_number : Has P w K mg base "is_number" 1 ["value"] spIsN fN fdN) (F : Fun K "check_from" "check_from" s_check_from f fd) : FnOk P w K mg base CX0 2 f fd ["least", "value"] spCheckFrom := by
  refine F.ok sc_check_from (fun vs H Q E h => ?_) (fun cdv A outer s H vs Q E hr h => ?_)
  · obtain ⟨l, i, rfl, _⟩ := h
    rfl
  · obtain ⟨l, i, rfl, hl, q⟩ := h
    refine ⟨_, (pss_one (ps_if (PW.pt (pw_or (pt_not (pt_val (pe_call C_is_number.G (hr.mono (by decide)) (by rfl) C_is_number.g C_is_number.k C_is_number.b .nil pass0 (pa_cons (pv 1) pa_nil)))) (pw_or1 (pt_cmpR op_lt (pv 1) (pv 0) (nomark _)))))
      (pss_one ps_never)
      pss_nil)), ?_⟩
    refine ⟨_, rfl, i, rfl, true, rfl, iteF ?_⟩
    refine ⟨_, rfl, _, rfl, _, _, rfl, rfl, _, rfl, ?_⟩
    rw [decide_eq_false (show ¬ i < l by omega)]
    exact iteF q
/-! ### below, floor_of -/
def Med (i : Int) : Prop := -(2 ^ 62) < i ∧ i < 2 ^ 62
theorem Med.l {i j : Int} (h : Med i) : OkMul i j := mulOkL (by have := h.1; omega) (by have := h.2; omega)
theorem Med.r {i j : Int} (h : Med j) : OkMul i j := mulOkR (by have := h.1; omega) (by have := h.2; omega)
def spBelow (K : PySem.W.Frag) : Sp := fun vs H Q _ => ∃ (a b : Addr) (l h : Int × Int), vs = [.ref a, .ref b] ∧ SqT K H a [.int l.1, .int l.2] ∧ SqT K H b [.int h.1, .int h.2] ∧ Med l.2 ∧ Med h.2 ∧ Q (.bl (decide (l.1 * h.2 < h.1 * l.2))) H
theorem ok_below {f : Addr} {fd : FuncData} (F : Fun K "below" "below" s_below f fd) : FnOk P w K mg base CX0 1 f fd ["one", "other"] (spBelow K) := by
  refine F.ok sc_below (fun vs H Q E h => ?_) (fun cdv A outer s H vs Q E hr h => ?_)
  · obtain ⟨a, b, l, h, rfl, _⟩ := h
    rfl
  · obtain ⟨a, b, l, h, rfl, ha, hb, m1, m2, q⟩ := h
    refine ⟨_, (pss_one (ps_ret (pe_cmpR op_lt (pe_op op_mulA (pe_ix ix_tup (pv 0) pe_int (fun _ _ => rfl)) (pe_ix ix_tup (pv 1) pe_int (fun _ _ => rfl))) (pe_op op_mulA (pe_ix ix_tup (pv 1) pe_int (fun _ _ => rfl)) (pe_ix ix_tup (pv 0) pe_int (fun _ _ => rfl))) (nomark _)))), ?_⟩
    refine ⟨_, rfl, a, _, _, _, rfl, rfl, ha, rfl, _, rfl, b, _, _, _, rfl, rfl, hb, rfl, _, _, rfl, rfl, m2.r, ?_⟩
    exact ⟨_, rfl, b, _, _, _, rfl, rfl, hb, rfl, _, rfl, a, _, _, _, rfl, rfl, ha, rfl, _, _, rfl, rfl, m1.r, _, _, rfl, rfl, q⟩
def spFloor (K : PySem.W.Frag) : Sp := fun vs H Q _ => ∃ (a : Addr) (l : Int × Int), vs = [.ref a] ∧ SqT K H a [.int l.1, .int l.2] ∧ 0 < l.2 ∧ Med l.2 ∧ Q (.int (l.1 / l.2)) H
theorem ok_floor_of {f : Addr} {fd : FuncData} (F : Fun K "floor_of" "floor_of" s_floor_of f fd) : FnOk P w K mg base CX0 1 f fd ["fraction"] (spFloor K) := by
  refine F.ok sc_floor_of (fun vs H Q E h => ?_) (fun cdv A outer s H vs Q E hr h => ?_)
  · obtain ⟨a, l, rfl, _⟩ := h
    rfl
  · obtain ⟨a, l, rfl, ha, l0, m1, q⟩ := h
    refine ⟨_, (pss_one (ps_ret (pe_op op_fdivA (pe_ix ix_tup (pv 0) pe_int (fun _ _ => rfl)) (pe_ix ix_tup (pv 0) pe_int (fun _ _ => rfl))))), ?_⟩
    exact ⟨_, rfl, a, _, _, _, rfl, rfl, ha, rfl, _, rfl, a, _, _, _, rfl, rfl, ha, rfl, _, _, rfl, rfl, divOk l0 (by have := m1.2; omega), q⟩
end
end K50

namespace K50
open PySem PySem.Spec PyProof.Rows L2 My M50
local macro_rules | `(tactic| walk_at "side") => `(tactic| (first
  | assumption
  | (refine OkMod.mk ?_; omega)
  | (refine mulOkL ?_ ?_ <;> omega)
  | (refine mulOkR ?_ ?_ <;> omega)
  | (refine divOk ?_ ?_ <;> omega)))
local macro_rules | `(tactic| walk_at "rd") => `(tactic| (first
  | with_reducible refine ⟨_, rfl, ?_⟩
  | refine ⟨_, rfl, ?_⟩
  | refine ⟨_, _, rfl, rfl, ?_⟩
  | refine And.intro (by walk_at "side") ?_
  | refine ⟨_, _, rfl, asm (by assumption), ?_⟩
  | refine ⟨_, _, rfl, asm ?_⟩))
section
variable {P : Program} {w : World} {K : PySem.W.Frag} {mg : Str → Option Value} {base : Heap}

theorem keep_tupD {K : PySem.W.Frag} {d a : Addr} {H H' : Hp} {zs xs : List V} (e : Keep d H H') (hd : H d = some (.lst zs)) (h : SqT K H a xs) : SqT K H' a xs := by
  have ne : ∀ o, H a = some o → (∀ l, o ≠ .lst l) → a ≠ d := fun o ho hn z => by
    rw [z, hd] at ho
    exact hn _ (Option.some.inj ho).symm
  rcases h with (h | ⟨o, h⟩) | h
  · exact .inl (.inl (e _ _ (ne _ h fun _ z => nomatch z) h))
  · exact .inl (.inr ⟨o, e _ _ (ne _ h fun _ z => nomatch z) h⟩)
  · exact .inr h
theorem same_keep {H H1 H2 : Hp} {L : Addr} (n : H L = none) (s : Same H H1) (k : Keep L H1 H2) : Same H H2 := fun b o e => k b o (ne_of_none e n) (s _ _ e)
/-- the ways of an if's test joined -/
theorem sTest_via {c : TT} {t u v : TS} {D : Ends} {σ : L2.St} {H : Hp} (R : Bool → Hp → Prop) (h : ∀ Q' : Bool → Hp → Prop, (∀ b H', R b H' → Q' b H') → c σ H Q') (k : ∀ b H', R b H' → if b = true then t { D with nx := v D } σ H' else u { D with nx := v D } σ H') :
    tSeq (tIfS c t u) v D σ H := h _ k
theorem sLast_via {c : TT} {t u : TS} {D : Ends} {σ : L2.St} {H : Hp} (R : Bool → Hp → Prop) (h : ∀ Q' : Bool → Hp → Prop, (∀ b H', R b H' → Q' b H') → c σ H Q') (k : ∀ b H', R b H' → if b = true then t D σ H' else u D σ H') : tIfS c t u D σ H := h _ k
theorem iteN {c A B : Prop} [Decidable c] (hc : ¬ c) (h : A) : if (!decide c) = true then A else B := by
  rw [decide_eq_false hc]
  exact iteT h
/-! ### simplest_between -/
def HiV (K : PySem.W.Frag) (H : Hp) (v : V) : Option (Int × Int) → Prop
  | none => v = .non
  | some r => ∃ b, v = .ref b ∧ SqT K H b [.int r.1, .int r.2]
theorem HiV.same {H H' : Hp} {v : V} (e : Same H H') : ∀ {h : Option (Int × Int)}, HiV K H v h → HiV K H' v h
  | none, h => h
  | some _, ⟨b, h, t⟩ => ⟨b, h, Same.tup e t⟩
def den : Option (Int × Int) → Nat
  | none => 0
  | some r => r.2.toNat
def Ends4 (l : Int × Int) (h : Option (Int × Int)) : Prop := 0 < l.2 ∧ l.2 ≤ 1000 ∧ ∀ r, h = some r → 0 < r.2 ∧ r.2 ≤ 1000 ∧ l.1 * r.2 < r.1 * l.2
theorem small_ends {l : Int × Int} {h : Option (Int × Int)} (s : Small l h) : Ends4 l h := ⟨s.2.2.1, s.2.2.2.1, fun r e => have z := s.2.2.2.2 r e; ⟨z.2.2.1, z.2.2.2.1, z.2.2.2.2⟩⟩
def spSimplest (K : PySem.W.Frag) : Sp := fun vs H Q _ => ∃ (a b : Addr) (l h : Int × Int), vs = [.ref a, .ref b] ∧ SqT K H a [.int l.1, .int l.2] ∧ SqT K H b [.int h.1, .int h.2] ∧ Ends4 l (some h) ∧
  ∀ t (p q : Int) H', Same H H' → H' t = some (.tup [.int p, .int q]) → Best l (some h) p q → Q (.ref t) H'
theorem rev_at {ws : List Int} {i : Nat} {x : V} (h : ((ws.map V.int).reverse)[i]? = some x) : ∃ us w, ws.take (ws.length - i) = us ++ [w] ∧ ws.take (ws.length - (i + 1)) = us ∧ x = .int w := by
  have hi : i < ws.length := by
    have := (List.getElem?_eq_some_iff.mp h).1
    simpa using this
  rw [← List.map_reverse, List.getElem?_map, List.getElem?_reverse hi] at h
  have hj : ws.length - 1 - i < ws.length := by omega
  rw [List.getElem?_eq_getElem hj] at h
  refine ⟨ws.take (ws.length - (i + 1)), ws[ws.length - 1 - i], ?_, rfl, (Option.some.inj h).symm⟩
  rw [show ws.length - i = (ws.length - 1 - i) + 1 by omega, List.take_succ_eq_append_getElem hj]
  rw [show ws.length - (i + 1) = ws.length - 1 - i by omega]
theorem ok_simplest_between {f f1 f2 : Addr} {fd fd1 fd2 : FuncData} (C_below : Has P w K mg base "below" 1 ["one", "other"] (spBelow K) f1 fd1) (C_floor_of : Has P w K mg base "floor_of" 1 ["fraction"] (spFloor K) f2 fd2)
    (F : Fun K "simplest_between" "simplest_between" s_simplest_between f fd) : FnOk P w K mg base CX0 2 f fd ["low", "high"] (spSimplest K) := by
  refine F.ok sc_simplest_between (fun vs H Q E h => ?_) (fun cdv A outer s H vs Q E hr h => ?_)
  · obtain ⟨a, b, l, h, rfl, _⟩ := h
    rfl
  · obtain ⟨a0, b0, l0, h0, rfl, ha0, hb0, e0, q⟩ := h
    refine ⟨_, (pss_cons (ps_set (i := 2) sc_simplest_between.nd rfl (Or.inl rfl) (pe_lst pa_nil))
    (pss_cons (ps_while PassesOwn.never (pt_val pe_bl)
      (pss_cons (ps_set (i := 3) sc_simplest_between.nd rfl (Or.inl rfl) (pe_call C_floor_of.G (hr.mono (by decide)) (by rfl) C_floor_of.g C_floor_of.k C_floor_of.b .nil pass0 (pa_cons (pv 0) pa_nil)))
    (pss_cons (ps_if (PW.pt (pw_or (pt_cmpR op_isN (pv 1) pe_non (nomark _)) (pw_or1 (pt_val (pe_call C_below.G (hr.mono (by decide)) (by rfl) C_below.g C_below.k C_below.b .nil pass0 (pa_cons (pe_tup (pa_cons (pe_op op_add (pv 3) pe_int) (pa_cons pe_int pa_nil))) (pa_cons (pv 1) pa_nil)))))))
      (pss_one ps_break)
      pss_nil)
    (pss_cons (ps_expr (pe_bm PySem.F.plainAttrs_list PySem.F.slot_list_append PySem.F.type_list_append mt_append (pv 2) (pa_cons (pv 3) pa_nil)))
    (pss_cons (ps_set (i := 4) sc_simplest_between.nd rfl (Or.inl rfl) (pe_tup (pa_cons (pe_op op_sub (pe_ix ix_tup (pv 0) pe_int (fun _ _ => rfl)) (pe_op op_mulA (pv 3) (pe_ix ix_tup (pv 0) pe_int (fun _ _ => rfl)))) (pa_cons (pe_ix ix_tup (pv 0) pe_int (fun _ _ => rfl)) pa_nil))))
    (pss_cons (ps_set (i := 0) sc_simplest_between.nd rfl (Or.inl rfl) (pe_tup (pa_cons (pe_ix ix_tup (pv 1) pe_int (fun _ _ => rfl)) (pa_cons (pe_op op_sub (pe_ix ix_tup (pv 1) pe_int (fun _ _ => rfl)) (pe_op op_mulA (pv 3) (pe_ix ix_tup (pv 1) pe_int (fun _ _ => rfl)))) pa_nil))))
    (pss_one (ps_set (i := 1) sc_simplest_between.nd rfl (Or.inl rfl) (pe_ifExp (pt_truth (pe_ix ix_tup (pv 4) pe_int (fun _ _ => rfl)) (by intro _; rfl)) (pe_tup (pa_cons (pe_ix ix_tup (pv 4) pe_int (fun _ _ => rfl)) (pa_cons (pe_ix ix_tup (pv 4) pe_int (fun _ _ => rfl)) pa_nil))) pe_non)))))))))
    (pss_cons (ps_par (i := 5) (j := 6) (by rfl) sc_simplest_between.nd rfl rfl (by decide) rfl rfl (pa_cons (pe_op op_add (pv 3) pe_int) (pa_cons pe_int pa_nil)) (by rfl))
    (pss_cons (ps_for PassesOwn.never rfl (pi_list (pe_revL (pv 2))) (pg_name (i := 7) sc_simplest_between.nd rfl (Or.inl rfl))
      (pss_one (ps_par (i := 5) (j := 6) (by rfl) sc_simplest_between.nd rfl rfl (by decide) rfl rfl (pa_cons (pe_op op_add (pe_op op_mulA (pv 7) (pv 5)) (pv 6)) (pa_cons (pv 5) pa_nil)) (by rfl))))
    (pss_one (ps_ret (pe_tup (pa_cons (pv 5) (pa_cons (pv 6) pa_nil))))))))), ?_⟩
    refine ⟨Nat.zero_le _, fun L nL => ?_⟩
    refine ⟨fun μ σ H' => ∃ (a : Addr) (l : Int × Int) (h : Option (Int × Int)) (hv : V) (ws : List Int) (y3 y4 : Option V), σ = [some (.ref a), some hv, some (.ref L), y3, y4, none, none, none] ∧ Same H H' ∧ H' L = some (.lst (ws.map V.int)) ∧
        SqT K H' a [.int l.1, .int l.2] ∧ HiV K H' hv h ∧ Ends4 l h ∧ Steps ws (l0, some h0) (l, h) ∧ ws.length + μ ≤ 2000 ∧ μ = l.2.toNat + den h,
      ⟨_, a0, l0, some h0, _, [], none, none, rfl, same_upd nL, upd_same, Same.tup (same_upd nL) ha0, ⟨b0, rfl, Same.tup (same_upd nL) hb0⟩, e0, rfl, ?_, rfl⟩, ?_⟩
    · have := e0.2.1
      have := (e0.2.2 h0 rfl).2.1
      show 0 + (l0.2.toNat + h0.2.toNat) ≤ 2000
      omega
    rintro μ σ H1 ⟨a, l, h, hv, ws, y3, y4, rfl, s1, hL, ha, hh, en, st, hμ, rfl⟩
    refine ⟨true, rfl, iteT ?_⟩
    refine ⟨fun σ' H' => ∃ m', m' < l.2.toNat + den h ∧ _, fun _ _ z => z, ?_⟩
    have l0' := en.1
    have l1' := en.2.1
    have ml : Med l.2 := ⟨by omega, by omega⟩
    refine ⟨_, rfl, a, l, rfl, ha, l0', ml, ?_⟩
    dsimp only [gName]
    refine sTest_via (fun b H2 => Same H1 H2 ∧ (b = true ↔ ∀ r, h = some r → (l.1 / l.2 + 1) * r.2 < r.1)) (fun Q' k => ?_) ?_
    · cases h with
      | none =>
        obtain rfl : hv = .non := hh
        exact ⟨_, rfl, rfl, true, rfl, iteT (k _ _ ⟨fun _ _ z => z, iff_of_true rfl fun _ z => nomatch z⟩)⟩
      | some r =>
        obtain ⟨b, rfl, hb⟩ := hh
        have r0 := (en.2.2 r rfl).1
        have r1 := (en.2.2 r rfl).2.1
        refine ⟨_, rfl, rfl, false, rfl, iteF ?_⟩
        refine ⟨_, rfl, _, _, rfl, rfl, by show 2 ≤ sizeLine; decide, fun p np => ?_⟩
        have s2 := same_upd (o := .tup [.int (l.1 / l.2 + 1), .int 1]) np
        refine ⟨_, rfl, p, b, (l.1 / l.2 + 1, 1), r, rfl, .inl (.inl upd_same), Same.tup s2 hb, ⟨by show (-(2 ^ 62) : Int) < 1; decide, by show (1 : Int) < 2 ^ 62; decide⟩, ⟨by omega, by omega⟩, ?_⟩
        refine ⟨_, rfl, k _ _ ⟨s2, ?_⟩⟩
        rw [decide_eq_true_iff, Int.mul_one]
        exact ⟨fun z r' e => by cases e; exact z, fun z => z r rfl⟩
    rintro b H2 ⟨s2, hb⟩
    cases b with
    | true =>
      refine iteT ?_
      have hb := hb.mp rfl
      have hL2 := s2 _ _ hL
      have s02 := s1.trans s2
      refine ⟨_, rfl, _, _, rfl, rfl, _, _, rfl, ?_⟩
      refine ⟨_, rfl, L, _, rfl, .inl (.inl hL2), fun R nR => ?_⟩
      have s3 := same_upd (o := .lst (ws.map V.int).reverse) nR
      refine ⟨R, rfl, ⟨_, .inl (.inl upd_same)⟩, for_list (K := K) (a := R) (xs := (ws.map V.int).reverse) (fun i σ H' => H' = upd H2 R (.lst (ws.map V.int).reverse) ∧ ∃ c p q y7, σ = [some (.ref a), some hv, some (.ref L), some (.int (l.1 / l.2)), y4, some (.int p), some (.int q), y7] ∧ Steps (ws.take (ws.length - i)) (l0, some h0) c ∧ Best c.1 c.2 p q)
        ⟨rfl, (l, h), _, _, none, rfl, by rw [Nat.sub_zero, List.take_length]; exact st, best_base l0' hb⟩ (fun i σ H' _ ⟨e, _⟩ => by rw [e]; exact .inl (.inl upd_same)) ?_ ?_⟩
      · rintro i x σ H4 hi ⟨rfl, c, p, q', y7, rfl, sc, bc⟩
        obtain ⟨us, wx, e1, e2, rfl⟩ := rev_at hi
        rw [e1] at sc
        obtain ⟨b, sb, hb2, sm⟩ := sc.last
        have z := bc.small sm
        refine ⟨_, rfl, _, rfl, _, _, rfl, rfl, mulOkR (by omega) (by omega), _, rfl, _, _, rfl, rfl, _, rfl, _, _, rfl, ?_⟩
        exact ⟨rfl, b, _, _, _, rfl, by rw [e2]; exact sb, hb2 _ _ bc⟩
      · rintro σ H4 ⟨rfl, c, p, q', y7, rfl, sc, bc⟩
        rw [List.length_reverse, List.length_map, Nat.sub_self, List.take_zero] at sc
        cases sc
        refine ⟨_, rfl, _, rfl, by show 2 ≤ sizeLine; decide, fun t nt => ?_⟩
        exact q t p q' _ (s02.trans (s3.trans (same_upd nt))) upd_same bc
    | false =>
      refine iteF ?_
      have hb : ¬ ∀ r, h = some r → (l.1 / l.2 + 1) * r.2 < r.1 := fun z => nomatch hb.mpr z
      cases h with
      | none => exact absurd (fun r e => nomatch e) hb
      | some r =>
        have hb : ¬ (l.1 / l.2 + 1) * r.2 < r.1 := fun z => hb fun r' e => by cases e; exact z
        obtain ⟨b, rfl, hbT⟩ := HiV.same s2 hh
        have haT := Same.tup s2 ha
        have hL2 := s2 _ _ hL
        have s02 := s1.trans s2
        obtain ⟨r0, r1, lt⟩ := en.2.2 r rfl
        have stp := step_of l0' l1' r0 r1 lt hb
        have e3 := small_ends stp.2
        have mr : Med r.2 := ⟨by omega, by omega⟩
        -- parts.append(whole)
        refine ⟨_, rfl, .inl ⟨rfl, _, .inl (.inl hL2)⟩, _, rfl, L, _, _, rfl, rfl, hL2, ?_, ?_⟩
        · rw [List.length_map]
          have : 2000 < sizeLine := by decide
          omega
        have k3 := Keep.upd L H2 (.lst (ws.map V.int ++ [.int (l.1 / l.2)]))
        have s03 := same_keep nL s02 k3
        have ha3 := keep_tupD k3 hL2 haT
        have hb3 := keep_tupD k3 hL2 hbT
        have hL3 : (upd H2 L (.lst (ws.map V.int ++ [.int (l.1 / l.2)]))) L = some (.lst ((ws ++ [l.1 / l.2]).map V.int)) := by
          rw [upd_same, List.map_append]
          rfl
        generalize upd H2 L (.lst (ws.map V.int ++ [.int (l.1 / l.2)])) = H3 at *
        -- rest
        refine ⟨_, rfl, a, _, _, _, rfl, rfl, ha3, rfl, _, rfl, _, rfl, a, _, _, _, rfl, rfl, ha3, rfl, _, _, rfl, rfl, ml.r, _, _, rfl, rfl, _, rfl, a, _, _, _, rfl, rfl, ha3, rfl, by show 2 ≤ sizeLine; decide, fun t4 n4 => ?_⟩
        have s4 := same_upd (o := .tup [.int (l.1 - l.1 / l.2 * l.2), .int l.2]) n4
        have ht4 : SqT K (upd H3 t4 (.tup [.int (l.1 - l.1 / l.2 * l.2), .int l.2])) t4 [.int (l.1 - l.1 / l.2 * l.2), .int l.2] := .inl (.inl upd_same)
        generalize upd H3 t4 (.tup [.int (l.1 - l.1 / l.2 * l.2), .int l.2]) = H4 at *
        have hb4 := Same.tup s4 hb3
        -- low
        refine ⟨_, rfl, b, _, _, _, rfl, rfl, hb4, rfl, _, rfl, b, _, _, _, rfl, rfl, hb4, rfl, _, rfl, _, rfl, b, _, _, _, rfl, rfl, hb4, rfl, _, _, rfl, rfl, mr.r, _, _, rfl, rfl, by show 2 ≤ sizeLine; decide, fun t5 n5 => ?_⟩
        have s5 := same_upd (o := .tup [.int r.2, .int (r.1 - l.1 / l.2 * r.2)]) n5
        have ht5 : SqT K (upd H4 t5 (.tup [.int r.2, .int (r.1 - l.1 / l.2 * r.2)])) t5 [.int (nextL (l.1 / l.2) r).1, .int (nextL (l.1 / l.2) r).2] := .inl (.inl upd_same)
        generalize upd H4 t5 (.tup [.int r.2, .int (r.1 - l.1 / l.2 * r.2)]) = H5 at *
        have ht4 := Same.tup s5 ht4
        have s05 := s03.trans (s4.trans s5)
        have hL5 := s5 _ _ (s4 _ _ hL3)
        -- high
        refine ⟨_, rfl, t4, _, _, _, rfl, rfl, ht4, rfl, _, rfl, ?_⟩
        have lenok : (ws ++ [l.1 / l.2]).length = ws.length + 1 := by simp
        have hμ2 : ws.length + (l.2.toNat + r.2.toNat) ≤ 2000 := hμ
        have stn := st.snoc stp
        have dl := e3.1
        have kp : (nextL (l.1 / l.2) r).2 = r.1 - l.1 / l.2 * r.2 := rfl
        have k1 := Int.ediv_mul_le l.1 (show l.2 ≠ 0 by omega)
        have k2 := Int.lt_ediv_add_one_mul_self l.1 l0'
        have e1 : (l.1 / l.2 + 1) * r.2 = l.1 / l.2 * r.2 + r.2 := by grind
        have e2 : (l.1 / l.2 + 1) * l.2 = l.1 / l.2 * l.2 + l.2 := by grind
        by_cases hz : l.1 - l.1 / l.2 * l.2 = 0
        · have eN : nextH (l.1 / l.2) l = none := if_pos hz
          rw [eN] at stn e3
          have dm : (nextL (l.1 / l.2) r).2.toNat + den none < l.2.toNat + r.2.toNat := by
            rw [kp]
            show (r.1 - l.1 / l.2 * r.2).toNat + 0 < _
            omega
          rw [show ((l.1 - l.1 / l.2 * l.2) != 0) = false by rw [hz]; rfl]
          refine iteF ?_
          refine ⟨_, dm, t5, _, none, _, ws ++ [l.1 / l.2], _, _, rfl, s05, hL5, ht5, rfl, e3, stn, ?_, rfl⟩
          rw [lenok]
          omega
        · have eN : nextH (l.1 / l.2) l = some (l.2, l.1 - l.1 / l.2 * l.2) := if_neg hz
          rw [eN] at stn e3
          have dm : (nextL (l.1 / l.2) r).2.toNat + den (some (l.2, l.1 - l.1 / l.2 * l.2)) < l.2.toNat + r.2.toNat := by
            rw [kp]
            show (r.1 - l.1 / l.2 * r.2).toNat + (l.1 - l.1 / l.2 * l.2).toNat < _
            omega
          rw [show ((l.1 - l.1 / l.2 * l.2) != 0) = true from bne_iff_ne.mpr hz]
          refine iteT ?_
          refine ⟨_, rfl, t4, _, _, _, rfl, rfl, ht4, rfl, _, rfl, t4, _, _, _, rfl, rfl, ht4, rfl, by show 2 ≤ sizeLine; decide, fun t6 n6 => ?_⟩
          have s6 := same_upd (o := .tup [.int l.2, .int (l.1 - l.1 / l.2 * l.2)]) n6
          refine ⟨_, dm, t5, _, some (l.2, l.1 - l.1 / l.2 * l.2), _, ws ++ [l.1 / l.2], _, _, rfl, s05.trans s6, s6 _ _ hL5, Same.tup s6 ht5, ⟨t6, rfl, .inl (.inl upd_same)⟩, e3, stn, ?_, rfl⟩
          rw [lenok]
          omega
end
end K50

namespace K50
open PySem PySem.Spec PyProof.Rows L2 My M50
local macro_rules | `(tactic| walk_at "side") => `(tactic| (first
  | assumption
  | (refine OkMod.mk ?_; omega)
  | (refine mulOkL ?_ ?_ <;> omega)
  | (refine mulOkR ?_ ?_ <;> omega)
  | (refine divOk ?_ ?_ <;> omega)))
local macro_rules | `(tactic| walk_at "rd") => `(tactic| (first
  | with_reducible refine ⟨_, rfl, ?_⟩
  | refine ⟨_, rfl, ?_⟩
  | refine ⟨_, _, rfl, rfl, ?_⟩
  | refine And.intro (by walk_at "side") ?_
  | refine ⟨_, _, rfl, asm (by assumption), ?_⟩
  | refine ⟨_, _, rfl, asm ?_⟩))
section
variable {P : Program} {w : World} {K : PySem.W.Frag} {mg : Str → Option Value} {base : Heap}

/-! ### Line, Stairs, Crooked -/
structure LineC (K : PySem.W.Frag) (C : Addr) : Prop where
  cl : Cls K C
  na : NoAttr K C "a"
  nb : NoAttr K C "b"
  nm : NoAttr K C "m"
def LineAt (H : Hp) (C x : Addr) (a b m : Int) : Prop := ∃ dx, H x = some (.ins C dx [("a", .int a), ("b", .int b), ("m", .int m)])
theorem LineAt.same {H H' : Hp} {C x : Addr} {a b m : Int} (e : Same H H') : LineAt H C x a b m → LineAt H' C x a b m := fun ⟨dx, h⟩ => ⟨dx, e _ _ h⟩
def spLineI (C : Addr) : Sp := fun vs H Q _ => ∃ x dx a b m, vs = [.ref x, .int a, .int b, .int m] ∧ H x = some (.ins C dx []) ∧ 1 ≤ m ∧ ∀ H', Keep x H H' → H' x = some (.ins C dx [("a", .int a), ("b", .int b), ("m", .int m)]) → Q .non H'
theorem ok_LineI {f f1 f2 C : Addr} {fd fd1 fd2 : FuncData} (R : LineC K C) (C_check_numbers : Has P w K mg base "check_numbers" 2 ["values"] (spCheckNums K) f1 fd1) (C_check_from : Has P w K mg base "check_from" 2 ["least", "value"] spCheckFrom f2 fd2)
    (F : Fun K "__init__" "Line.__init__" s_Line___init__ f fd) : FnOk P w K mg base CX0 3 f fd ["self", "a", "b", "m"] (spLineI C) := by
  refine F.ok sc_Line___init__ (fun vs H Q E h => ?_) (fun cdv A outer s H vs Q E hr h => ?_)
  · obtain ⟨x, dx, a, b, m, rfl, _⟩ := h
    rfl
  · obtain ⟨x, dx, a, b, m, rfl, hx, hm, q⟩ := h
    refine ⟨_, (pss_cons (ps_expr (pe_call C_check_numbers.G (hr.mono (by decide)) (by rfl) C_check_numbers.g C_check_numbers.k C_check_numbers.b .nil pass0 (pa_cons (pe_lst (pa_cons (pv 1) (pa_cons (pv 2) (pa_cons (pv 3) pa_nil)))) pa_nil)))
    (pss_cons (ps_expr (pe_call C_check_from.G (hr.mono (by decide)) (by rfl) C_check_from.g C_check_from.k C_check_from.b .nil pass0 (pa_cons pe_int (pa_cons (pv 3) pa_nil))))
    (pss_cons (ps_fld (pv 0) (pv 1) rfl)
    (pss_cons (ps_fld (pv 0) (pv 2) rfl)
    (pss_one (ps_fld (pv 0) (pv 3) rfl)))))), ?_⟩
    refine ⟨_, rfl, _, rfl, _, rfl, by show 3 ≤ sizeLine; decide, fun p np => ?_⟩
    refine ⟨p, [a, b, m], rfl, .inl (.inl upd_same), ?_⟩
    refine ⟨_, rfl, 1, m, rfl, hm, ?_⟩
    have s1 := same_upd (o := .lst [.int a, .int b, .int m]) np
    have hx1 := s1 _ _ hx
    generalize upd H p (.lst [.int a, .int b, .int m]) = H1 at *
    refine ⟨_, rfl, _, rfl, x, C, dx, _, rfl, hx1, R.cl, R.na, by show 0 < 1000; decide, ?_⟩
    refine ⟨_, rfl, _, rfl, x, C, dx, _, rfl, upd_same, R.cl, R.nb, by show 1 < 1000; decide, ?_⟩
    refine ⟨_, rfl, _, rfl, x, C, dx, _, rfl, upd_same, R.cl, R.nm, by show 2 < 1000; decide, ?_⟩
    exact q _ ((Keep.of s1).trans ((Keep.upd x _ _).trans ((Keep.upd x _ _).trans (Keep.upd x _ _)))) upd_same
def spLineAt (C : Addr) : Sp := fun vs H Q _ => ∃ p a b m x, vs = [.ref p, .int x] ∧ LineAt H C p a b m ∧ 1 ≤ m ∧ Med m ∧ Med x ∧ Q (.int ((a * x + b) / m)) H
theorem ok_LineAt {f C : Addr} {fd : FuncData} (R : LineC K C) (F : Fun K "at" "Line.at" s_Line_at f fd) : FnOk P w K mg base CX0 1 f fd ["self", "x"] (spLineAt C) := by
  refine F.ok sc_Line_at (fun vs H Q E h => ?_) (fun cdv A outer s H vs Q E hr h => ?_)
  · obtain ⟨p, a, b, m, x, rfl, _⟩ := h
    rfl
  · obtain ⟨p, a, b, m, x, rfl, ⟨dx, hp⟩, m1, mm, mx, q⟩ := h
    refine ⟨_, (pss_one (ps_ret (pe_op op_fdivA (pe_op op_add (pe_op op_mulA (pe_fld (pv 0) rfl) (pv 1)) (pe_fld (pv 0) rfl)) (pe_fld (pv 0) rfl)))), ?_⟩
    refine ⟨_, rfl, p, C, dx, _, _, rfl, hp, R.cl, R.na, rfl, _, rfl, _, _, rfl, rfl, mx.r, _, rfl, p, C, dx, _, _, rfl, hp, R.cl, R.nb, rfl, _, _, rfl, rfl, ?_⟩
    exact ⟨_, rfl, p, C, dx, _, _, rfl, hp, R.cl, R.nm, rfl, _, _, rfl, rfl, divOk (by omega) (by have := mm.2; omega), q⟩
structure StairsC (K : PySem.W.Frag) (C : Addr) : Prop where
  cl : Cls K C
  nl : NoAttr K C "line"
  no : NoAttr K C "low"
  nh : NoAttr K C "high"
structure CrookC (K : PySem.W.Frag) (C : Addr) : Prop where
  cl : Cls K C
  no : NoAttr K C "low"
  nh : NoAttr K C "high"
def spStairsI (C : Addr) : Sp := fun vs H Q _ => ∃ x dx l o h, vs = [.ref x, l, o, h] ∧ H x = some (.ins C dx []) ∧ ∀ H', Keep x H H' → H' x = some (.ins C dx [("line", l), ("low", o), ("high", h)]) → Q .non H'
theorem ok_StairsI {f C : Addr} {fd : FuncData} (R : StairsC K C) (F : Fun K "__init__" "Stairs.__init__" s_Stairs___init__ f fd) : FnOk P w K mg base CX0 1 f fd ["self", "line", "low", "high"] (spStairsI C) := by
  refine F.ok sc_Stairs___init__ (fun vs H Q E h => ?_) (fun cdv A outer s H vs Q E hr h => ?_)
  · obtain ⟨x, dx, l, o, h, rfl, _⟩ := h
    rfl
  · obtain ⟨x, dx, l, o, h, rfl, hx, q⟩ := h
    refine ⟨_, (pss_cons (ps_fld (pv 0) (pv 1) rfl)
    (pss_cons (ps_fld (pv 0) (pv 2) rfl)
    (pss_one (ps_fld (pv 0) (pv 3) rfl)))), ?_⟩
    refine ⟨_, rfl, _, rfl, x, C, dx, _, rfl, hx, R.cl, R.nl, by show 0 < 1000; decide, ?_⟩
    refine ⟨_, rfl, _, rfl, x, C, dx, _, rfl, upd_same, R.cl, R.no, by show 1 < 1000; decide, ?_⟩
    refine ⟨_, rfl, _, rfl, x, C, dx, _, rfl, upd_same, R.cl, R.nh, by show 2 < 1000; decide, ?_⟩
    exact q _ ((Keep.upd x _ _).trans ((Keep.upd x _ _).trans (Keep.upd x _ _))) upd_same
def spCrookI (C : Addr) : Sp := fun vs H Q _ => ∃ x dx o h, vs = [.ref x, o, h] ∧ H x = some (.ins C dx []) ∧ ∀ H', Keep x H H' → H' x = some (.ins C dx [("low", o), ("high", h)]) → Q .non H'
theorem ok_CrookI {f C : Addr} {fd : FuncData} (R : CrookC K C) (F : Fun K "__init__" "Crooked.__init__" s_Crooked___init__ f fd) : FnOk P w K mg base CX0 1 f fd ["self", "low", "high"] (spCrookI C) := by
  refine F.ok sc_Crooked___init__ (fun vs H Q E h => ?_) (fun cdv A outer s H vs Q E hr h => ?_)
  · obtain ⟨x, dx, o, h, rfl, _⟩ := h
    rfl
  · obtain ⟨x, dx, o, h, rfl, hx, q⟩ := h
    refine ⟨_, (pss_cons (ps_fld (pv 0) (pv 1) rfl)
    (pss_one (ps_fld (pv 0) (pv 2) rfl))), ?_⟩
    refine ⟨_, rfl, _, rfl, x, C, dx, _, rfl, hx, R.cl, R.no, by show 0 < 1000; decide, ?_⟩
    refine ⟨_, rfl, _, rfl, x, C, dx, _, rfl, upd_same, R.cl, R.nh, by show 1 < 1000; decide, ?_⟩
    exact q _ ((Keep.upd x _ _).trans (Keep.upd x _ _)) upd_same
def spBool (b : Bool) : Sp := fun vs H Q _ => ∃ x, vs = [x] ∧ Q (.bl b) H
theorem ok_StairsB {f : Addr} {fd : FuncData} (F : Fun K "__bool__" "Stairs.__bool__" s_Stairs___bool__ f fd) : FnOk P w K mg base CX0 1 f fd ["self"] (spBool true) := by
  refine F.ok sc_Stairs___bool__ (fun vs H Q E h => ?_) (fun cdv A outer s H vs Q E hr h => ?_)
  · obtain ⟨x, rfl, _⟩ := h
    rfl
  · obtain ⟨x, rfl, q⟩ := h
    exact ⟨_, (pss_one (ps_ret pe_bl)), q⟩
theorem ok_CrookB {f : Addr} {fd : FuncData} (F : Fun K "__bool__" "Crooked.__bool__" s_Crooked___bool__ f fd) : FnOk P w K mg base CX0 1 f fd ["self"] (spBool false) := by
  refine F.ok sc_Crooked___bool__ (fun vs H Q E h => ?_) (fun cdv A outer s H vs Q E hr h => ?_)
  · obtain ⟨x, rfl, _⟩ := h
    rfl
  · obtain ⟨x, rfl, q⟩ := h
    exact ⟨_, (pss_one (ps_ret pe_bl)), q⟩
/-! ### bounds of a row's numbers -/
def rowL (g : Nat → Int) (n : Nat) : List V := (List.range n).map fun x => V.int (g x)
theorem rowL_at {g : Nat → Int} {n i : Nat} (h : i < n) : (rowL g n)[i]? = some (.int (g i)) := by
  unfold rowL
  rw [List.getElem?_map, List.getElem?_range h]
  rfl
theorem rowL_len (g : Nat → Int) (n : Nat) : (rowL g n).length = n := by
  unfold rowL
  rw [List.length_map, List.length_range]
theorem rowL_ints (g : Nat → Int) (n : Nat) : rowL g n = ((List.range n).map g).map V.int := by
  unfold rowL
  rw [List.map_map]
  rfl
theorem rowL_snoc (g : Nat → Int) (n : Nat) : rowL g (n + 1) = rowL g n ++ [.int (g n)] := by
  unfold rowL
  rw [List.range_succ, List.map_append]
  rfl
def spBound (K : PySem.W.Frag) (c : Int) : Sp := fun vs H Q _ => ∃ (r p : Addr) (g : Nat → Int) (n i j : Nat), vs = [.ref r, .ref p] ∧ SqL K H r (rowL g n) ∧ SqT K H p [.int i, .int j] ∧ i < n ∧ j < n ∧
  ∀ t H', Same H H' → H' t = some (.tup [.int (g j - g i + c), .int ((j : Int) - i)]) → Q (.ref t) H'
theorem ok_lower_bound {f : Addr} {fd : FuncData} (F : Fun K "lower_bound" "lower_bound" s_lower_bound f fd) : FnOk P w K mg base CX0 1 f fd ["row", "pair"] (spBound K (-1)) := by
  refine F.ok sc_lower_bound (fun vs H Q E h => ?_) (fun cdv A outer s H vs Q E hr h => ?_)
  · obtain ⟨r, p, g, n, i, j, rfl, _⟩ := h
    rfl
  · obtain ⟨r, p, g, n, i, j, rfl, hr', hp, hi, hj, q⟩ := h
    refine ⟨_, (pss_cons (ps_asg (pv 1) (pg_tup rfl (pgs_cons (pg_name (i := 2) sc_lower_bound.nd rfl (Or.inl rfl)) (pgs_cons (pg_name (i := 3) sc_lower_bound.nd rfl (Or.inl rfl)) pgs_nil))))
    (pss_one (ps_ret (pe_tup (pa_cons (pe_op op_sub (pe_op op_sub (pe_ix ix_list (pv 0) (pv 3) (fun _ _ => rfl)) (pe_ix ix_list (pv 0) (pv 2) (fun _ _ => rfl))) pe_int) (pa_cons (pe_op op_sub (pv 3) (pv 2)) pa_nil)))))), ?_⟩
    refine ⟨_, rfl, p, _, rfl, hp, rfl, _, _, rfl, _, _, rfl, rfl, ?_⟩
    refine ⟨_, rfl, _, rfl, r, _, _, _, rfl, rfl, hr', atI_nat (rowL_at hj), _, rfl, _, rfl, r, _, _, _, rfl, rfl, hr', atI_nat (rowL_at hi), _, _, rfl, rfl, _, _, rfl, rfl, ?_⟩
    refine ⟨_, rfl, _, rfl, _, _, rfl, rfl, by show 2 ≤ sizeLine; decide, fun t nt => ?_⟩
    exact q t _ (same_upd nt) upd_same
theorem ok_upper_bound {f : Addr} {fd : FuncData} (F : Fun K "upper_bound" "upper_bound" s_upper_bound f fd) : FnOk P w K mg base CX0 1 f fd ["row", "pair"] (spBound K 1) := by
  refine F.ok sc_upper_bound (fun vs H Q E h => ?_) (fun cdv A outer s H vs Q E hr h => ?_)
  · obtain ⟨r, p, g, n, i, j, rfl, _⟩ := h
    rfl
  · obtain ⟨r, p, g, n, i, j, rfl, hr', hp, hi, hj, q⟩ := h
    refine ⟨_, (pss_cons (ps_asg (pv 1) (pg_tup rfl (pgs_cons (pg_name (i := 2) sc_upper_bound.nd rfl (Or.inl rfl)) (pgs_cons (pg_name (i := 3) sc_upper_bound.nd rfl (Or.inl rfl)) pgs_nil))))
    (pss_one (ps_ret (pe_tup (pa_cons (pe_op op_add (pe_op op_sub (pe_ix ix_list (pv 0) (pv 3) (fun _ _ => rfl)) (pe_ix ix_list (pv 0) (pv 2) (fun _ _ => rfl))) pe_int) (pa_cons (pe_op op_sub (pv 3) (pv 2)) pa_nil)))))), ?_⟩
    refine ⟨_, rfl, p, _, rfl, hp, rfl, _, _, rfl, _, _, rfl, rfl, ?_⟩
    refine ⟨_, rfl, _, rfl, r, _, _, _, rfl, rfl, hr', atI_nat (rowL_at hj), _, rfl, _, rfl, r, _, _, _, rfl, rfl, hr', atI_nat (rowL_at hi), _, _, rfl, rfl, _, _, rfl, rfl, ?_⟩
    refine ⟨_, rfl, _, rfl, _, _, rfl, rfl, by show 2 ≤ sizeLine; decide, fun t nt => ?_⟩
    exact q t _ (same_upd nt) upd_same
theorem tYes_in {A B : Hp → Prop} {σ : L2.St} {H : Hp} (h : A H) : tYes σ H (fun b H3 => if b = true then A H3 else B H3) := by
  show if true = true then A H else B H
  exact iteT h
/-! ### least_offset -/
def spOffset (K : PySem.W.Frag) : Sp := fun vs H Q _ => ∃ (r : Addr) (a m : Int) (g : Nat → Int) (n : Nat), vs = [.ref r, .int a, .int m] ∧ SqL K H r (rowL g n) ∧ 0 < n ∧ n ≤ 100000 ∧ Med m ∧ ∀ (b : Int) H', Same H H' → Off g n a m b → Q (.int b) H'
theorem ok_least_offset {f : Addr} {fd : FuncData} (T : Nm mg) (F : Fun K "least_offset" "least_offset" s_least_offset f fd) : FnOk P w K mg base CX0 1 f fd ["row", "a", "m"] (spOffset K) := by
  refine F.ok sc_least_offset (fun vs H Q E h => ?_) (fun cdv A outer s H vs Q E hr h => ?_)
  · obtain ⟨r, a, m, g, n, rfl, _⟩ := h
    rfl
  · obtain ⟨r, a, m, g, n, rfl, hr', n0, n1, mm, q⟩ := h
    refine ⟨_, (pss_one (ps_ret (pe_callB (cr_max rfl) (by rfl) T.max (by decide +kernel) (pa_cons (pe_lc (own := [("x", 3), ("number", 4)]) (g := gTup K 2 (gCons (gName 3) (gCons (gName 4) (gNil)))) (by rfl) sc_least_offset.nd (pi_enum (by rfl) T.enumerate (pa_cons (pv 0) pa_nil)) (by exact blkOk_by (N := ["row", "a", "m", "x", "number"]) (sc := defScope s_least_offset) (by decide +kernel)) (fun _ _ _ _ _ => by exact (pg_tup rfl (pgs_cons (pg_name (i := 3) sc_least_offset.nd rfl (Or.inl rfl)) (pgs_cons (pg_name (i := 4) sc_least_offset.nd rfl (Or.inl rfl)) pgs_nil)))) (fun _ _ _ _ _ => pts_nil) (fun _ _ _ _ _ => (pe_op op_sub (pe_op op_mulA (pv 2) (pv 4)) (pe_op op_mulA (pv 1) (pv 3))))) pa_nil)))), ?_⟩
    refine ⟨_, rfl, r, _, rfl, hr', fun D hD => lc_it (walk_enum (xs := rowL g n)) (fun i H' => Same H H' ∧ H' D = some (.lst (((List.range i).map fun x => m * g x - a * (x : Int)).map V.int))) ⟨same_upd hD, upd_same⟩ (fun i H' _ ⟨s, _⟩ => s.seq hr') ?_ ?_⟩
    · rintro i x H1 H2 hi ⟨s1, h1⟩ ⟨T, u, v, rfl, nT, rfl, e1, e2⟩
      rw [rowL_len] at hi
      have e2 : (rowL g n)[i]? = some v := e2
      rw [rowL_at hi] at e2
      cases e1
      cases e2
      refine ⟨T, _, rfl, .inl (.inl upd_same), rfl, _, _, rfl, _, _, rfl, rfl, rfl, tYes_in ?_⟩
      have mi : Med (i : Int) := ⟨by omega, by omega⟩
      have s2 := same_upd (o := .tup [.int (i : Int), .int (g i)]) nT
      refine ⟨_, rfl, _, rfl, _, _, rfl, rfl, mm.l, _, rfl, _, rfl, _, _, rfl, rfl, mi.r, _, _, rfl, rfl, _, s2 _ _ h1, ?_, ?_, ?_⟩
      · rw [List.length_map, List.length_map, List.length_range]
        have : 100000 < sizeLine := by decide
        omega
      · exact same_keep hD (s1.trans s2) (Keep.upd D _ _)
      · rw [upd_same, List.range_succ, List.map_append, List.map_append]
        rfl
    · rintro H1 ⟨s1, h1⟩
      refine ⟨D, _, rfl, .inl (.inl h1), by rw [List.length_map, List.length_range]; rw [rowL_len]; exact n0, fun b hb hm => q b H1 s1 ?_⟩
      rw [rowL_len] at hb hm
      refine ⟨fun x hx => hm _ (List.mem_map.mpr ⟨x, List.mem_range.mpr hx, rfl⟩), ?_⟩
      obtain ⟨x, hx, e⟩ := List.mem_map.mp hb
      exact ⟨x, List.mem_range.mp hx, e.symm⟩
end
end K50

namespace K50
open PySem PySem.Spec PyProof.Rows L2 My M50
local macro_rules | `(tactic| walk_at "side") => `(tactic| (first
  | assumption
  | (refine OkMod.mk ?_; omega)
  | (refine mulOkL ?_ ?_ <;> omega)
  | (refine mulOkR ?_ ?_ <;> omega)
  | (refine divOk ?_ ?_ <;> omega)))
local macro_rules | `(tactic| walk_at "rd") => `(tactic| (first
  | with_reducible refine ⟨_, rfl, ?_⟩
  | refine ⟨_, rfl, ?_⟩
  | refine ⟨_, _, rfl, rfl, ?_⟩
  | refine And.intro (by walk_at "side") ?_
  | refine ⟨_, _, rfl, asm (by assumption), ?_⟩
  | refine ⟨_, _, rfl, asm ?_⟩))
section
variable {P : Program} {w : World} {K : PySem.W.Frag} {mg : Str → Option Value} {base : Heap}

/-! ### stairs_of -/
def StairsAt (K : PySem.W.Frag) (H : Hp) (CS CL : Addr) (g : Nat → Int) (n : Nat) (p : Addr) (a b m : Int) : Prop := ∃ dx l o h, ∃ i j k q : Nat, H p = some (.ins CS dx [("line", .ref l), ("low", .ref o), ("high", .ref h)]) ∧ LineAt H CL l a b m ∧ SqT K H o [.int i, .int j] ∧ SqT K H h [.int k, .int q] ∧
  LoAt g n i j ∧ UpAt g n k q ∧ Best (g j - g i - 1, (j : Int) - i) (some (g q - g k + 1, (q : Int) - k)) a m ∧ Off g n a m b ∧ m ≤ 2000
def CrookAt (K : PySem.W.Frag) (H : Hp) (CC : Addr) (g : Nat → Int) (n : Nat) (p : Addr) : Prop := ∃ dx o h, ∃ i j k q : Nat, H p = some (.ins CC dx [("low", .ref o), ("high", .ref h)]) ∧ SqT K H o [.int i, .int j] ∧ SqT K H h [.int k, .int q] ∧
  LoAt g n i j ∧ UpAt g n k q ∧ ¬ (g j - g i - 1) * ((q : Int) - k) < (g q - g k + 1) * ((j : Int) - i)
theorem StairsAt.same {H H' : Hp} {CS CL p : Addr} {g : Nat → Int} {n : Nat} {a b m : Int} (e : Same H H') : StairsAt K H CS CL g n p a b m → StairsAt K H' CS CL g n p a b m :=
  fun ⟨dx, l, o, h, i, j, k, q, h1, h2, h3, h4, h5⟩ => ⟨dx, l, o, h, i, j, k, q, e _ _ h1, h2.same e, Same.tup e h3, Same.tup e h4, h5⟩
theorem CrookAt.same {H H' : Hp} {CC p : Addr} {g : Nat → Int} {n : Nat} (e : Same H H') : CrookAt K H CC g n p → CrookAt K H' CC g n p :=
  fun ⟨dx, o, h, i, j, k, q, h1, h3, h4, h5⟩ => ⟨dx, o, h, i, j, k, q, e _ _ h1, Same.tup e h3, Same.tup e h4, h5⟩
def spStairs (K : PySem.W.Frag) (CS CC CL : Addr) : Sp := fun vs H Q _ => ∃ (r : Addr) (g : Nat → Int) (n : Nat), vs = [.ref r] ∧ SqL K H r (rowL g n) ∧ 2 ≤ n ∧ n ≤ 200 ∧
  ∀ p H', Same H H' → ((∃ a b m, StairsAt K H' CS CL g n p a b m) ∨ CrookAt K H' CC g n p) → Q (.ref p) H'
structure PairI (K : PySem.W.Frag) (H : Hp) (n : Nat) (p : Addr) (i j : Nat) : Prop where
  t : SqT K H p [.int i, .int j]
  lt : i < j
  lj : j < n
theorem PairI.same {H H' : Hp} {n i j : Nat} {p : Addr} (e : Same H H') (z : PairI K H n p i j) : PairI K H' n p i j := ⟨Same.tup e z.t, z.lt, z.lj⟩
theorem ok_stairs_of {f f1 f2 f3 f4 f5 f6 f7 f8 CS CC CL : Addr} {fd fd1 fd2 fd3 fd4 fd5 fd6 fd7 fd8 : FuncData} (T : Nm mg) (C_below : Has P w K mg base "below" 1 ["one", "other"] (spBelow K) f1 fd1) (C_simplest_between : Has P w K mg base "simplest_between" 2 ["low", "high"] (spSimplest K) f2 fd2)
    (C_lower_bound : Has P w K mg base "lower_bound" 1 ["row", "pair"] (spBound K (-1)) f3 fd3) (C_upper_bound : Has P w K mg base "upper_bound" 1 ["row", "pair"] (spBound K 1) f4 fd4) (C_least_offset : Has P w K mg base "least_offset" 1 ["row", "a", "m"] (spOffset K) f5 fd5)
    (C_Line : Made P w K mg base "Line" 3 ["self", "a", "b", "m"] (spLineI CL) CL f6 fd6) (C_Stairs : Made P w K mg base "Stairs" 1 ["self", "line", "low", "high"] (spStairsI CS) CS f7 fd7) (C_Crooked : Made P w K mg base "Crooked" 1 ["self", "low", "high"] (spCrookI CC) CC f8 fd8)
    (F : Fun K "stairs_of" "stairs_of" s_stairs_of f fd) : FnOk P w K mg base CX0 5 f fd ["row"] (spStairs K CS CC CL) := by
  refine F.ok sc_stairs_of (fun vs H Q E h => ?_) (fun cdv A outer s H vs Q E hr h => ?_)
  · obtain ⟨r, g, n, rfl, _⟩ := h
    rfl
  · obtain ⟨r, g, n, rfl, hr', n2, n3, q⟩ := h
    have qS : ∀ p H' a b m, Same H H' → StairsAt K H' CS CL g n p a b m → Q (.ref p) H' := fun p H' a b m s z => q p H' s (.inl ⟨a, b, m, z⟩)
    have qC : ∀ p H', Same H H' → CrookAt K H' CC g n p → Q (.ref p) H' := fun p H' s z => q p H' s (.inr z)
    clear q
    refine ⟨_, (pss_cons (ps_asg2 (pe_tup (pa_cons pe_int (pa_cons pe_int pa_nil))) (pg_name (i := 1) sc_stairs_of.nd rfl (Or.inl rfl)) (pg_name (i := 2) sc_stairs_of.nd rfl (Or.inl rfl)))
    (pss_cons (ps_for PassesOwn.never rfl (pi_range2 rfl T.range (pa_cons pe_int (pa_cons (pe_callB call_lenL (by rfl) T.len (by decide +kernel) (pa_cons (pv 0) pa_nil)) pa_nil))) (pg_name (i := 3) sc_stairs_of.nd rfl (Or.inl rfl))
      (pss_one (ps_for PassesOwn.never rfl (pi_range1 rfl T.range (pa_cons (pv 3) pa_nil)) (pg_name (i := 4) sc_stairs_of.nd rfl (Or.inl rfl))
      (pss_cons (ps_set (i := 5) sc_stairs_of.nd rfl (Or.inl rfl) (pe_tup (pa_cons (pv 4) (pa_cons (pv 3) pa_nil))))
    (pss_cons (ps_if (pt_val (pe_call C_below.G (hr.mono (by decide)) (by rfl) C_below.g C_below.k C_below.b .nil pass0 (pa_cons (pe_call C_lower_bound.G (hr.mono (by decide)) (by rfl) C_lower_bound.g C_lower_bound.k C_lower_bound.b .nil pass0 (pa_cons (pv 0) (pa_cons (pv 1) pa_nil))) (pa_cons (pe_call C_lower_bound.G (hr.mono (by decide)) (by rfl) C_lower_bound.g C_lower_bound.k C_lower_bound.b .nil pass0 (pa_cons (pv 0) (pa_cons (pv 5) pa_nil))) pa_nil))))
      (pss_one (ps_set (i := 1) sc_stairs_of.nd rfl (Or.inl rfl) (pv 5)))
      pss_nil)
    (pss_one (ps_if (pt_val (pe_call C_below.G (hr.mono (by decide)) (by rfl) C_below.g C_below.k C_below.b .nil pass0 (pa_cons (pe_call C_upper_bound.G (hr.mono (by decide)) (by rfl) C_upper_bound.g C_upper_bound.k C_upper_bound.b .nil pass0 (pa_cons (pv 0) (pa_cons (pv 5) pa_nil))) (pa_cons (pe_call C_upper_bound.G (hr.mono (by decide)) (by rfl) C_upper_bound.g C_upper_bound.k C_upper_bound.b .nil pass0 (pa_cons (pv 0) (pa_cons (pv 2) pa_nil))) pa_nil))))
      (pss_one (ps_set (i := 2) sc_stairs_of.nd rfl (Or.inl rfl) (pv 5)))
      pss_nil)))))))
    (pss_cons (ps_set (i := 6) sc_stairs_of.nd rfl (Or.inl rfl) (pe_call C_lower_bound.G (hr.mono (by decide)) (by rfl) C_lower_bound.g C_lower_bound.k C_lower_bound.b .nil pass0 (pa_cons (pv 0) (pa_cons (pv 1) pa_nil))))
    (pss_cons (ps_set (i := 7) sc_stairs_of.nd rfl (Or.inl rfl) (pe_call C_upper_bound.G (hr.mono (by decide)) (by rfl) C_upper_bound.g C_upper_bound.k C_upper_bound.b .nil pass0 (pa_cons (pv 0) (pa_cons (pv 2) pa_nil))))
    (pss_cons (ps_if (pt_not (pt_val (pe_call C_below.G (hr.mono (by decide)) (by rfl) C_below.g C_below.k C_below.b .nil pass0 (pa_cons (pv 6) (pa_cons (pv 7) pa_nil)))))
      (pss_one (ps_ret (pe_make C_Crooked.M C_Crooked.G (hr.mono (by decide)) (by rfl) C_Crooked.g C_Crooked.b .nil pass0 (pa_cons (pv 1) (pa_cons (pv 2) pa_nil)))))
      pss_nil)
    (pss_cons (ps_asg (pe_call C_simplest_between.G (hr.mono (by decide)) (by rfl) C_simplest_between.g C_simplest_between.k C_simplest_between.b .nil pass0 (pa_cons (pv 6) (pa_cons (pv 7) pa_nil))) (pg_tup rfl (pgs_cons (pg_name (i := 8) sc_stairs_of.nd rfl (Or.inl rfl)) (pgs_cons (pg_name (i := 9) sc_stairs_of.nd rfl (Or.inl rfl)) pgs_nil))))
    (pss_one (ps_ret (pe_make C_Stairs.M C_Stairs.G (hr.mono (by decide)) (by rfl) C_Stairs.g C_Stairs.b .nil pass0 (pa_cons (pe_make C_Line.M C_Line.G (hr.mono (by decide)) (by rfl) C_Line.g C_Line.b .nil pass0 (pa_cons (pv 8) (pa_cons (pe_call C_least_offset.G (hr.mono (by decide)) (by rfl) C_least_offset.g C_least_offset.k C_least_offset.b .nil pass0 (pa_cons (pv 0) (pa_cons (pv 8) (pa_cons (pv 9) pa_nil)))) (pa_cons (pv 9) pa_nil)))) (pa_cons (pv 1) (pa_cons (pv 2) pa_nil)))))))))))), ?_⟩
    refine ⟨by show 2 ≤ sizeLine; decide, fun t0 nt0 => ?_⟩
    have s0 := same_upd (o := .tup [.int 0, .int 1]) nt0
    have p0 : PairI K (upd H t0 (.tup [.int 0, .int 1])) n t0 0 1 := ⟨.inl (.inl upd_same), by omega, by omega⟩
    generalize upd H t0 (.tup [.int 0, .int 1]) = H0 at *
    -- the greatest and the least bound
    refine ⟨_, rfl, r, _, rfl, s0.seq hr', 1, _, rfl, ⟨by decide, by decide, by omega, by rw [rowL_len]; omega⟩, for_range (lo := 1) (n := (((rowL g n).length : Int) - 1).toNat) (fun i σ H' => Same H H' ∧ ∃ al ah, ∃ i0 j0 i1 j1 : Nat, ∃ y3 y4 y5, σ = [some (.ref r), some (.ref al), some (.ref ah), y3, y4, y5, none, none, none, none] ∧
      PairI K H' n al i0 j0 ∧ PairI K H' n ah i1 j1 ∧ LoB g (Upto (i + 1) 0) i0 j0 ∧ UpB g (Upto (i + 1) 0) i1 j1) ⟨s0, t0, t0, 0, 1, 0, 1, none, none, none, rfl, p0, p0, ?_, ?_⟩ ?_ ?_⟩
    · intro i' j' h
      unfold Upto at h
      omega
    · intro i' j' h
      unfold Upto at h
      omega
    · rintro i σ H1 hi ⟨s1, al, ah, i0, j0, i1, j1, y3, y4, y5, rfl, hal, hah, bl, bu⟩
      rw [rowL_len] at hi
      have eL : (1 : Int) + (i : Int) = ((i + 1 : Nat) : Int) := by omega
      refine ⟨_, rfl, _, rfl, by omega, by omega, for_range (n := (1 + (i : Int)).toNat) (fun u σ H' => Same H H' ∧ ∃ al ah, ∃ i0 j0 i1 j1 : Nat, ∃ y4 y5, σ = [some (.ref r), some (.ref al), some (.ref ah), some (.int (1 + (i : Int))), y4, y5, none, none, none, none] ∧
        PairI K H' n al i0 j0 ∧ PairI K H' n ah i1 j1 ∧ LoB g (Upto (i + 1) u) i0 j0 ∧ UpB g (Upto (i + 1) u) i1 j1) ⟨s1, al, ah, i0, j0, i1, j1, y4, y5, rfl, hal, hah, bl, bu⟩ ?_ ?_⟩
      · clear hal hah bl bu s1
        rintro u σ H2 hu ⟨s2, al, ah, i0, j0, i1, j1, y4, y5, rfl, hal, hah, bl, bu⟩
        have eU : (0 : Int) + (u : Int) = (u : Int) := by omega
        refine ⟨_, rfl, _, rfl, by show 2 ≤ sizeLine; decide, fun tp np => ?_⟩
        have s3 := same_upd (o := .tup [.int (0 + (u : Int)), .int (1 + (i : Int))]) np
        have hp : PairI K (upd H2 tp (.tup [.int (0 + (u : Int)), .int (1 + (i : Int))])) n tp u (i + 1) := ⟨.inl (.inl (by rw [upd_same, eU, eL])), by omega, by omega⟩
        generalize upd H2 tp (.tup [.int (0 + (u : Int)), .int (1 + (i : Int))]) = H3 at *
        have hal := hal.same s3
        have hah := hah.same s3
        have s30 := s2.trans s3
        clear s2 s3
        have s3 := s30
        clear s30
        -- the lower ones
        dsimp only [gName]
        refine sTest_via (fun b H4 => Same H3 H4 ∧ (b = true ↔ (g j0 - g i0 - 1) * (((i + 1 : Nat) : Int) - u) < (g (i + 1) - g u - 1) * ((j0 : Int) - i0))) (fun Q' k => ?_) ?_
        · refine ⟨_, rfl, _, rfl, r, al, g, n, i0, j0, rfl, s3.seq hr', hal.t, by have := hal.lt; have := hal.lj; omega, hal.lj, fun ta H4 s4 h4 => ?_⟩
          refine ⟨_, rfl, _, rfl, r, tp, g, n, u, i + 1, rfl, (s3.trans s4).seq hr', Same.tup s4 hp.t, by omega, by omega, fun tb H5 s5 h5 => ?_⟩
          refine ⟨ta, tb, (g j0 - g i0 - 1, (j0 : Int) - i0), (g (i + 1) - g u - 1, ((i + 1 : Nat) : Int) - u), rfl, .inl (.inl (s5 _ _ h4)), .inl (.inl h5), ⟨by have := hal.lt; have := hal.lj; show -(2 ^ 62) < (j0 : Int) - i0; omega, by have := hal.lt; have := hal.lj; show (j0 : Int) - i0 < 2 ^ 62; omega⟩, ⟨by show -(2 ^ 62) < ((i + 1 : Nat) : Int) - u; omega, by show ((i + 1 : Nat) : Int) - u < 2 ^ 62; omega⟩, ?_⟩
          exact ⟨_, rfl, k _ _ ⟨s4.trans s5, decide_eq_true_iff⟩⟩
        -- low, as it is or new
        have step : ∀ (lo : Addr) (i2 j2 : Nat) H4, Same H H4 → Same H3 H4 → PairI K H4 n lo i2 j2 → LoB g (Upto (i + 1) (u + 1)) i2 j2 → PairI K H4 n ah i1 j1 → PairI K H4 n tp u (i + 1) →
            ∀ (D : Ends), (∀ H5 (hi' : Addr) (i3 j3 : Nat), Same H H5 → PairI K H5 n lo i2 j2 → PairI K H5 n hi' i3 j3 → UpB g (Upto (i + 1) (u + 1)) i3 j3 → D.nx [some (.ref r), some (.ref lo), some (.ref hi'), some (.int (1 + (i : Int))), some (.int (0 + (u : Int))), some (.ref tp), none, none, none, none] H5) →
            tIfS (tB (tCall (spBelow K) [] E0 (tCons (tCall (spBound K 1) [] E0 (tCons (tVar 0) (tCons (tVar 5) tNil))) (tCons (tCall (spBound K 1) [] E0 (tCons (tVar 0) (tCons (tVar 2) tNil))) tNil)))) (tAsg (tVar 5) (gName 2)) tNext D
              [some (.ref r), some (.ref lo), some (.ref ah), some (.int (1 + (i : Int))), some (.int (0 + (u : Int))), some (.ref tp), none, none, none, none] H4 := by
          intro lo i2 j2 H4 sH s4 hlo hb hah hp D kD
          refine sLast_via (fun b H5 => Same H4 H5 ∧ (b = true ↔ (g (i + 1) - g u + 1) * ((j1 : Int) - i1) < (g j1 - g i1 + 1) * (((i + 1 : Nat) : Int) - u))) (fun Q' k => ?_) ?_
          · refine ⟨_, rfl, _, rfl, r, tp, g, n, u, i + 1, rfl, sH.seq hr', hp.t, by omega, by omega, fun ta H5 s5 h5 => ?_⟩
            refine ⟨_, rfl, _, rfl, r, ah, g, n, i1, j1, rfl, (sH.trans s5).seq hr', Same.tup s5 hah.t, by have := hah.lt; have := hah.lj; omega, hah.lj, fun tb H6 s6 h6 => ?_⟩
            refine ⟨ta, tb, (g (i + 1) - g u + 1, ((i + 1 : Nat) : Int) - u), (g j1 - g i1 + 1, (j1 : Int) - i1), rfl, .inl (.inl (s6 _ _ h5)), .inl (.inl h6), ⟨by show -(2 ^ 62) < ((i + 1 : Nat) : Int) - u; omega, by show ((i + 1 : Nat) : Int) - u < 2 ^ 62; omega⟩, ⟨by have := hah.lt; have := hah.lj; show -(2 ^ 62) < (j1 : Int) - i1; omega, by have := hah.lt; have := hah.lj; show (j1 : Int) - i1 < 2 ^ 62; omega⟩, ?_⟩
            exact ⟨_, rfl, k _ _ ⟨s5.trans s6, decide_eq_true_iff⟩⟩
          rintro b H5 ⟨s5, hb5⟩
          cases b with
          | true =>
            refine iteT ⟨_, rfl, kD H5 tp u (i + 1) (sH.trans s5) (hlo.same s5) (hp.same s5) (bu.move hah.lt (by omega) (hb5.mp rfl))⟩
          | false =>
            exact iteF (kD H5 ah i1 j1 (sH.trans s5) (hlo.same s5) (hah.same s5) (bu.stay fun z => nomatch hb5.mpr z))
        rintro b H4 ⟨s4, hb4⟩
        cases b with
        | true =>
          refine iteT ⟨_, rfl, ?_⟩
          exact step tp u (i + 1) H4 (s3.trans s4) s4 (hp.same s4) (bl.move hal.lt (by omega) (hb4.mp rfl)) (hah.same s4) (hp.same s4) _ fun H5 hi' i3 j3 sH h1 h2 h3 => ⟨sH, tp, hi', u, i + 1, i3, j3, _, _, rfl, h1, h2, bl.move hal.lt (by omega) (hb4.mp rfl), h3⟩
        | false =>
          refine iteF ?_
          have bl' := bl.stay fun z => nomatch hb4.mpr z
          exact step al i0 j0 H4 (s3.trans s4) s4 (hal.same s4) bl' (hah.same s4) (hp.same s4) _ fun H5 hi' i3 j3 sH h1 h2 h3 => ⟨sH, al, hi', i0, j0, i3, j3, _, _, rfl, h1, h2, bl', h3⟩
      · rintro σ H2 ⟨s2, al, ah, i0, j0, i1, j1, y4, y5, rfl, hal, hah, bl, bu⟩
        have eI : (1 + (i : Int)).toNat = i + 1 := by omega
        rw [eI] at bl bu
        exact ⟨s2, al, ah, i0, j0, i1, j1, _, _, _, rfl, hal, hah, fun i' j' h => bl i' j' (upto_row h), fun i' j' h => bu i' j' (upto_row h)⟩
    · rintro σ H1 ⟨s1, al, ah, i0, j0, i1, j1, y3, y4, y5, rfl, hal, hah, bl, bu⟩
      rw [rowL_len] at bl bu
      have lo : LoAt g n i0 j0 := ⟨hal.lt, hal.lj, fun i' j' h1 h2 => bl i' j' ⟨h1, .inl (by omega)⟩⟩
      have up : UpAt g n i1 j1 := ⟨hah.lt, hah.lj, fun i' j' h1 h2 => bu i' j' ⟨h1, .inl (by omega)⟩⟩
      clear bl bu
      have dl := hal.lt
      have el := hal.lj
      have dh := hah.lt
      have eh := hah.lj
      refine ⟨_, rfl, _, rfl, r, al, g, n, i0, j0, rfl, s1.seq hr', hal.t, by omega, by omega, fun ta H2 s2 h2 => ?_⟩
      have s02 := s1.trans s2
      refine ⟨_, rfl, _, rfl, r, ah, g, n, i1, j1, rfl, s02.seq hr', Same.tup s2 hah.t, by omega, by omega, fun tb H3 s3 h3 => ?_⟩
      have s03 := s02.trans s3
      have hal := hal.same (s2.trans s3)
      have hah := hah.same (s2.trans s3)
      have hta : SqT K H3 ta [.int (g j0 - g i0 - 1), .int ((j0 : Int) - i0)] := .inl (.inl (s3 _ _ h2))
      have htb : SqT K H3 tb [.int (g j1 - g i1 + 1), .int ((j1 : Int) - i1)] := .inl (.inl h3)
      refine ⟨_, rfl, _, rfl, ta, tb, (g j0 - g i0 - 1, (j0 : Int) - i0), (g j1 - g i1 + 1, (j1 : Int) - i1), rfl, hta, htb, ⟨by show -(2 ^ 62) < (j0 : Int) - i0; omega, by show (j0 : Int) - i0 < 2 ^ 62; omega⟩, ⟨by show -(2 ^ 62) < (j1 : Int) - i1; omega, by show (j1 : Int) - i1 < 2 ^ 62; omega⟩, ?_⟩
      refine ⟨_, rfl, ?_⟩
      by_cases lt : (g j0 - g i0 - 1) * ((j1 : Int) - i1) < (g j1 - g i1 + 1) * ((j0 : Int) - i0)
      · refine iteNS (c := (g j0 - g i0 - 1) * ((j1 : Int) - i1) < (g j1 - g i1 + 1) * ((j0 : Int) - i0)) lt ?_
        refine ⟨_, rfl, _, rfl, ta, tb, (g j0 - g i0 - 1, (j0 : Int) - i0), (g j1 - g i1 + 1, (j1 : Int) - i1), rfl, hta, htb, ⟨by show 0 < (j0 : Int) - i0; omega, by show (j0 : Int) - i0 ≤ 1000; omega, fun rr e => by cases e; exact ⟨by show 0 < (j1 : Int) - i1; omega, by show (j1 : Int) - i1 ≤ 1000; omega, lt⟩⟩, fun tp a m H4 s4 h4 bst => ?_⟩
        have m1 := bst.q1
        have m2 := bst.den (by show 0 < (j0 : Int) - i0; omega) (by show 0 < (j1 : Int) - i1; omega) lt
        have m3 : m ≤ 2000 := by
          have : m ≤ ((j0 : Int) - i0) + ((j1 : Int) - i1) := m2
          omega
        have s04 := s03.trans s4
        refine ⟨tp, _, rfl, .inl (.inl h4), rfl, _, _, rfl, _, _, rfl, rfl, ?_⟩
        refine ⟨_, rfl, _, rfl, _, rfl, _, rfl, r, a, m, g, n, rfl, s04.seq hr', by omega, by omega, ⟨by omega, by omega⟩, fun b H5 s5 off => ?_⟩
        refine ⟨_, rfl, fun x dx nx nd ne => ⟨x, dx, a, b, m, rfl, upd_same, m1, fun H6 k6 hx => ⟨rfl, ?_⟩⟩⟩
        have s6 := same_make nx nd ne k6
        have s46 := s4.trans (s5.trans s6)
        refine ⟨_, rfl, _, rfl, fun y dy ny ndy ney => ⟨y, dy, .ref x, .ref al, .ref ah, rfl, upd_same, fun H7 k7 hy => ⟨rfl, ?_⟩⟩⟩
        have s7 := same_make ny ndy ney k7
        exact qS y H7 a b m (s03.trans (s46.trans s7)) ⟨dy, x, al, ah, i0, j0, i1, j1, hy, ⟨dx, s7 _ _ hx⟩, Same.tup (s46.trans s7) hal.t, Same.tup (s46.trans s7) hah.t, lo, up, bst, off, m3⟩
      · refine iteN (c := (g j0 - g i0 - 1) * ((j1 : Int) - i1) < (g j1 - g i1 + 1) * ((j0 : Int) - i0)) lt ?_
        refine ⟨_, rfl, _, rfl, fun y dy ny ndy ney => ⟨y, dy, .ref al, .ref ah, rfl, upd_same, fun H7 k7 hy => ⟨rfl, ?_⟩⟩⟩
        have s7 := same_make ny ndy ney k7
        exact qC y H7 (s03.trans s7) ⟨dy, al, ah, i0, j0, i1, j1, hy, Same.tup s7 hal.t, Same.tup s7 hah.t, lo, up, lt⟩
end
end K50

namespace K50
open PySem PySem.Spec PyProof.Rows L2 My M50
local macro_rules | `(tactic| walk_at "side") => `(tactic| (first
  | assumption
  | (refine OkMod.mk ?_; omega)
  | (refine mulOkL ?_ ?_ <;> omega)
  | (refine mulOkR ?_ ?_ <;> omega)
  | (refine divOk ?_ ?_ <;> omega)))
local macro_rules | `(tactic| walk_at "rd") => `(tactic| (first
  | with_reducible refine ⟨_, rfl, ?_⟩
  | refine ⟨_, rfl, ?_⟩
  | refine ⟨_, _, rfl, rfl, ?_⟩
  | refine And.intro (by walk_at "side") ?_
  | refine ⟨_, _, rfl, asm (by assumption), ?_⟩
  | refine ⟨_, _, rfl, asm ?_⟩))
section
variable {P : Program} {w : World} {K : PySem.W.Frag} {mg : Str → Option Value} {base : Heap}

/-! ### stairs -/
theorem list_or {H : Hp} {a : Addr} {xs : List V} (h : SqL K H a xs) : ∃ t, TyX K H (.ref a) t ∧ PySem.W.kitAny K t [.type "list", .type "tuple"] = some true := by
  refine ⟨.type "list", ?_, kitAny_cons (b := true) (kit_ty (by decide +kernel)) (fun z => Bool.noConfusion z) fun _ => rfl⟩
  rcases h with (h | ⟨o, h⟩) | ⟨o, its, n, h, c, _⟩
  · exact .base (.lst h)
  · exact .base (.frz h)
  · exact .kList h c
theorem ok_stairs {f f1 f2 CS CC CL : Addr} {fd fd1 fd2 : FuncData} (T : Nm mg) (C_check_numbers : Has P w K mg base "check_numbers" 2 ["values"] (spCheckNums K) f1 fd1) (C_stairs_of : Has P w K mg base "stairs_of" 5 ["row"] (spStairs K CS CC CL) f2 fd2)
    (F : Fun K "stairs" "stairs" s_stairs f fd) : FnOk P w K mg base CX0 6 f fd ["row"] (spStairs K CS CC CL) := by
  obtain ⟨_, c_LEAST_MANY⟩ := T.LEAST_MANY
  obtain ⟨_, c_MOST_MANY_stairs⟩ := T.MOST_MANY_stairs
  refine F.ok sc_stairs (fun vs H Q E h => ?_) (fun cdv A outer s H vs Q E hr h => ?_)
  · obtain ⟨r, g, n, rfl, _⟩ := h
    rfl
  · obtain ⟨r, g, n, rfl, hr', n2, n3, q⟩ := h
    refine ⟨_, (pss_cons (ps_if (pt_not (pt_val (pe_callB call_isiT (by rfl) T.isinstance (by decide +kernel) (pa_cons (pv 0) (pa_cons (pe_tup (pa_cons (pe_ty (n := "list") (by rfl) T.list (by decide +kernel)) (pa_cons (pe_ty (n := "tuple") (by rfl) T.tuple (by decide +kernel)) pa_nil))) pa_nil)))))
      (pss_one ps_never)
      pss_nil)
    (pss_cons (ps_expr (pe_call C_check_numbers.G (hr.mono (by decide)) (by rfl) C_check_numbers.g C_check_numbers.k C_check_numbers.b .nil pass0 (pa_cons (pv 0) pa_nil)))
    (pss_cons (ps_if (PW.pt (pw_or (pt_cmpR op_lt (pe_callB call_lenL (by rfl) T.len (by decide +kernel) (pa_cons (pv 0) pa_nil)) (pe_glob (v := .int 2) rfl c_LEAST_MANY ⟨_, rfl⟩) (nomark _)) (pw_or1 (pt_cmpR op_gt (pe_callB call_lenL (by rfl) T.len (by decide +kernel) (pa_cons (pv 0) pa_nil)) (pe_glob (v := .int 200) rfl c_MOST_MANY_stairs ⟨_, rfl⟩) (nomark _)))))
      (pss_one ps_never)
      pss_nil)
    (pss_one (ps_ret (pe_call C_stairs_of.G (hr.mono (by decide)) (by rfl) C_stairs_of.g C_stairs_of.k C_stairs_of.b .nil pass0 (pa_cons (pv 0) pa_nil))))))), ?_⟩
    refine ⟨_, rfl, by show 2 ≤ sizeLine; decide, fun p np => ?_⟩
    have s1 := same_upd (o := .tup [.ty "list", .ty "tuple"]) np
    have hr1 := s1.seq hr'
    obtain ⟨t, ty, kt⟩ := list_or hr1
    refine ⟨_, p, _, t, _, true, rfl, upd_same, .cons (.ty _) (.cons (.ty _) .nil), ty, kt, true, rfl, iteF ?_⟩
    refine ⟨_, rfl, r, _, rfl, by rw [← rowL_ints]; exact hr1, ?_⟩
    refine ⟨_, rfl, r, _, rfl, hr1, _, _, rfl, rfl, _, rfl, ?_⟩
    rw [decide_eq_false (show ¬ (((rowL g n).length : Int) < 2) by rw [rowL_len]; omega)]
    refine iteF ?_
    refine ⟨_, rfl, r, _, rfl, hr1, _, _, rfl, rfl, _, rfl, ?_⟩
    rw [decide_eq_false (show ¬ ((200 : Int) < ((rowL g n).length : Int)) by rw [rowL_len]; omega)]
    refine iteF ?_
    exact ⟨_, rfl, r, g, n, rfl, hr1, n2, n3, fun p H' s2 z => q p H' (s1.trans s2) z⟩
/-! ### Spread -/
structure SpreadC (K : PySem.W.Frag) (C : Addr) : Prop where
  cl : Cls K C
  nt : NoAttr K C "ticks"
  ns : NoAttr K C "slots"
  na : NoAttr K C "ahead"
def SpreadAt (H : Hp) (C x : Addr) (t s a : Int) : Prop := ∃ dx, H x = some (.ins C dx [("ticks", .int t), ("slots", .int s), ("ahead", .int a)])
theorem SpreadAt.same {H H' : Hp} {C x : Addr} {a b m : Int} (e : Same H H') : SpreadAt H C x a b m → SpreadAt H' C x a b m := fun ⟨dx, h⟩ => ⟨dx, e _ _ h⟩
def spSpreadI (C : Addr) : Sp := fun vs H Q _ => ∃ x dx t s a, vs = [.ref x, .int t, .int s, .int a] ∧ H x = some (.ins C dx []) ∧ 1 ≤ t ∧ t ≤ s ∧ 0 ≤ a ∧ a ≤ s - 1 ∧ ∀ H', Keep x H H' → H' x = some (.ins C dx [("ticks", .int t), ("slots", .int s), ("ahead", .int a)]) → Q .non H'
theorem ok_SpreadI {f f1 f2 C : Addr} {fd fd1 fd2 : FuncData} (R : SpreadC K C) (C_check_numbers : Has P w K mg base "check_numbers" 2 ["values"] (spCheckNums K) f1 fd1) (C_check_between : Has P w K mg base "check_between" 3 ["least", "most", "value"] spCheckB f2 fd2)
    (F : Fun K "__init__" "Spread.__init__" s_Spread___init__ f fd) : FnOk P w K mg base CX0 4 f fd ["self", "ticks", "slots", "ahead"] (spSpreadI C) := by
  refine F.ok sc_Spread___init__ (fun vs H Q E h => ?_) (fun cdv A outer s H vs Q E hr h => ?_)
  · obtain ⟨x, dx, a, b, m, rfl, _⟩ := h
    rfl
  · obtain ⟨x, dx, t, s, a, rfl, hx, h1, h2, h3, h4, q⟩ := h
    refine ⟨_, (pss_cons (ps_expr (pe_call C_check_numbers.G (hr.mono (by decide)) (by rfl) C_check_numbers.g C_check_numbers.k C_check_numbers.b .nil pass0 (pa_cons (pe_lst (pa_cons (pv 1) (pa_cons (pv 2) (pa_cons (pv 3) pa_nil)))) pa_nil)))
    (pss_cons (ps_expr (pe_call C_check_between.G (hr.mono (by decide)) (by rfl) C_check_between.g C_check_between.k C_check_between.b .nil pass0 (pa_cons pe_int (pa_cons (pv 2) (pa_cons (pv 1) pa_nil)))))
    (pss_cons (ps_expr (pe_call C_check_between.G (hr.mono (by decide)) (by rfl) C_check_between.g C_check_between.k C_check_between.b .nil pass0 (pa_cons pe_int (pa_cons (pe_op op_sub (pv 2) pe_int) (pa_cons (pv 3) pa_nil)))))
    (pss_cons (ps_fld (pv 0) (pv 1) rfl)
    (pss_cons (ps_fld (pv 0) (pv 2) rfl)
    (pss_one (ps_fld (pv 0) (pv 3) rfl))))))), ?_⟩
    refine ⟨_, rfl, _, rfl, _, rfl, by show 3 ≤ sizeLine; decide, fun p np => ?_⟩
    refine ⟨p, [t, s, a], rfl, .inl (.inl upd_same), ?_⟩
    refine ⟨_, rfl, _, rfl, 1, s, t, rfl, h1, h2, ?_⟩
    refine ⟨_, rfl, _, _, rfl, rfl, _, rfl, 0, s - 1, a, rfl, h3, h4, ?_⟩
    have s1 := same_upd (o := .lst [.int t, .int s, .int a]) np
    have hx1 := s1 _ _ hx
    generalize upd H p (.lst [.int t, .int s, .int a]) = H1 at *
    refine ⟨_, rfl, _, rfl, x, C, dx, _, rfl, hx1, R.cl, R.nt, by show 0 < 1000; decide, ?_⟩
    refine ⟨_, rfl, _, rfl, x, C, dx, _, rfl, upd_same, R.cl, R.ns, by show 1 < 1000; decide, ?_⟩
    refine ⟨_, rfl, _, rfl, x, C, dx, _, rfl, upd_same, R.cl, R.na, by show 2 < 1000; decide, ?_⟩
    exact q _ ((Keep.of s1).trans ((Keep.upd x _ _).trans ((Keep.upd x _ _).trans (Keep.upd x _ _)))) upd_same
def spSpreadL (C CL : Addr) : Sp := fun vs H Q _ => ∃ p t s a, vs = [.ref p] ∧ SpreadAt H C p t s a ∧ 1 ≤ s ∧ ∀ x H', Same H H' → LineAt H' CL x t a s → Q (.ref x) H'
theorem ok_SpreadL {f f1 C CL : Addr} {fd fd1 : FuncData} (R : SpreadC K C) (C_Line : Made P w K mg base "Line" 3 ["self", "a", "b", "m"] (spLineI CL) CL f1 fd1) (F : Fun K "line" "Spread.line" s_Spread_line f fd) : FnOk P w K mg base CX0 5 f fd ["self"] (spSpreadL C CL) := by
  refine F.ok sc_Spread_line (fun vs H Q E h => ?_) (fun cdv A outer s H vs Q E hr h => ?_)
  · obtain ⟨p, t, s, a, rfl, _⟩ := h
    rfl
  · obtain ⟨p, t, s, a, rfl, ⟨dp, hp⟩, s1, q⟩ := h
    refine ⟨_, (pss_one (ps_ret (pe_make C_Line.M C_Line.G (hr.mono (by decide)) (by rfl) C_Line.g C_Line.b .nil pass0 (pa_cons (pe_fld (pv 0) rfl) (pa_cons (pe_fld (pv 0) rfl) (pa_cons (pe_fld (pv 0) rfl) pa_nil)))))), ?_⟩
    refine ⟨_, rfl, p, C, dp, _, _, rfl, hp, R.cl, R.nt, rfl, _, rfl, p, C, dp, _, _, rfl, hp, R.cl, R.na, rfl, _, rfl, p, C, dp, _, _, rfl, hp, R.cl, R.ns, rfl, fun x dx nx nd ne => ⟨x, dx, t, a, s, rfl, upd_same, s1, fun H' k hx => ⟨rfl, ?_⟩⟩⟩
    exact q x H' (same_make nx nd ne k) ⟨dx, hx⟩
def spSpreadM (C : Addr) : Sp := fun vs H Q _ => ∃ p t s a i j, vs = [.ref p, .int i, .int j] ∧ SpreadAt H C p t s a ∧ 1 ≤ s ∧ Med s ∧ Med i ∧ Med j ∧ ∀ H', Same H H' → Q (.int ((t * j + a) / s - (t * i + a) / s)) H'
theorem ok_SpreadM {f f1 f2 C CL : Addr} {fd fd1 fd2 : FuncData} (C_Spread_line : Mth P w K mg base C "line" 5 ["self"] (spSpreadL C CL) f1 fd1) (C_Line_at : Mth P w K mg base CL "at" 1 ["self", "x"] (spLineAt CL) f2 fd2) (F : Fun K "many" "Spread.many" s_Spread_many f fd) :
    FnOk P w K mg base CX0 6 f fd ["self", "first", "last"] (spSpreadM C) := by
  refine F.ok sc_Spread_many (fun vs H Q E h => ?_) (fun cdv A outer s H vs Q E hr h => ?_)
  · obtain ⟨p, t, s, a, i, j, rfl, _⟩ := h
    rfl
  · obtain ⟨p, t, s, a, i, j, rfl, ⟨dp, hp⟩, s1, ms, mi, mj, q⟩ := h
    refine ⟨_, (pss_cons (ps_set (i := 3) sc_Spread_many.nd rfl (Or.inl rfl) (pe_meth0 (pv 0) C_Spread_line.c C_Spread_line.m C_Spread_line.G (hr.mono (by decide)) C_Spread_line.b .nil pass0))
    (pss_one (ps_ret (pe_op op_sub (pe_meth (pv 3) C_Line_at.c C_Line_at.m C_Line_at.G (hr.mono (by decide)) C_Line_at.b .nil pass0 (pa_cons (pv 2) pa_nil)) (pe_meth (pv 3) C_Line_at.c C_Line_at.m C_Line_at.G (hr.mono (by decide)) C_Line_at.b .nil pass0 (pa_cons (pv 1) pa_nil)))))), ?_⟩
    refine ⟨_, rfl, p, dp, _, rfl, hp, rfl, p, t, s, a, rfl, ⟨dp, hp⟩, s1, fun x H' sH ⟨dx, hx⟩ => ?_⟩
    refine ⟨_, rfl, x, dx, _, rfl, hx, rfl, _, rfl, x, t, a, s, j, rfl, ⟨dx, hx⟩, s1, ms, mj, ?_⟩
    exact ⟨_, rfl, x, dx, _, rfl, hx, rfl, _, rfl, x, t, a, s, i, rfl, ⟨dx, hx⟩, s1, ms, mi, _, _, rfl, rfl, q H' sH⟩
def spSpreadH (C : Addr) : Sp := fun vs H Q _ => ∃ p t s a i, vs = [.ref p, .int i] ∧ SpreadAt H C p t s a ∧ 1 ≤ s ∧ Med s ∧ Med i ∧ Med (i + 1) ∧ ∀ (k : Bool) H', Same H H' → Q (.bl k) H'
theorem ok_SpreadH {f f1 C : Addr} {fd fd1 : FuncData} (C_Spread_many : Mth P w K mg base C "many" 6 ["self", "first", "last"] (spSpreadM C) f1 fd1) (F : Fun K "has" "Spread.has" s_Spread_has f fd) : FnOk P w K mg base CX0 7 f fd ["self", "slot"] (spSpreadH C) := by
  refine F.ok sc_Spread_has (fun vs H Q E h => ?_) (fun cdv A outer s H vs Q E hr h => ?_)
  · obtain ⟨p, t, s, a, i, rfl, _⟩ := h
    rfl
  · obtain ⟨p, t, s, a, i, rfl, ⟨dp, hp⟩, s1, ms, mi, mj, q⟩ := h
    refine ⟨_, (pss_one (ps_ret (pe_cmpR op_eq (pe_meth (pv 0) C_Spread_many.c C_Spread_many.m C_Spread_many.G (hr.mono (by decide)) C_Spread_many.b .nil pass0 (pa_cons (pv 1) (pa_cons (pe_op op_add (pv 1) pe_int) pa_nil))) pe_int (nomark _)))), ?_⟩
    refine ⟨_, rfl, p, dp, _, rfl, hp, rfl, _, rfl, _, rfl, _, _, rfl, rfl, p, t, s, a, i, i + 1, rfl, ⟨dp, hp⟩, s1, ms, mi, mj, fun H' sH => ?_⟩
    exact ⟨rfl, q _ H' sH⟩
/-! ### spread_of -/
structure Spr (H : Hp) (CP : Addr) (v : Nat → Int) (n : Nat) (p : Addr) (t s a : Int) : Prop where
  at_ : SpreadAt H CP p t s a
  t1 : 1 ≤ t
  ts : t ≤ s
  a0 : 0 ≤ a
  as : a < s
  s2 : s ≤ 2000
  line : ∀ x, x < n + 1 → (t * (x : Int) + a) / s = psum v x
  ones : (∃ i, i < n ∧ v i = 1) → LeastFit (psum v) (n + 1) t s ∧ Off (psum v) (n + 1) t s a
def spSpreadOf (K : PySem.W.Frag) (CP : Addr) : Sp := fun vs H Q _ => ∃ (r : Addr) (v : Nat → Int) (n : Nat), vs = [.ref r] ∧ SqL K H r (rowL v n) ∧ n ≤ 199 ∧ (∀ i, i < n → v i = 0 ∨ v i = 1) ∧
  ∀ u H', Same H H' → ((∃ p t s a, u = .ref p ∧ Spr H' CP v n p t s a) ∨ (u = .non ∧ ¬ ∃ a m, 1 ≤ m ∧ Fit (psum v) (n + 1) a m)) → Q u H'
theorem one_in {v : Nat → Int} {n : Nat} : inV (.int 1) (rowL v n) = true ↔ ∃ i, i < n ∧ v i = 1 := by
  unfold inV rowL
  rw [List.any_map, List.any_eq_true]
  constructor
  · rintro ⟨x, hx, h⟩
    exact ⟨x, List.mem_range.mp hx, beq_iff_eq.mp h⟩
  · rintro ⟨x, hx, h⟩
    exact ⟨x, List.mem_range.mpr hx, beq_iff_eq.mpr h⟩
theorem rowL_flat (v : Nat → Int) (n : Nat) : (rowL v n).all flatV = true := by
  unfold rowL
  rw [List.all_map, List.all_eq_true]
  exact fun _ _ => rfl
end
end K50

namespace K50
open PySem PySem.Spec PyProof.Rows L2 My M50
local macro_rules | `(tactic| walk_at "side") => `(tactic| (first
  | assumption
  | (refine OkMod.mk ?_; omega)
  | (refine mulOkL ?_ ?_ <;> omega)
  | (refine mulOkR ?_ ?_ <;> omega)
  | (refine divOk ?_ ?_ <;> omega)))
local macro_rules | `(tactic| walk_at "rd") => `(tactic| (first
  | with_reducible refine ⟨_, rfl, ?_⟩
  | refine ⟨_, rfl, ?_⟩
  | refine ⟨_, _, rfl, rfl, ?_⟩
  | refine And.intro (by walk_at "side") ?_
  | refine ⟨_, _, rfl, asm (by assumption), ?_⟩
  | refine ⟨_, _, rfl, asm ?_⟩))
section
variable {P : Program} {w : World} {K : PySem.W.Frag} {mg : Str → Option Value} {base : Heap}

theorem ok_spread_of {f f1 f2 f3 f4 f5 CS CC CL CP : Addr} {fd fd1 fd2 fd3 fd4 fd5 : FuncData} (T : Nm mg) (RL : LineC K CL) (RS : StairsC K CS) (C_is_between : Has P w K mg base "is_between" 2 ["least", "most", "value"] spBetween f1 fd1) (C_stairs_of : Has P w K mg base "stairs_of" 5 ["row"] (spStairs K CS CC CL) f2 fd2)
    (B_Stairs : Bol P w K mg base CS 1 (spBool true) f3 fd3) (B_Crooked : Bol P w K mg base CC 1 (spBool false) f4 fd4) (C_Spread : Made P w K mg base "Spread" 4 ["self", "ticks", "slots", "ahead"] (spSpreadI CP) CP f5 fd5)
    (F : Fun K "spread_of" "spread_of" s_spread_of f fd) : FnOk P w K mg base CX0 6 f fd ["row"] (spSpreadOf K CP) := by
  obtain ⟨_, c_MOST_MANY_spreads⟩ := T.MOST_MANY_spreads
  refine F.ok sc_spread_of (fun vs H Q E h => ?_) (fun cdv A outer s H vs Q E hr h => ?_)
  · obtain ⟨r, v, n, rfl, _⟩ := h
    rfl
  · obtain ⟨r, v, n, rfl, hr', n3, hv, q⟩ := h
    refine ⟨_, (pss_cons (ps_for PassesOwn.never rfl (pi_list (pv 0)) (pg_name (i := 1) sc_spread_of.nd rfl (Or.inl rfl))
      (pss_one (ps_if (pt_not (pt_val (pe_call C_is_between.G (hr.mono (by decide)) (by rfl) C_is_between.g C_is_between.k C_is_between.b .nil pass0 (pa_cons pe_int (pa_cons pe_int (pa_cons (pv 1) pa_nil))))))
      (pss_one ps_never)
      pss_nil)))
    (pss_cons (ps_if (pt_cmpR op_gt (pe_callB call_lenL (by rfl) T.len (by decide +kernel) (pa_cons (pv 0) pa_nil)) (pe_glob (v := .int 199) rfl c_MOST_MANY_spreads ⟨_, rfl⟩) (nomark _))
      (pss_one ps_never)
      pss_nil)
    (pss_cons (ps_if (pt_cmpR op_notIn_seq pe_int (pv 0) (by rfl))
      (pss_one (ps_ret (pe_make C_Spread.M C_Spread.G (hr.mono (by decide)) (by rfl) C_Spread.g C_Spread.b .nil pass0 (pa_cons pe_int (pa_cons (pe_op op_add (pe_callB call_lenL (by rfl) T.len (by decide +kernel) (pa_cons (pv 0) pa_nil)) pe_int) (pa_cons pe_int pa_nil))))))
      pss_nil)
    (pss_cons (ps_set (i := 2) sc_spread_of.nd rfl (Or.inl rfl) (pe_lst (pa_cons pe_int pa_nil)))
    (pss_cons (ps_for PassesOwn.never rfl (pi_list (pv 0)) (pg_name (i := 1) sc_spread_of.nd rfl (Or.inl rfl))
      (pss_one (ps_expr (pe_bm PySem.F.plainAttrs_list PySem.F.slot_list_append PySem.F.type_list_append mt_append (pv 2) (pa_cons (pe_op op_add (pe_ix ix_list (pv 2) (pe_un un_neg pe_int) (fun _ _ => rfl)) (pv 1)) pa_nil)))))
    (pss_cons (ps_set (i := 3) sc_spread_of.nd rfl (Or.inl rfl) (pe_call C_stairs_of.G (hr.mono (by decide)) (by rfl) C_stairs_of.g C_stairs_of.k C_stairs_of.b .nil pass0 (pa_cons (pv 2) pa_nil)))
    (pss_cons (ps_if (pt_not (pt_truthR (pv 3) (tru_or (tru_ins B_Stairs.M B_Stairs.G B_Stairs.b pass0 (hr.mono (by decide))) (tru_ins B_Crooked.M B_Crooked.G B_Crooked.b pass0 (hr.mono (by decide)))) (by intro _; rfl)))
      (pss_one (ps_ret pe_non))
      pss_nil)
    (pss_one (ps_ret (pe_make C_Spread.M C_Spread.G (hr.mono (by decide)) (by rfl) C_Spread.g C_Spread.b .nil pass0 (pa_cons (pe_fld (pe_fld (pv 3) rfl) rfl) (pa_cons (pe_fld (pe_fld (pv 3) rfl) rfl) (pa_cons (pe_fld (pe_fld (pv 3) rfl) rfl) pa_nil))))))))))))), ?_⟩
    have itm : ∀ {i : Nat} {x : V}, (rowL v n)[i]? = some x → i < n ∧ x = .int (v i) := fun {i x} e => by
      have hi : i < n := by
        have := (List.getElem?_eq_some_iff.mp e).1
        rw [rowL_len] at this
        exact this
      rw [rowL_at hi] at e
      exact ⟨hi, (Option.some.inj e).symm⟩
    refine ⟨_, rfl, r, rfl, ⟨_, hr'⟩, for_list (K := K) (a := r) (xs := rowL v n) (fun i σ H' => H' = H ∧ ∃ y, σ = [some (.ref r), y, none, none]) ⟨rfl, none, rfl⟩ (fun i σ H' _ ⟨e, _⟩ => e ▸ hr') ?_ ?_⟩
    · rintro i x σ H' hi ⟨rfl, y, rfl⟩
      obtain ⟨h1, rfl⟩ := itm hi
      have := hv i h1
      exact ⟨_, rfl, 0, 1, v i, rfl, by omega, by omega, true, rfl, iteF ⟨rfl, _, rfl⟩⟩
    rintro σ H' ⟨rfl, y, rfl⟩
    refine ⟨_, rfl, r, _, rfl, hr', _, _, rfl, rfl, _, rfl, ?_⟩
    rw [decide_eq_false (show ¬ ((199 : Int) < ((rowL v n).length : Int)) by rw [rowL_len]; omega)]
    refine iteF ?_
    refine ⟨_, rfl, r, rowL v n, rfl, .inl hr', rfl, rowL_flat v n, _, rfl, ?_⟩
    by_cases h1 : ∃ i, i < n ∧ v i = 1
    · rw [one_in.mpr h1]
      refine iteF ?_
      refine ⟨by show 1 ≤ sizeLine; decide, fun L nL => ?_⟩
      have s1 := same_upd (o := .lst [.int 0]) nL
      refine ⟨_, rfl, r, rfl, ⟨_, s1.seq hr'⟩, for_list (K := K) (a := r) (xs := rowL v n) (fun i σ H2 => Same H' H2 ∧ H2 L = some (.lst (rowL (psum v) (i + 1))) ∧ ∃ y, σ = [some (.ref r), y, some (.ref L), none]) ⟨s1, upd_same, y, rfl⟩ (fun i σ H2 _ ⟨e, _⟩ => e.seq hr') ?_ ?_⟩
      · rintro i x σ H2 hi ⟨s2, hL, y, rfl⟩
        obtain ⟨hin, rfl⟩ := itm hi
        have hlast : atI (rowL (psum v) (i + 1)) (-1) = some (.int (psum v i)) := by
          rw [rowL_snoc]
          exact atI_last _ _
        refine ⟨_, rfl, .inl ⟨rfl, _, .inl (.inl hL)⟩, _, rfl, _, rfl, L, _, _, _, rfl, rfl, .inl (.inl hL), hlast, _, rfl, _, _, rfl, rfl, L, _, _, rfl, rfl, hL, ?_, ?_⟩
        · rw [rowL_len]
          have : 1000 < sizeLine := by decide
          omega
        · refine ⟨same_keep nL s2 (Keep.upd L _ _), ?_, _, rfl⟩
          rw [upd_same, rowL_snoc (psum v) (i + 1)]
          rfl
      rintro σ H2 ⟨s2, hL, y, rfl⟩
      rw [rowL_len] at hL
      refine ⟨_, rfl, L, psum v, n + 1, rfl, .inl (.inl hL), ?_, by omega, fun p H3 s3 told => ?_⟩
      · obtain ⟨i, hi, _⟩ := h1
        omega
      rcases told with ⟨a, b, m, z⟩ | z
      · obtain ⟨dx, l, o, h, i, j, k, q', hp, ⟨dl, hl⟩, _, _, lo, up, bst, off, m2⟩ := z
        have lf := leastFit_of lo up bst
        have ok := spread_ok hv h1 lf off
        refine ⟨_, rfl, .inl ⟨p, dx, _, rfl, hp, .ref p, rfl, true, rfl, iteF ?_⟩⟩
        refine ⟨_, rfl, p, CS, dx, _, _, rfl, hp, RS.cl, RS.nl, rfl, l, CL, dl, _, _, rfl, hl, RL.cl, RL.na, rfl, ?_⟩
        refine ⟨_, rfl, p, CS, dx, _, _, rfl, hp, RS.cl, RS.nl, rfl, l, CL, dl, _, _, rfl, hl, RL.cl, RL.nm, rfl, ?_⟩
        refine ⟨_, rfl, p, CS, dx, _, _, rfl, hp, RS.cl, RS.nl, rfl, l, CL, dl, _, _, rfl, hl, RL.cl, RL.nb, rfl, ?_⟩
        refine fun x dx2 nx nd ne => ⟨x, dx2, a, m, b, rfl, upd_same, ok.1, ok.2.1, ok.2.2.1, ok.2.2.2, fun H4 k4 hx => ⟨rfl, ?_⟩⟩
        exact q _ H4 (s2.trans (s3.trans (same_make nx nd ne k4))) (.inl ⟨x, a, m, b, rfl, ⟨dx2, hx⟩, ok.1, ok.2.1, ok.2.2.1, by have := ok.2.2.2; omega, m2, fun x hx => line_ok lf.1 lf.2.1 off hx, fun _ => ⟨lf, off⟩⟩)
      · obtain ⟨dx, o, h, i, j, k, q', hp, _, _, lo, up, nlt⟩ := z
        refine ⟨_, rfl, .inr ⟨p, dx, _, rfl, hp, .ref p, rfl, false, rfl, iteT ?_⟩⟩
        exact q _ H3 (s2.trans s3) (.inr ⟨rfl, noFit_of lo up nlt⟩)
    · have e0 : inV (.int 1) (rowL v n) = false := by
        cases e : inV (.int 1) (rowL v n) with
        | false => rfl
        | true => exact absurd (one_in.mp e) h1
      rw [e0]
      refine iteT ?_
      refine ⟨_, rfl, r, _, rfl, hr', _, _, rfl, rfl, ?_⟩
      refine fun x dx2 nx nd ne => ⟨x, dx2, 1, _, 0, rfl, upd_same, by decide, by omega, by decide, by rw [rowL_len]; omega, fun H4 k4 hx => ⟨rfl, ?_⟩⟩
      rw [rowL_len] at hx
      have z0 : ∀ i, i < n → v i = 0 := fun i hi => (hv i hi).resolve_right fun e => h1 ⟨i, hi, e⟩
      refine q _ H4 (same_make nx nd ne k4) (.inl ⟨x, 1, (n : Int) + 1, 0, rfl, ⟨dx2, hx⟩, by decide, by omega, by decide, by omega, by omega, fun x hx => ?_, fun h => absurd h h1⟩)
      rw [psum_zero z0 x (by omega)]
      exact Int.ediv_eq_zero_of_lt (by omega) (by omega)
end
end K50

namespace K50
open PySem PySem.Spec PyProof.Rows L2 My M50
local macro_rules | `(tactic| walk_at "side") => `(tactic| (first
  | assumption
  | (refine OkMod.mk ?_; omega)
  | (refine mulOkL ?_ ?_ <;> omega)
  | (refine mulOkR ?_ ?_ <;> omega)
  | (refine divOk ?_ ?_ <;> omega)))
local macro_rules | `(tactic| walk_at "rd") => `(tactic| (first
  | with_reducible refine ⟨_, rfl, ?_⟩
  | refine ⟨_, rfl, ?_⟩
  | refine ⟨_, _, rfl, rfl, ?_⟩
  | refine And.intro (by walk_at "side") ?_
  | refine ⟨_, _, rfl, asm (by assumption), ?_⟩
  | refine ⟨_, _, rfl, asm ?_⟩))
section
variable {P : Program} {w : World} {K : PySem.W.Frag} {mg : Str → Option Value} {base : Heap}

/-! ### the law -/
def spLaw (K : PySem.W.Frag) : Sp := fun vs H Q _ => ∃ (a : Addr) (ns : List Int), vs = [.ref a] ∧ SqL K H a (ns.map V.int) ∧ ns.length ≤ 63 ∧ ∀ H', Q (.bl true) H'
theorem rowL_congr {g h : Nat → Int} {n : Nat} (e : ∀ k, k < n → g k = h k) : rowL g n = rowL h n := by
  unfold rowL
  refine List.map_congr_left fun k hk => ?_
  rw [e k (List.mem_range.mp hk)]
theorem rowL_set {g : Nat → Int} {n i : Nat} {x : Int} (hi : i < n) : (rowL g n).set i (.int x) = rowL (fun k => if k = i then x else g k) n := by
  apply List.ext_getElem?
  intro k
  rw [List.getElem?_set]
  by_cases h : i = k
  · subst h
    rw [if_pos rfl, rowL_len, if_pos hi, rowL_at hi, if_pos rfl]
  · rw [if_neg h]
    by_cases hk : k < n
    · rw [rowL_at hk, rowL_at hk, if_neg (Ne.symm h)]
    · rw [List.getElem?_eq_none (by rw [rowL_len]; omega), List.getElem?_eq_none (by rw [rowL_len]; omega)]
theorem rowL_tail (g : Nat → Int) (n : Nat) : cutV (rowL g (n + 1)) (some 1) none = rowL (fun k => g (k + 1)) n := by
  unfold cutV
  rw [rowL_len, HT.sIx_none, show HT.sIx (n + 1) 0 (some 1) = min 1 (n + 1) from HT.sIx_nat (n + 1) 0 1, show min 1 (n + 1) = 1 by omega]
  rw [List.take_of_length_le (by rw [List.length_drop, rowL_len]; omega)]
  apply List.ext_getElem?
  intro k
  rw [List.getElem?_drop]
  by_cases hk : k < n
  · rw [rowL_at hk, show 1 + k = k + 1 by omega, rowL_at (by omega)]
  · rw [List.getElem?_eq_none (by rw [rowL_len]; omega), List.getElem?_eq_none (by rw [rowL_len]; omega)]
theorem ints_eqv : ∀ ns : List Int, PyData.eqvAll (ns.map PyData.int) (ns.map PyData.int) = true
  | [] => rfl
  | n :: ns => by
    show ((n == n) && PyData.eqvAll (ns.map PyData.int) (ns.map PyData.int)) = true
    rw [ints_eqv ns]
    simp
theorem psum_raise (s : Int) (v : Nat → Int) : ∀ k : Nat, psum (fun k => s + v k) k = s * (k : Int) + psum v k
  | 0 => by
    show (0 : Int) = s * ((0 : Nat) : Int) + 0
    omega
  | k + 1 => by
    show psum (fun k => s + v k) k + (s + v k) = s * ((k + 1 : Nat) : Int) + (psum v k + v k)
    rw [psum_raise s v k]
    have : s * ((k + 1 : Nat) : Int) = s * (k : Int) + s := by
      rw [Int.natCast_add, Int.mul_add]
      omega
    omega
theorem sum_psum (g : Nat → Int) : ∀ n : Nat, ((List.range n).map g).sum = psum g n
  | 0 => rfl
  | n + 1 => by
    rw [List.range_succ, List.map_append, List.sum_append, sum_psum g n]
    show _ = psum g n + g n
    simp
theorem psum_lt {g : Nat → Int} {n : Nat} (h : ∀ k, k < n → 0 < g k) : ∀ {i j : Nat}, i ≤ j → j ≤ n → psum g i ≤ psum g j
  | i, j, hij, hj => by
    induction j with
    | zero =>
      have : i = 0 := by omega
      subst this
      exact Int.le_refl _
    | succ j ih =>
      by_cases e : i = j + 1
      · subst e
        exact Int.le_refl _
      · have := ih (by omega) (by omega)
        have := h j (by omega)
        show psum g i ≤ psum g j + g j
        omega
theorem rg7 {S : Int} (h0 : 0 < S) (h1 : S < 100000) : RgC 0 S 7 ((S - 1) / 7 + 1).toNat := by
  have e : Builtin.Range.rangeSize 0 S 7 = (S - 1) / 7 + 1 := by
    unfold Builtin.Range.rangeSize
    rw [if_pos (by decide), if_pos h0, Int.sub_zero]
  refine ⟨by decide, by decide, ?_, by rw [e]; omega⟩
  unfold Builtin.Range.small
  rw [e]
  simp only [Builtin.Range.rangeFitsLong, Bool.and_eq_true, Bool.or_eq_true, decide_eq_true_eq, beq_iff_eq, show ((7 : Int) > 0) = True by simp, if_true]
  omega
/-- the ways of a statement joined -/
theorem sJoin {c : TT} {t u v : TS} {D : Ends} {σ : L2.St} {H : Hp} (R : L2.St → Hp → Prop) (h : ∀ N : L2.St → Hp → Prop, (∀ σ' H', R σ' H' → N σ' H') → tIfS c t u { D with nx := N } σ H) (k : ∀ σ' H', R σ' H' → v D σ' H') : tSeq (tIfS c t u) v D σ H := h _ k
theorem ints3_eqv (i j k : Int) : PyData.eqv (.tuple [.int i, .int j, .int k]) (.tuple [.int i, .int j, .int k]) = true := by
  show ((i == i) && ((j == j) && ((k == k) && true))) = true
  simp
theorem ok_law {f f1 f2 f3 f4 f5 f6 f7 CS CC CL CP : Addr} {fd fd1 fd2 fd3 fd4 fd5 fd6 fd7 : FuncData} (T : Nm mg) (gS : mg "Stairs" = some (.ref CS)) (RL : LineC K CL) (RS : StairsC K CS) (RC : CrookC K CC) (RP : SpreadC K CP)
    (IS : ClsI K CS) (IC : ClsI K CC) (IO : ObjI K) (kCS : PySem.W.kitOne K (.ref CC) (.ref CS) = some false)
    (C__law_take : Has P w K mg base "_law_take" 2 ["draw", "many"] (spTake K) f1 fd1) (C_Spread : Made P w K mg base "Spread" 4 ["self", "ticks", "slots", "ahead"] (spSpreadI CP) CP f2 fd2) (C_Spread_has : Mth P w K mg base CP "has" 7 ["self", "slot"] (spSpreadH CP) f3 fd3)
    (C_stairs : Has P w K mg base "stairs" 6 ["row"] (spStairs K CS CC CL) f4 fd4) (C_spread_of : Has P w K mg base "spread_of" 6 ["row"] (spSpreadOf K CP) f5 fd5) (C_Line : Made P w K mg base "Line" 3 ["self", "a", "b", "m"] (spLineI CL) CL f6 fd6) (C_Line_at : Mth P w K mg base CL "at" 1 ["self", "x"] (spLineAt CL) f7 fd7)
    (F : Fun K "law" "law" s_law f fd) : FnOk P w K mg base CX0 8 f fd ["script"] (spLaw K) := by
  refine F.ok sc_law (fun vs H Q E h => ?_) (fun cdv A outer s H vs Q E hr h => ?_)
  · obtain ⟨a, ns, rfl, _⟩ := h
    rfl
  · obtain ⟨sc, ns, rfl, hS, hl, qq⟩ := h
    refine ⟨_, (pss_cons (ps_set (i := 1) sc_law.nd rfl (Or.inl rfl) (pe_lst (pa_cons (pv 0) (pa_cons pe_int pa_nil))))
    (pss_cons (ps_asg (pe_tup (pa_cons (pe_op op_add pe_int (pe_call C__law_take.G (hr.mono (by decide)) (by rfl) C__law_take.g C__law_take.k C__law_take.b .nil pass0 (pa_cons (pv 1) (pa_cons pe_int pa_nil)))) (pa_cons (pe_op op_add pe_int (pe_call C__law_take.G (hr.mono (by decide)) (by rfl) C__law_take.g C__law_take.k C__law_take.b .nil pass0 (pa_cons (pv 1) (pa_cons pe_int pa_nil)))) pa_nil))) (pg_tup rfl (pgs_cons (pg_name (i := 2) sc_law.nd rfl (Or.inr rfl)) (pgs_cons (pg_name (i := 3) sc_law.nd rfl (Or.inl rfl)) pgs_nil))))
    (pss_cons (ps_set (i := 4) sc_law.nd rfl (Or.inl rfl) (pe_op op_add pe_int (pe_call C__law_take.G (hr.mono (by decide)) (by rfl) C__law_take.g C__law_take.k C__law_take.b .nil pass0 (pa_cons (pv 1) (pa_cons pe_int pa_nil)))))
    (pss_cons (ps_set (i := 5) sc_law.nd rfl (Or.inr rfl) (pe_make C_Spread.M C_Spread.G (hr.mono (by decide)) (by rfl) C_Spread.g C_Spread.b .nil pass0 (pa_cons (pe_op op_add pe_int (pe_call C__law_take.G (hr.mono (by decide)) (by rfl) C__law_take.g C__law_take.k C__law_take.b .nil pass0 (pa_cons (pv 1) (pa_cons (pv 4) pa_nil)))) (pa_cons (pv 4) (pa_cons (pe_call C__law_take.G (hr.mono (by decide)) (by rfl) C__law_take.g C__law_take.k C__law_take.b .nil pass0 (pa_cons (pv 1) (pa_cons (pv 4) pa_nil))) pa_nil)))))
    (pss_cons (ps_setLc (i := 6) (own := [("slot", 15)]) (g := gName 15) (by rfl) sc_law.nd rfl rfl (sw_true rfl rfl rfl (by decide +kernel)) (pi_range1 rfl T.range (pa_cons (pv 3) pa_nil)) (by exact blkOk_by (N := ["script", "draw", "short", "many", "slots", "some", "lengths", "at", "sums", "length", "told", "spread", "line", "day", "found", "slot", "x", "one"]) (sc := defScope s_law) (by decide +kernel)) (fun _ _ _ _ _ => by exact (pg_name (i := 15) sc_law.nd rfl (Or.inl rfl))) (fun _ _ _ _ _ => pts_nil) (fun _ _ _ _ _ => (pe_op op_add (pv 2) (pe_callTy call_int1 (by rfl) T.int (by decide +kernel) (pa_cons (pe_meth (pv 5) C_Spread_has.c C_Spread_has.m C_Spread_has.G (hr.mono (by decide)) C_Spread_has.b .nil pass0 (pa_cons (pv 15) pa_nil)) pa_nil)))))
    (pss_cons (ps_if (pt_cmpR op_eq (pe_call C__law_take.G (hr.mono (by decide)) (by rfl) C__law_take.g C__law_take.k C__law_take.b .nil pass0 (pa_cons (pv 1) (pa_cons pe_int pa_nil))) pe_int (nomark _))
      (pss_cons (ps_set (i := 7) sc_law.nd rfl (Or.inl rfl) (pe_call C__law_take.G (hr.mono (by decide)) (by rfl) C__law_take.g C__law_take.k C__law_take.b .nil pass0 (pa_cons (pv 1) (pa_cons (pv 3) pa_nil))))
    (pss_one (ps_asg (pe_op op_sub (pe_op op_add (pe_op op_mulA pe_int (pv 2)) pe_int) (pe_ix ix_list (pv 6) (pv 7) (fun _ _ => rfl))) (pg_sub (pv 6) (pv 7) set_list))))
      pss_nil)
    (pss_cons (ps_set (i := 8) sc_law.nd rfl (Or.inl rfl) (pe_lst (pa_cons pe_int pa_nil)))
    (pss_cons (ps_for PassesOwn.never rfl (pi_list (pv 6)) (pg_name (i := 9) sc_law.nd rfl (Or.inl rfl))
      (pss_one (ps_expr (pe_bm PySem.F.plainAttrs_list PySem.F.slot_list_append PySem.F.type_list_append mt_append (pv 8) (pa_cons (pe_op op_add (pe_ix ix_list (pv 8) (pe_un un_neg pe_int) (fun _ _ => rfl)) (pv 9)) pa_nil)))))
    (pss_cons (ps_par (i := 10) (j := 11) (by rfl) sc_law.nd rfl rfl (by decide) rfl rfl (pa_cons (pe_call C_stairs.G (hr.mono (by decide)) (by rfl) C_stairs.g C_stairs.k C_stairs.b .nil pass0 (pa_cons (pv 8) pa_nil)) (pa_cons (pe_call C_spread_of.G (hr.mono (by decide)) (by rfl) C_spread_of.g C_spread_of.k C_spread_of.b .nil pass0 (pa_cons (pe_lc (own := [("length", 9)]) (g := gName 9) (by rfl) sc_law.nd (pi_list (pv 6)) (by exact blkOk_by (N := ["script", "draw", "short", "many", "slots", "some", "lengths", "at", "sums", "length", "told", "spread", "line", "day", "found", "slot", "x", "one"]) (sc := defScope s_law) (by decide +kernel)) (fun _ _ _ _ _ => by exact (pg_name (i := 9) sc_law.nd rfl (Or.inl rfl))) (fun _ _ _ _ _ => pts_nil) (fun _ _ _ _ _ => (pe_op op_sub (pv 9) (pv 2)))) pa_nil)) pa_nil)) (by rfl))
    (pss_cons (ps_if (pt_cmpR op_ne (pe_callB call_isi (by rfl) T.isinstance (by decide +kernel) (pa_cons (pv 10) (pa_cons (pe_glob (v := .ref CS) rfl gS rfl) pa_nil))) (pe_cmpR op_notN (pv 11) pe_non (nomark _)) (nomark _))
      (pss_one (ps_ret pe_bl))
      pss_nil)
    (pss_cons (ps_if (pt_cmpR op_isN (pv 11) pe_non (nomark _))
      (pss_one (ps_ret pe_bl))
      pss_nil)
    (pss_cons (ps_set (i := 12) sc_law.nd rfl (Or.inr rfl) (pe_make C_Line.M C_Line.G (hr.mono (by decide)) (by rfl) C_Line.g C_Line.b .nil pass0 (pa_cons (pe_op op_add (pe_fld (pv 11) rfl) (pe_op op_mulA (pv 2) (pe_fld (pv 11) rfl))) (pa_cons (pe_fld (pv 11) rfl) (pa_cons (pe_fld (pv 11) rfl) pa_nil)))))
    (pss_cons (ps_if (PW.pt (pw_or (pt_cmpR (op_neD hr.units) (pe_lc (own := [("x", 16)]) (g := gName 16) (by rfl) sc_law.nd (pi_range1 rfl T.range (pa_cons (pe_op op_add (pv 3) pe_int) pa_nil)) (by exact blkOk_by (N := ["script", "draw", "short", "many", "slots", "some", "lengths", "at", "sums", "length", "told", "spread", "line", "day", "found", "slot", "x", "one"]) (sc := defScope s_law) (by decide +kernel)) (fun _ _ _ _ _ => by exact (pg_name (i := 16) sc_law.nd rfl (Or.inl rfl))) (fun _ _ _ _ _ => pts_nil) (fun _ _ _ _ _ => (pe_meth (pv 12) C_Line_at.c C_Line_at.m C_Line_at.G (hr.mono (by decide)) C_Line_at.b .nil pass0 (pa_cons (pv 16) pa_nil)))) (pv 8) (nomark _)) (pw_or1 (pt_cmpR op_gt (pe_fld (pe_fld (pv 10) rfl) rfl) (pe_fld (pv 11) rfl) (nomark _)))))
      (pss_one (ps_ret pe_bl))
      pss_nil)
    (pss_cons (ps_if (PW.pt (pw_and (pt_cmpR op_gt (pe_callB (cr_sum rfl) (by rfl) T.sum (by decide +kernel) (pa_cons (pv 6) pa_nil)) (pe_op op_mulA (pv 2) (pv 3)) (nomark _)) (pw_and1 (pt_cmpR (op_neD hr.units) (pe_tup (pa_cons (pe_fld (pe_fld (pv 10) rfl) rfl) (pa_cons (pe_fld (pe_fld (pv 10) rfl) rfl) (pa_cons (pe_fld (pe_fld (pv 10) rfl) rfl) pa_nil)))) (pe_tup (pa_cons (pe_fld (pv 12) rfl) (pa_cons (pe_fld (pv 12) rfl) (pa_cons (pe_fld (pv 12) rfl) pa_nil)))) (nomark _)))))
      (pss_one (ps_ret pe_bl))
      pss_nil)
    (pss_cons (ps_for PassesOwn.never rfl (pi_range3 rfl T.range (pa_cons pe_int (pa_cons (pe_ix ix_list (pv 8) (pe_un un_neg pe_int) (fun _ _ => rfl)) (pa_cons pe_int pa_nil)))) (pg_name (i := 13) sc_law.nd rfl (Or.inr rfl))
      (pss_cons (ps_set (i := 14) sc_law.nd rfl (Or.inl rfl) (pe_callB call_lenL (by rfl) T.len (by decide +kernel) (pa_cons (pe_lc (own := [("one", 17)]) (g := gName 17) (by rfl) sc_law.nd (pi_list (pe_slice sl_list (pv 8) (po_some pe_int) po_none)) (by exact blkOk_by (N := ["script", "draw", "short", "many", "slots", "some", "lengths", "at", "sums", "length", "told", "spread", "line", "day", "found", "slot", "x", "one"]) (sc := defScope s_law) (by decide +kernel)) (fun _ _ _ _ _ => by exact (pg_name (i := 17) sc_law.nd rfl (Or.inl rfl))) (fun _ _ _ _ _ => (pts_one (pt_cmpR op_le (pv 17) (pv 13) (nomark _)))) (fun _ _ _ _ _ => (pv 17))) pa_nil)))
    (pss_one (ps_if (PW.pt (pw_or (pt_cmpR op_gt (pe_meth (pv 12) C_Line_at.c C_Line_at.m C_Line_at.G (hr.mono (by decide)) C_Line_at.b .nil pass0 (pa_cons (pv 14) pa_nil)) (pv 13) (nomark _)) (pw_or1 (pt_cmpR op_le (pe_meth (pv 12) C_Line_at.c C_Line_at.m C_Line_at.G (hr.mono (by decide)) C_Line_at.b .nil pass0 (pa_cons (pe_op op_add (pv 14) pe_int) pa_nil)) (pv 13) (nomark _)))))
      (pss_one (ps_ret pe_bl))
      pss_nil))))
    (pss_one (ps_ret pe_bl))))))))))))))))), ?_⟩
    refine ⟨_, rfl, (by show 2 ≤ sizeLine; decide), fun dr nd => ?_⟩
    have D0 : DrawAt K (upd H dr (.lst [.ref sc, .int 0])) dr sc ns := ⟨0, upd_same, (same_upd nd).seq hS, hl⟩
    clear hS nd
    revert D0
    generalize upd H dr (.lst [.ref sc, .int 0]) = H0
    intro D0
    -- short, many
    refine ⟨_, rfl, dr, sc, 4, ns, rfl, D0, by decide, fun r1 H1 r10 r11 K1 D1 => ?_⟩
    refine ⟨_, _, rfl, rfl, _, rfl, dr, sc, 30, ns, rfl, D1, by decide, fun r2 H2 r20 r21 K2 D2 => ?_⟩
    refine ⟨_, _, rfl, rfl, by show 2 ≤ sizeLine; decide, fun p3 n3 => ?_⟩
    have D3 := D2.same (same_upd (o := .tup [.int (28 + r1), .int (2 + r2)]) n3)
    refine ⟨p3, _, rfl, .inl (.inl upd_same), rfl, _, _, rfl, _, _, rfl, rfl, ?_⟩
    generalize upd H2 p3 (.tup [.int (28 + r1), .int (2 + r2)]) = H3 at *
    clear D0 D1 D2 K1 K2 n3
    -- slots, some
    refine ⟨_, rfl, dr, sc, 60, ns, rfl, D3, by decide, fun r4 H4 r40 r41 K4 D4 => ?_⟩
    refine ⟨_, _, rfl, rfl, ?_⟩
    refine ⟨_, rfl, _, rfl, dr, sc, 1 + r4, ns, rfl, D4, by omega, fun r5 H5 r50 r51 K5 D5 => ?_⟩
    refine ⟨_, _, rfl, rfl, _, rfl, _, rfl, _, rfl, dr, sc, 1 + r4, ns, rfl, D5, by omega, fun r6 H6 r60 r61 K6 D6 => ?_⟩
    refine fun x dx nx nd ne => ⟨x, dx, 1 + r5, 1 + r4, r6, rfl, upd_same, by omega, by omega, by omega, by omega, fun H7 k7 hx => ⟨rfl, ?_⟩⟩
    have D7 := D6.same (same_make nx nd ne k7)
    clear D3 D4 D5 D6 K4 K5 K6 k7 nx nd ne
    -- lengths
    dsimp only
    generalize hs : (28 : Int) + r1 = short
    have sh0 : 28 ≤ short := by omega
    have sh1 : short ≤ 31 := by omega
    obtain ⟨n, hn⟩ := Int.eq_ofNat_of_zero_le (show 0 ≤ 2 + r2 by omega)
    have n2 : 2 ≤ n := by omega
    have n3 : n ≤ 31 := by omega
    rw [hn]
    clear hs hn r10 r11 r20 r21
    have mS : Med (1 + r4) := ⟨by omega, by omega⟩
    refine ⟨_, rfl, _, rfl, by omega, by omega, fun L nL => lc_range (lo := 0) (n := (n : Int).toNat) (fun i H' => Same H7 H' ∧ ∃ v : Nat → Int, (∀ k, k < i → v k = 0 ∨ v k = 1) ∧ H' L = some (.lst (rowL (fun k => short + v k) i))) ⟨same_upd nL, fun _ => 0, fun k h => absurd h (by omega), upd_same⟩ ?_ ?_⟩
    · rintro i H8 hi ⟨s8, v, hv, hL⟩
      rw [Int.toNat_natCast] at hi
      refine ⟨rfl, tYes_in ?_⟩
      refine ⟨_, rfl, _, rfl, x, dx, _, rfl, s8 _ _ hx, rfl, _, rfl, x, 1 + r5, 1 + r4, r6, 0 + (i : Int), rfl, ⟨dx, s8 _ _ hx⟩, by omega, mS, ⟨by omega, by omega⟩, ⟨by omega, by omega⟩, fun b H9 s9 => ?_⟩
      refine .inr ⟨b, rfl, _, _, rfl, rfl, _, s9 _ _ hL, ?_, same_keep nL (s8.trans s9) (Keep.upd L _ _), fun k => if k = i then (if b then 1 else 0) else v k, fun k hk => ?_, ?_⟩
      · rw [rowL_len]
        have : 1000 < sizeLine := by decide
        omega
      · dsimp only
        by_cases e : k = i
        · rw [if_pos e]
          cases b
          · exact .inl rfl
          · exact .inr rfl
        · rw [if_neg e]
          exact hv k (by omega)
      · rw [upd_same, rowL_snoc]
        dsimp only
        rw [if_pos rfl, rowL_congr (g := fun k => short + (if k = i then (if b = true then 1 else 0) else v k)) (h := fun k => short + v k) fun k hk => by rw [if_neg (by omega)]]
    rintro H8 ⟨s8, v, hv, hL⟩
    rw [Int.toNat_natCast] at hv hL
    have D8 := D7.same s8
    clear D7 s8 hx nL
    -- one length changed
    dsimp only [gName]
    refine sJoin (fun σ' H' => ∃ (y7 : Option V) (v : Nat → Int), (∀ k, k < n → v k = 0 ∨ v k = 1) ∧ H' L = some (.lst (rowL (fun k => short + v k) n)) ∧ σ' = [some (.ref sc), some (.ref dr), some (.int short), some (.int n), some (.int (1 + r4)), some (.ref x), some (.ref L), y7, none, none, none, none, none, none, none, none, none, none]) (fun N hN => ?_) ?_
    · refine ⟨_, rfl, dr, sc, 3, ns, rfl, D8, by decide, fun r9 H9 r90 r91 K9 D9 => ?_⟩
      have nLd : L ≠ dr := by
        rintro rfl
        obtain ⟨k, hk, _⟩ := D8
        rw [hL] at hk
        have := congrArg (fun o => match o with | some (HO.lst (V.int _ :: _)) => true | _ => false) hk
        obtain ⟨m, rfl⟩ : ∃ m, n = m + 1 := ⟨n - 1, by omega⟩
        unfold rowL at this
        rw [List.range_succ_eq_map, List.map_cons] at this
        cases this
      have hL9 := K9 _ _ nLd hL
      refine ⟨rfl, _, rfl, ite2 (fun _ => ?_) (fun _ => ?_)⟩
      · refine ⟨_, rfl, _, rfl, dr, sc, n, ns, rfl, D9, by omega, fun r10 H10 r100 r101 K10 D10 => ?_⟩
        have hL10 := K10 _ _ nLd hL9
        obtain ⟨i, rfl⟩ := Int.eq_ofNat_of_zero_le r100
        have hi : i < n := by omega
        have hix : ixN (rowL (fun k => short + v k) n).length (i : Int) = some i := by
          unfold ixN
          rw [rowL_len, if_pos (by omega), if_pos (by omega), Int.toNat_natCast]
        refine ⟨_, rfl, _, _, rfl, rfl, mulOkL (by decide) (by decide), _, _, rfl, rfl, _, rfl, _, rfl, L, _, _, _, rfl, rfl, .inl (.inl hL10), atI_nat (rowL_at hi), _, _, rfl, rfl, ?_⟩
        refine ⟨_, rfl, _, rfl, L, _, _, i, rfl, rfl, hL10, hix, hN _ _ ⟨_, fun k => if k = i then 1 - v i else v k, fun k hk => ?_, ?_, rfl⟩⟩
        · dsimp only
          by_cases e : k = i
          · rw [if_pos e]
            have := hv i hi
            omega
          · rw [if_neg e]
            exact hv k hk
        · rw [upd_same]
          congr 2
          refine (rowL_set hi).trans (rowL_congr fun k hk => ?_)
          dsimp only
          by_cases e : k = i
          · rw [if_pos e, if_pos e]
            omega
          · rw [if_neg e, if_neg e]
      · exact hN _ _ ⟨_, v, hv, hL9, rfl⟩
    clear hv hL D8
    rintro σ H9 ⟨y7, v, hv, hL, rfl⟩
    -- sums
    refine ⟨by show 1 ≤ sizeLine; decide, fun M nM => ?_⟩
    have s0 := same_upd (o := .lst [.int 0]) nM
    refine ⟨_, rfl, L, rfl, ⟨_, .inl (.inl (s0 _ _ hL))⟩, for_list (K := K) (a := L) (xs := rowL (fun k => short + v k) n) (fun i σ H' => Same H9 H' ∧ H' M = some (.lst (rowL (psum fun k => short + v k) (i + 1))) ∧ ∃ y, σ = [some (.ref sc), some (.ref dr), some (.int short), some (.int n), some (.int (1 + r4)), some (.ref x), some (.ref L), y7, some (.ref M), y, none, none, none, none, none, none, none, none])
      ⟨s0, upd_same, none, rfl⟩ (fun i σ H' _ ⟨e, _⟩ => .inl (.inl (e _ _ hL))) ?_ ?_⟩
    · rintro i z σ H2 hi ⟨s2, hM, y, rfl⟩
      have hin : i < n := by
        have := (List.getElem?_eq_some_iff.mp hi).1
        rw [rowL_len] at this
        exact this
      rw [rowL_at hin] at hi
      obtain rfl := Option.some.inj hi
      have hlast : atI (rowL (psum fun k => short + v k) (i + 1)) (-1) = some (.int (psum (fun k => short + v k) i)) := by
        rw [rowL_snoc]
        exact atI_last _ _
      refine ⟨_, rfl, .inl ⟨rfl, _, .inl (.inl hM)⟩, _, rfl, _, rfl, M, _, _, _, rfl, rfl, .inl (.inl hM), hlast, _, rfl, _, _, rfl, rfl, M, _, _, rfl, rfl, hM, ?_, ?_⟩
      · rw [rowL_len]
        have : 1000 < sizeLine := by decide
        omega
      · refine ⟨same_keep nM s2 (Keep.upd M _ _), ?_, _, rfl⟩
        rw [upd_same, rowL_snoc (psum fun k => short + v k) (i + 1)]
        rfl
    rintro σ H10 ⟨s10, hM, y9, rfl⟩
    rw [rowL_len] at hM
    have hL := s10 _ _ hL
    clear s10 s0 nM
    have er : ∀ k, k < n + 1 → psum (fun k => short + v k) k = short * (k : Int) + psum v k := fun k _ => psum_raise short v k
    have gpos : ∀ k, k < n → 0 < short + v k := fun k hk => by
      have := hv k hk
      omega
    have eg : ∀ k, (fun k => short + v k) k = short + v k := fun _ => rfl
    have gsum := sum_psum (fun k => short + v k) n
    have gle : ∀ {i j : Nat}, i ≤ j → j ≤ n → psum (fun k => short + v k) i ≤ psum (fun k => short + v k) j := fun h1 h2 => psum_lt gpos h1 h2
    have gnext : ∀ k, psum (fun k => short + v k) (k + 1) = psum (fun k => short + v k) k + (short + v k) := fun _ => rfl
    have g0 : psum (fun k => short + v k) 0 = 0 := rfl
    refine ⟨_, rfl, M, psum fun k => short + v k, n + 1, rfl, .inl (.inl hM), by omega, by omega, fun p H11 s11 told => ?_⟩
    have hL := s11 _ _ hL
    have hM := s11 _ _ hM
    clear s11
    refine ⟨_, rfl, L, rfl, ⟨_, .inl (.inl hL)⟩, fun D nD => lc_list (xs := rowL (fun k => short + v k) n) (fun i H' => Same H11 H' ∧ H' D = some (.lst (rowL v i))) ⟨same_upd nD, upd_same⟩ (fun i H' _ z => .inl (.inl (z.1 _ _ hL))) ?_ ?_⟩
    · rintro i z H12 hi ⟨s12, hD⟩
      have hin : i < n := by
        have := (List.getElem?_eq_some_iff.mp hi).1
        rw [rowL_len] at this
        exact this
      rw [rowL_at hin] at hi
      obtain rfl := Option.some.inj hi
      refine ⟨rfl, tYes_in ?_⟩
      refine ⟨_, rfl, _, rfl, _, _, rfl, rfl, _, hD, ?_, same_keep nD s12 (Keep.upd D _ _), ?_⟩
      · rw [rowL_len]
        have : 1000 < sizeLine := by decide
        omega
      · rw [upd_same, rowL_snoc]
        have e : short + v i - short = v i := by omega
        show some (HO.lst (rowL v i ++ [.int (short + v i - short)])) = _
        rw [e]
    rintro H12 ⟨s12, hD⟩
    rw [rowL_len] at hD
    have hL := s12 _ _ hL
    have hM := s12 _ _ hM
    refine ⟨D, v, n, rfl, .inl (.inl hD), by omega, hv, fun u H13 s13 spr => ?_⟩
    have hL := s13 _ _ hL
    have hM := s13 _ _ hM
    have s3 := s12.trans s13
    clear hD s12 s13 nD
    refine ⟨_, _, rfl, ?_⟩
    have raise : ∀ {a m : Int}, Fit (psum fun k => short + v k) (n + 1) (a + short * m) m ↔ Fit (psum v) (n + 1) a m := fit_raise er
    rcases told with ⟨a, b, m, st⟩ | cr
    · have st := st.same s3
      obtain ⟨dx2, l, o, h, i0, j0, k0, q0, hp, ⟨dl, hl⟩, _, _, lo, up, bst, off, m2⟩ := st
      have lf := leastFit_of lo up bst
      rcases spr with ⟨q, t, s, ah, rfl, sp⟩ | ⟨rfl, nf⟩
      · obtain ⟨dq, hq⟩ := sp.at_
        refine ⟨_, rfl, _, _, _, _, _, rfl, .own CS, .base (.ins hp RS.cl IS.ha IO.hn IO.ht IS.hm), IS.own, _, rfl, rfl, rfl, _, rfl, iteNS (c := V.bl true = V.bl (!decide (V.ref q = V.non))) (by rw [decide_eq_false (fun h => nomatch h)]; rfl) ?_⟩
        refine ⟨_, rfl, rfl, false, rfl, iteF ?_⟩
        have s1 : 1 ≤ s := by
          have := sp.t1
          have := sp.ts
          omega
        have s2 := sp.s2
        -- line
        have mul1 : OkMul short s := mulOkL (by omega) (by omega)
        refine ⟨_, rfl, q, CP, dq, _, _, rfl, hq, RP.cl, RP.nt, rfl, _, rfl, _, rfl, q, CP, dq, _, _, rfl, hq, RP.cl, RP.ns, rfl, _, _, rfl, rfl, mul1, _, _, rfl, rfl, _, rfl, q, CP, dq, _, _, rfl, hq, RP.cl, RP.na, rfl, _, rfl, q, CP, dq, _, _, rfl, hq, RP.cl, RP.ns, rfl, ?_⟩
        refine fun y dy ny ndy ney => ⟨y, dy, t + short * s, ah, s, rfl, upd_same, s1, fun H14 k14 hy => ⟨rfl, ?_⟩⟩
        have s4 := same_make ny ndy ney k14
        have hL := s4 _ _ hL
        have hM := s4 _ _ hM
        have hp := s4 _ _ hp
        have hl := s4 _ _ hl
        have hq := s4 _ _ hq
        clear k14 ny ndy ney s4
        have lv : ∀ k : Nat, k < n + 1 → ((t + short * s) * (k : Int) + ah) / s = psum (fun k => short + v k) k := fun k hk => by
          have e := sp.line k hk
          have e2 : (t + short * s) * (k : Int) + ah = (t * (k : Int) + ah) + (short * (k : Int)) * s := by grind
          rw [e2, Int.add_mul_ediv_right _ _ (by omega), e, er k hk]
          omega
        have ms : Med s := ⟨by omega, by omega⟩
        -- its numbers
        refine ⟨_, rfl, _, _, rfl, rfl, _, rfl, by omega, by omega, fun D nD => lc_range (lo := 0) (n := ((n : Int) + 1).toNat) (fun i H' => Same H14 H' ∧ H' D = some (.lst (rowL (psum fun k => short + v k) i))) ⟨same_upd nD, upd_same⟩ ?_ ?_⟩
        · rintro i H15 hi ⟨s15, hD⟩
          have hi' : i < n + 1 := by omega
          refine ⟨rfl, tYes_in ?_⟩
          refine ⟨_, rfl, y, dy, _, rfl, s15 _ _ hy, rfl, _, rfl, y, t + short * s, ah, s, 0 + (i : Int), rfl, ⟨dy, s15 _ _ hy⟩, s1, ms, ⟨by omega, by omega⟩, _, hD, ?_, same_keep nD s15 (Keep.upd D _ _), ?_⟩
          · rw [rowL_len]
            have : 1000 < sizeLine := by decide
            omega
          · have e := lv i hi'
            rw [show (i : Int) = 0 + (i : Int) by omega] at e
            rw [upd_same, e, rowL_snoc]
        rintro H15 ⟨s15, hD⟩
        rw [show ((n : Int) + 1).toNat = n + 1 by omega, rowL_ints] at hD
        have hy := s15 _ _ hy
        have hL := s15 _ _ hL
        have hM := s15 _ _ hM
        have hp := s15 _ _ hp
        have hl := s15 _ _ hl
        have hq := s15 _ _ hq
        have hM2 := hM
        rw [rowL_ints] at hM2
        refine ⟨_, rfl, _, _, .lst (.inl (.inl hD)) (dpAll_ints _), .lst (.inl (.inl hM2)) (dpAll_ints _), PySem.W.ke_shaped_ints _, PySem.W.ke_shaped_ints _, false, ?_, iteF ?_⟩
        · show V.bl (!PyData.eqvAll _ _) = _
          rw [ints_eqv]
          rfl
        -- its m
        have fitG : Fit (psum fun k => short + v k) (n + 1) (t + short * s) s := fit_of_line s1 lv
        have ms2 : m ≤ s := (lf.2.2 _ _ s1 fitG).1
        refine ⟨_, rfl, p, CS, dx2, _, _, rfl, hp, RS.cl, RS.nl, rfl, l, CL, dl, _, _, rfl, hl, RL.cl, RL.nm, rfl, _, rfl, q, CP, dq, _, _, rfl, hq, RP.cl, RP.ns, rfl, _, _, rfl, rfl, _, rfl, ?_⟩
        rw [decide_eq_false (show ¬ s < m by omega)]
        refine iteF ?_
        -- the least numbers
        have hL2 : SqL K H15 L (((List.range n).map fun k => short + v k).map V.int) := by
          rw [← rowL_ints]
          exact .inl (.inl hL)
        dsimp only [tNext]
        refine sTest_via (fun b H16 => b = false ∧ Same H15 H16) (fun Q' k => ?_) ?_
        · refine ⟨_, rfl, L, _, rfl, hL2, _, rfl, _, rfl, _, _, rfl, rfl, mulOkL (by omega) (by omega), _, _, rfl, rfl, _, rfl, ?_⟩
          rw [gsum]
          by_cases more : short * (n : Int) < psum (fun k => short + v k) n
          · rw [decide_eq_true more]
            refine iteT ?_
            have h1 : ∃ i, i < n ∧ v i = 1 := by
              apply Classical.byContradiction
              intro no
              have z0 : ∀ i, i < n → v i = 0 := fun i hi => (hv i hi).resolve_right fun e => no ⟨i, hi, e⟩
              rw [er n (by omega), psum_zero z0 n (by omega)] at more
              omega
            obtain ⟨lfv, offv⟩ := sp.ones h1
            obtain ⟨rfl, rfl⟩ := lf.eq (leastFit_raise er lfv)
            obtain rfl := off.eq (off_raise er offv)
            refine ⟨_, rfl, p, CS, dx2, _, _, rfl, hp, RS.cl, RS.nl, rfl, l, CL, dl, _, _, rfl, hl, RL.cl, RL.nm, rfl, ?_⟩
            refine ⟨_, rfl, p, CS, dx2, _, _, rfl, hp, RS.cl, RS.nl, rfl, l, CL, dl, _, _, rfl, hl, RL.cl, RL.na, rfl, ?_⟩
            refine ⟨_, rfl, p, CS, dx2, _, _, rfl, hp, RS.cl, RS.nl, rfl, l, CL, dl, _, _, rfl, hl, RL.cl, RL.nb, rfl, by show 3 ≤ sizeLine; decide, fun t1 n1 => ?_⟩
            have s16 := same_upd (o := .tup [.int m, .int (t + short * m), .int b]) n1
            have h16 : upd H15 t1 (.tup [.int m, .int (t + short * m), .int b]) t1 = _ := upd_same
            generalize upd H15 t1 (.tup [.int m, .int (t + short * m), .int b]) = H16 at *
            have hy := s16 _ _ hy
            refine ⟨_, rfl, y, CL, dy, _, _, rfl, hy, RL.cl, RL.nm, rfl, _, rfl, y, CL, dy, _, _, rfl, hy, RL.cl, RL.na, rfl, _, rfl, y, CL, dy, _, _, rfl, hy, RL.cl, RL.nb, rfl, by show 3 ≤ sizeLine; decide, fun t2 n2' => ?_⟩
            have s17 := same_upd (o := .tup [.int m, .int (t + short * m), .int b]) n2'
            refine ⟨_, _, .tup (.inl (.inl (s17 _ _ h16))) (.cons (.int _) (.cons (.int _) (.cons (.int _) .nil))), .tup (.inl (.inl upd_same)) (.cons (.int _) (.cons (.int _) (.cons (.int _) .nil))), rfl, rfl, false, ?_, k _ _ ⟨rfl, s16.trans s17⟩⟩
            rw [ints3_eqv]
            rfl
          · rw [decide_eq_false more]
            exact iteF (k _ _ ⟨rfl, fun _ _ z => z⟩)
        rintro _ H16 ⟨rfl, s16⟩
        refine iteF ?_
        have hy := s16 _ _ hy
        have hM := s16 _ _ hM
        clear s16 hp hl hq hL hL2 hM2 hD s15 nD
        -- the days
        have S0 : 0 < psum (fun k => short + v k) n := by
          have a1 := gle (show 0 + 1 ≤ n by omega) (Nat.le_refl n)
          have a2 := gnext 0
          have a3 := gpos 0 (by omega)
          rw [g0] at a2
          omega
        have S1 : psum (fun k => short + v k) n < 100000 := by
          rw [er n (by omega)]
          have b1 : psum v n ≤ psum v 0 + ((n : Int) - ((0 : Nat) : Int)) := (psum_range hv (Nat.zero_le n) (Nat.le_refl n)).2
          have b2 : psum v 0 = 0 := rfl
          have b4 : (n : Int) ≤ 31 := by omega
          have b3 : short * (n : Int) ≤ 31 * 31 := Int.mul_le_mul sh1 b4 (by omega) (by decide)
          generalize short * (n : Int) = z at *
          rw [b2] at b1
          generalize psum v n = z2 at *
          omega
        have hlast : atI (rowL (psum fun k => short + v k) (n + 1)) (-1) = some (.int (psum (fun k => short + v k) n)) := by
          rw [rowL_snoc]
          exact atI_last _ _
        generalize hG : (psum fun k => short + v k) = G at *
        refine ⟨_, rfl, _, rfl, M, _, _, _, rfl, rfl, .inl (.inl hM), hlast, 0, G n, 7, _, rfl, rg7 S0 S1, for_rangeC (lo := 0) (c := 7) (n := ((G n - 1) / 7 + 1).toNat) (fun i σ H' => Same H16 H' ∧ ∃ y1 y2, σ = [some (.ref sc), some (.ref dr), some (.int short), some (.int n), some (.int (1 + r4)), some (.ref x), some (.ref L), y7, some (.ref M), y9, some (.ref p), some (.ref q), some (.ref y), y1, y2, none, none, none]) ⟨fun _ _ z => z, none, none, rfl⟩ ?_ ?_⟩
        · rintro i σ H17 hi ⟨s17, y1, y2, rfl⟩
          have hM := s17 _ _ hM
          have hy := s17 _ _ hy
          have d1 : (0 : Int) + (i : Int) * 7 < G n := by omega
          have d0 : (0 : Int) ≤ 0 + (i : Int) * 7 := by omega
          generalize (0 : Int) + (i : Int) * 7 = day at *
          refine ⟨_, rfl, 1, rfl, M, _, rfl, .inl (.inl hM), fun p5 n5 => ?_⟩
          rw [rowL_tail]
          have s18 := same_upd (o := .lst (rowL (fun k => G (k + 1)) n)) n5
          have h18 : upd H17 p5 (.lst (rowL (fun k => G (k + 1)) n)) p5 = _ := upd_same
          generalize upd H17 p5 (.lst (rowL (fun k => G (k + 1)) n)) = H18 at *
          refine ⟨p5, rfl, ⟨_, .inl (.inl h18)⟩, fun D nD => lc_list (xs := rowL (fun k => G (k + 1)) n) (fun i H' => Same H18 H' ∧ ∃ acc, H' D = some (.lst acc) ∧ acc.length ≤ i ∧ G acc.length ≤ day ∧ (acc.length < i → day < G (acc.length + 1))) ⟨same_upd nD, [], upd_same, Nat.le_refl _, by show G 0 ≤ day; rw [g0]; exact d0, fun h => absurd h (Nat.lt_irrefl _)⟩ (fun i H' _ z => .inl (.inl (z.1 _ _ h18))) ?_ ?_⟩
          · rintro i z H19 hi ⟨s19, acc, hD, c1, c2, c3⟩
            have hin : i < n := by
              have := (List.getElem?_eq_some_iff.mp hi).1
              rw [rowL_len] at this
              exact this
            rw [rowL_at hin] at hi
            obtain rfl := Option.some.inj hi
            refine ⟨rfl, ?_⟩
            have gi := gle (show acc.length ≤ i by omega) (by omega)
            refine ⟨_, rfl, _, rfl, _, _, rfl, rfl, _, rfl, ?_⟩
            by_cases hd : G (i + 1) ≤ day
            · rw [decide_eq_true hd]
              have ci : acc.length = i := by
                rcases Nat.lt_or_ge acc.length i with z | z
                · have a1 := c3 z
                  have a2 := gle (show acc.length + 1 ≤ i + 1 by omega) (by omega)
                  omega
                · omega
              refine iteT ⟨_, rfl, acc, hD, ?_, same_keep nD s19 (Keep.upd D _ _), acc ++ [.int (G (i + 1))], upd_same, ?_, ?_, ?_⟩
              · have : 1000 < sizeLine := by decide
                omega
              · rw [List.length_append]
                show acc.length + 1 ≤ i + 1
                omega
              · rw [List.length_append, ci]
                exact hd
              · rw [List.length_append]
                intro h
                have h : acc.length + 1 < i + 1 := h
                omega
            · rw [decide_eq_false hd]
              refine iteF ⟨s19, acc, hD, by omega, c2, fun h => ?_⟩
              by_cases z : acc.length = i
              · rw [z]
                omega
              · exact c3 (by omega)
          rintro H19 ⟨s19, acc, hD, c1, c2, c3⟩
          rw [rowL_len] at c1 c3
          have cn : acc.length < n := by
            rcases Nat.lt_or_ge acc.length n with z | z
            · exact z
            · have : acc.length = n := by omega
              rw [this] at c2
              omega
          have c4 := c3 cn
          have hy := s19 _ _ (s18 _ _ hy)
          refine ⟨D, acc, rfl, .inl (.inl hD), ?_⟩
          have e1 := lv acc.length (by omega)
          have e2 := lv (acc.length + 1) (by omega)
          have mc : Med (acc.length : Int) := ⟨by omega, by omega⟩
          have mc2 : Med ((acc.length : Int) + 1) := ⟨by omega, by omega⟩
          refine ⟨_, rfl, y, dy, _, rfl, hy, rfl, _, rfl, y, t + short * s, ah, s, (acc.length : Int), rfl, ⟨dy, hy⟩, s1, ms, mc, _, rfl, _, _, rfl, rfl, _, rfl, ?_⟩
          rw [decide_eq_false (show ¬ day < ((t + short * s) * (acc.length : Int) + ah) / s by rw [e1]; omega)]
          refine iteF ?_
          refine ⟨_, rfl, y, dy, _, rfl, hy, rfl, _, rfl, _, _, rfl, rfl, y, t + short * s, ah, s, (acc.length : Int) + 1, rfl, ⟨dy, hy⟩, s1, ms, mc2, _, rfl, _, _, rfl, rfl, _, rfl, ?_⟩
          rw [decide_eq_false (show ¬ ((t + short * s) * ((acc.length : Int) + 1) + ah) / s ≤ day by
            have e3 : ((acc.length + 1 : Nat) : Int) = (acc.length : Int) + 1 := by omega
            rw [e3] at e2
            rw [e2]
            omega)]
          exact iteF ⟨s17.trans (s18.trans s19), _, _, rfl⟩
        · rintro σ H17 _
          exact qq _
      · exfalso
        refine nf ⟨a - short * m, m, lf.1, raise.mp ?_⟩
        rw [Int.sub_add_cancel]
        exact lf.2.1
    · have cr := cr.same s3
      obtain ⟨dx2, o, h, i0, j0, k0, q0, hp, _, _, lo, up, nlt⟩ := cr
      have nf0 := noFit_of lo up nlt
      rcases spr with ⟨q, t, s, ah, rfl, sp⟩ | ⟨rfl, nf⟩
      · exfalso
        have s1 : 1 ≤ s := by
          have := sp.t1
          have := sp.ts
          omega
        exact nf0 ⟨t + short * s, s, s1, raise.mpr (fit_of_line s1 sp.line)⟩
      · refine ⟨_, rfl, _, _, _, _, _, rfl, .own CS, .base (.ins hp RC.cl IC.ha IO.hn IO.ht IC.hm), kCS, _, rfl, rfl, rfl, _, rfl, iteNS (c := V.bl false = V.bl (!decide (V.non = V.non))) rfl ?_⟩
        exact ⟨_, rfl, rfl, true, rfl, iteT (qq _)⟩
end
end K50

namespace K50
open PySem PySem.Spec PyProof.Rows L2 My
/-! ### what the top has written -/
open PySem.W PySem.Calls in
theorem all_mk {l : PySem.W.OpenLaw} {w : World} {K : PySem.W.Frag} {h : Heap} {mg : Str → Option Value} {fa C_Line_ C_Stairs_ C_Crooked_ C_Spread_ : Addr} (X : K.In h) (G : h.Ns mainGlobals mg) (hfa : mg "law" = some (.ref fa))
    {f_is_number : Addr} {od_is_number an_is_number : Option Addr} {sl_is_number : Array (Option Value)} {oc_is_number kV_is_number dc_is_number pm_is_number cd_is_number ct_is_number : Value}
    (a_is_number : PySem.W.nsIn K mainGlobals "is_number" = some (some (.ref f_is_number)))
    (l_is_number : K.lookup f_is_number = some ⟨oc_is_number, od_is_number, .func (PySem.W.fnOf "is_number" "is_number" (defArgs s_is_number) (defBody s_is_number) (defScope s_is_number) .none kV_is_number dc_is_number pm_is_number an_is_number cd_is_number ct_is_number), sl_is_number⟩)
    (c_is_number : PySem.W.codeIn K cd_is_number "is_number" = true)
    (k_is_number : PySem.W.keepIn K (.ref f_is_number) = true)
    {f_check_numbers : Addr} {od_check_numbers an_check_numbers : Option Addr} {sl_check_numbers : Array (Option Value)} {oc_check_numbers kV_check_numbers dc_check_numbers pm_check_numbers cd_check_numbers ct_check_numbers : Value}
    (a_check_numbers : PySem.W.nsIn K mainGlobals "check_numbers" = some (some (.ref f_check_numbers)))
    (l_check_numbers : K.lookup f_check_numbers = some ⟨oc_check_numbers, od_check_numbers, .func (PySem.W.fnOf "check_numbers" "check_numbers" (defArgs s_check_numbers) (defBody s_check_numbers) (defScope s_check_numbers) .none kV_check_numbers dc_check_numbers pm_check_numbers an_check_numbers cd_check_numbers ct_check_numbers), sl_check_numbers⟩)
    (c_check_numbers : PySem.W.codeIn K cd_check_numbers "check_numbers" = true)
    (k_check_numbers : PySem.W.keepIn K (.ref f_check_numbers) = true)
    {f_check_from : Addr} {od_check_from an_check_from : Option Addr} {sl_check_from : Array (Option Value)} {oc_check_from kV_check_from dc_check_from pm_check_from cd_check_from ct_check_from : Value}
    (a_check_from : PySem.W.nsIn K mainGlobals "check_from" = some (some (.ref f_check_from)))
    (l_check_from : K.lookup f_check_from = some ⟨oc_check_from, od_check_from, .func (PySem.W.fnOf "check_from" "check_from" (defArgs s_check_from) (defBody s_check_from) (defScope s_check_from) .none kV_check_from dc_check_from pm_check_from an_check_from cd_check_from ct_check_from), sl_check_from⟩)
    (c_check_from : PySem.W.codeIn K cd_check_from "check_from" = true)
    (k_check_from : PySem.W.keepIn K (.ref f_check_from) = true)
    {f_is_between : Addr} {od_is_between an_is_between : Option Addr} {sl_is_between : Array (Option Value)} {oc_is_between kV_is_between dc_is_between pm_is_between cd_is_between ct_is_between : Value}
    (a_is_between : PySem.W.nsIn K mainGlobals "is_between" = some (some (.ref f_is_between)))
    (l_is_between : K.lookup f_is_between = some ⟨oc_is_between, od_is_between, .func (PySem.W.fnOf "is_between" "is_between" (defArgs s_is_between) (defBody s_is_between) (defScope s_is_between) .none kV_is_between dc_is_between pm_is_between an_is_between cd_is_between ct_is_between), sl_is_between⟩)
    (c_is_between : PySem.W.codeIn K cd_is_between "is_between" = true)
    (k_is_between : PySem.W.keepIn K (.ref f_is_between) = true)
    {f_check_between : Addr} {od_check_between an_check_between : Option Addr} {sl_check_between : Array (Option Value)} {oc_check_between kV_check_between dc_check_between pm_check_between cd_check_between ct_check_between : Value}
    (a_check_between : PySem.W.nsIn K mainGlobals "check_between" = some (some (.ref f_check_between)))
    (l_check_between : K.lookup f_check_between = some ⟨oc_check_between, od_check_between, .func (PySem.W.fnOf "check_between" "check_between" (defArgs s_check_between) (defBody s_check_between) (defScope s_check_between) .none kV_check_between dc_check_between pm_check_between an_check_between cd_check_between ct_check_between), sl_check_between⟩)
    (c_check_between : PySem.W.codeIn K cd_check_between "check_between" = true)
    (k_check_between : PySem.W.keepIn K (.ref f_check_between) = true)
    {f_below : Addr} {od_below an_below : Option Addr} {sl_below : Array (Option Value)} {oc_below kV_below dc_below pm_below cd_below ct_below : Value}
    (a_below : PySem.W.nsIn K mainGlobals "below" = some (some (.ref f_below)))
    (l_below : K.lookup f_below = some ⟨oc_below, od_below, .func (PySem.W.fnOf "below" "below" (defArgs s_below) (defBody s_below) (defScope s_below) .none kV_below dc_below pm_below an_below cd_below ct_below), sl_below⟩)
    (c_below : PySem.W.codeIn K cd_below "below" = true)
    (k_below : PySem.W.keepIn K (.ref f_below) = true)
    {f_floor_of : Addr} {od_floor_of an_floor_of : Option Addr} {sl_floor_of : Array (Option Value)} {oc_floor_of kV_floor_of dc_floor_of pm_floor_of cd_floor_of ct_floor_of : Value}
    (a_floor_of : PySem.W.nsIn K mainGlobals "floor_of" = some (some (.ref f_floor_of)))
    (l_floor_of : K.lookup f_floor_of = some ⟨oc_floor_of, od_floor_of, .func (PySem.W.fnOf "floor_of" "floor_of" (defArgs s_floor_of) (defBody s_floor_of) (defScope s_floor_of) .none kV_floor_of dc_floor_of pm_floor_of an_floor_of cd_floor_of ct_floor_of), sl_floor_of⟩)
    (c_floor_of : PySem.W.codeIn K cd_floor_of "floor_of" = true)
    (k_floor_of : PySem.W.keepIn K (.ref f_floor_of) = true)
    {f_simplest_between : Addr} {od_simplest_between an_simplest_between : Option Addr} {sl_simplest_between : Array (Option Value)} {oc_simplest_between kV_simplest_between dc_simplest_between pm_simplest_between cd_simplest_between ct_simplest_between : Value}
    (a_simplest_between : PySem.W.nsIn K mainGlobals "simplest_between" = some (some (.ref f_simplest_between)))
    (l_simplest_between : K.lookup f_simplest_between = some ⟨oc_simplest_between, od_simplest_between, .func (PySem.W.fnOf "simplest_between" "simplest_between" (defArgs s_simplest_between) (defBody s_simplest_between) (defScope s_simplest_between) .none kV_simplest_between dc_simplest_between pm_simplest_between an_simplest_between cd_simplest_between ct_simplest_between), sl_simplest_between⟩)
    (c_simplest_between : PySem.W.codeIn K cd_simplest_between "simplest_between" = true)
    (k_simplest_between : PySem.W.keepIn K (.ref f_simplest_between) = true)
    {f_lower_bound : Addr} {od_lower_bound an_lower_bound : Option Addr} {sl_lower_bound : Array (Option Value)} {oc_lower_bound kV_lower_bound dc_lower_bound pm_lower_bound cd_lower_bound ct_lower_bound : Value}
    (a_lower_bound : PySem.W.nsIn K mainGlobals "lower_bound" = some (some (.ref f_lower_bound)))
    (l_lower_bound : K.lookup f_lower_bound = some ⟨oc_lower_bound, od_lower_bound, .func (PySem.W.fnOf "lower_bound" "lower_bound" (defArgs s_lower_bound) (defBody s_lower_bound) (defScope s_lower_bound) .none kV_lower_bound dc_lower_bound pm_lower_bound an_lower_bound cd_lower_bound ct_lower_bound), sl_lower_bound⟩)
    (c_lower_bound : PySem.W.codeIn K cd_lower_bound "lower_bound" = true)
    (k_lower_bound : PySem.W.keepIn K (.ref f_lower_bound) = true)
    {f_upper_bound : Addr} {od_upper_bound an_upper_bound : Option Addr} {sl_upper_bound : Array (Option Value)} {oc_upper_bound kV_upper_bound dc_upper_bound pm_upper_bound cd_upper_bound ct_upper_bound : Value}
    (a_upper_bound : PySem.W.nsIn K mainGlobals "upper_bound" = some (some (.ref f_upper_bound)))
    (l_upper_bound : K.lookup f_upper_bound = some ⟨oc_upper_bound, od_upper_bound, .func (PySem.W.fnOf "upper_bound" "upper_bound" (defArgs s_upper_bound) (defBody s_upper_bound) (defScope s_upper_bound) .none kV_upper_bound dc_upper_bound pm_upper_bound an_upper_bound cd_upper_bound ct_upper_bound), sl_upper_bound⟩)
    (c_upper_bound : PySem.W.codeIn K cd_upper_bound "upper_bound" = true)
    (k_upper_bound : PySem.W.keepIn K (.ref f_upper_bound) = true)
    {f_least_offset : Addr} {od_least_offset an_least_offset : Option Addr} {sl_least_offset : Array (Option Value)} {oc_least_offset kV_least_offset dc_least_offset pm_least_offset cd_least_offset ct_least_offset : Value}
    (a_least_offset : PySem.W.nsIn K mainGlobals "least_offset" = some (some (.ref f_least_offset)))
    (l_least_offset : K.lookup f_least_offset = some ⟨oc_least_offset, od_least_offset, .func (PySem.W.fnOf "least_offset" "least_offset" (defArgs s_least_offset) (defBody s_least_offset) (defScope s_least_offset) .none kV_least_offset dc_least_offset pm_least_offset an_least_offset cd_least_offset ct_least_offset), sl_least_offset⟩)
    (c_least_offset : PySem.W.codeIn K cd_least_offset "least_offset" = true)
    (k_least_offset : PySem.W.keepIn K (.ref f_least_offset) = true)
    {f_stairs : Addr} {od_stairs an_stairs : Option Addr} {sl_stairs : Array (Option Value)} {oc_stairs kV_stairs dc_stairs pm_stairs cd_stairs ct_stairs : Value}
    (a_stairs : PySem.W.nsIn K mainGlobals "stairs" = some (some (.ref f_stairs)))
    (l_stairs : K.lookup f_stairs = some ⟨oc_stairs, od_stairs, .func (PySem.W.fnOf "stairs" "stairs" (defArgs s_stairs) (defBody s_stairs) (defScope s_stairs) .none kV_stairs dc_stairs pm_stairs an_stairs cd_stairs ct_stairs), sl_stairs⟩)
    (c_stairs : PySem.W.codeIn K cd_stairs "stairs" = true)
    (k_stairs : PySem.W.keepIn K (.ref f_stairs) = true)
    {f_stairs_of : Addr} {od_stairs_of an_stairs_of : Option Addr} {sl_stairs_of : Array (Option Value)} {oc_stairs_of kV_stairs_of dc_stairs_of pm_stairs_of cd_stairs_of ct_stairs_of : Value}
    (a_stairs_of : PySem.W.nsIn K mainGlobals "stairs_of" = some (some (.ref f_stairs_of)))
    (l_stairs_of : K.lookup f_stairs_of = some ⟨oc_stairs_of, od_stairs_of, .func (PySem.W.fnOf "stairs_of" "stairs_of" (defArgs s_stairs_of) (defBody s_stairs_of) (defScope s_stairs_of) .none kV_stairs_of dc_stairs_of pm_stairs_of an_stairs_of cd_stairs_of ct_stairs_of), sl_stairs_of⟩)
    (c_stairs_of : PySem.W.codeIn K cd_stairs_of "stairs_of" = true)
    (k_stairs_of : PySem.W.keepIn K (.ref f_stairs_of) = true)
    {f_spread_of : Addr} {od_spread_of an_spread_of : Option Addr} {sl_spread_of : Array (Option Value)} {oc_spread_of kV_spread_of dc_spread_of pm_spread_of cd_spread_of ct_spread_of : Value}
    (a_spread_of : PySem.W.nsIn K mainGlobals "spread_of" = some (some (.ref f_spread_of)))
    (l_spread_of : K.lookup f_spread_of = some ⟨oc_spread_of, od_spread_of, .func (PySem.W.fnOf "spread_of" "spread_of" (defArgs s_spread_of) (defBody s_spread_of) (defScope s_spread_of) .none kV_spread_of dc_spread_of pm_spread_of an_spread_of cd_spread_of ct_spread_of), sl_spread_of⟩)
    (c_spread_of : PySem.W.codeIn K cd_spread_of "spread_of" = true)
    (k_spread_of : PySem.W.keepIn K (.ref f_spread_of) = true)
    {f__law_number : Addr} {od__law_number an__law_number : Option Addr} {sl__law_number : Array (Option Value)} {oc__law_number kV__law_number dc__law_number pm__law_number cd__law_number ct__law_number : Value}
    (a__law_number : PySem.W.nsIn K mainGlobals "_law_number" = some (some (.ref f__law_number)))
    (l__law_number : K.lookup f__law_number = some ⟨oc__law_number, od__law_number, .func (PySem.W.fnOf "_law_number" "_law_number" (defArgs s__law_number) (defBody s__law_number) (defScope s__law_number) .none kV__law_number dc__law_number pm__law_number an__law_number cd__law_number ct__law_number), sl__law_number⟩)
    (c__law_number : PySem.W.codeIn K cd__law_number "_law_number" = true)
    (k__law_number : PySem.W.keepIn K (.ref f__law_number) = true)
    {f__law_take : Addr} {od__law_take an__law_take : Option Addr} {sl__law_take : Array (Option Value)} {oc__law_take kV__law_take dc__law_take pm__law_take cd__law_take ct__law_take : Value}
    (a__law_take : PySem.W.nsIn K mainGlobals "_law_take" = some (some (.ref f__law_take)))
    (l__law_take : K.lookup f__law_take = some ⟨oc__law_take, od__law_take, .func (PySem.W.fnOf "_law_take" "_law_take" (defArgs s__law_take) (defBody s__law_take) (defScope s__law_take) .none kV__law_take dc__law_take pm__law_take an__law_take cd__law_take ct__law_take), sl__law_take⟩)
    (c__law_take : PySem.W.codeIn K cd__law_take "_law_take" = true)
    (k__law_take : PySem.W.keepIn K (.ref f__law_take) = true)
    {f_law : Addr} {od_law an_law : Option Addr} {sl_law : Array (Option Value)} {oc_law kV_law dc_law pm_law cd_law ct_law : Value}
    (a_law : PySem.W.nsIn K mainGlobals "law" = some (some (.ref f_law)))
    (l_law : K.lookup f_law = some ⟨oc_law, od_law, .func (PySem.W.fnOf "law" "law" (defArgs s_law) (defBody s_law) (defScope s_law) .none kV_law dc_law pm_law an_law cd_law ct_law), sl_law⟩)
    (c_law : PySem.W.codeIn K cd_law "law" = true)
    (k_law : PySem.W.keepIn K (.ref f_law) = true)
    (aC_Line : PySem.W.nsIn K mainGlobals "Line" = some (some (.ref C_Line_)))
    (aC_Stairs : PySem.W.nsIn K mainGlobals "Stairs" = some (some (.ref C_Stairs_)))
    (aC_Crooked : PySem.W.nsIn K mainGlobals "Crooked" = some (some (.ref C_Crooked_)))
    (aC_Spread : PySem.W.nsIn K mainGlobals "Spread" = some (some (.ref C_Spread_)))
    {f_Line___init__ : Addr} {od_Line___init__ an_Line___init__ : Option Addr} {sl_Line___init__ : Array (Option Value)} {oc_Line___init__ kV_Line___init__ dc_Line___init__ pm_Line___init__ cd_Line___init__ ct_Line___init__ : Value}
    (a_Line___init__ : PySem.W.findIn K (.ref C_Line_) "__init__" = some (some (.ref f_Line___init__)))
    (i_Line___init__ : PySem.W.isFn K (.ref f_Line___init__) = true)
    (l_Line___init__ : K.lookup f_Line___init__ = some ⟨oc_Line___init__, od_Line___init__, .func (PySem.W.fnOf "__init__" "Line.__init__" (defArgs s_Line___init__) (defBody s_Line___init__) (defScope s_Line___init__) .none kV_Line___init__ dc_Line___init__ pm_Line___init__ an_Line___init__ cd_Line___init__ ct_Line___init__), sl_Line___init__⟩)
    (c_Line___init__ : PySem.W.codeIn K cd_Line___init__ "Line.__init__" = true)
    (k_Line___init__ : PySem.W.keepIn K (.ref f_Line___init__) = true)
    {f_Line_at : Addr} {od_Line_at an_Line_at : Option Addr} {sl_Line_at : Array (Option Value)} {oc_Line_at kV_Line_at dc_Line_at pm_Line_at cd_Line_at ct_Line_at : Value}
    (a_Line_at : PySem.W.findIn K (.ref C_Line_) "at" = some (some (.ref f_Line_at)))
    (i_Line_at : PySem.W.isFn K (.ref f_Line_at) = true)
    (l_Line_at : K.lookup f_Line_at = some ⟨oc_Line_at, od_Line_at, .func (PySem.W.fnOf "at" "Line.at" (defArgs s_Line_at) (defBody s_Line_at) (defScope s_Line_at) .none kV_Line_at dc_Line_at pm_Line_at an_Line_at cd_Line_at ct_Line_at), sl_Line_at⟩)
    (c_Line_at : PySem.W.codeIn K cd_Line_at "Line.at" = true)
    (k_Line_at : PySem.W.keepIn K (.ref f_Line_at) = true)
    {f_Stairs___init__ : Addr} {od_Stairs___init__ an_Stairs___init__ : Option Addr} {sl_Stairs___init__ : Array (Option Value)} {oc_Stairs___init__ kV_Stairs___init__ dc_Stairs___init__ pm_Stairs___init__ cd_Stairs___init__ ct_Stairs___init__ : Value}
    (a_Stairs___init__ : PySem.W.findIn K (.ref C_Stairs_) "__init__" = some (some (.ref f_Stairs___init__)))
    (i_Stairs___init__ : PySem.W.isFn K (.ref f_Stairs___init__) = true)
    (l_Stairs___init__ : K.lookup f_Stairs___init__ = some ⟨oc_Stairs___init__, od_Stairs___init__, .func (PySem.W.fnOf "__init__" "Stairs.__init__" (defArgs s_Stairs___init__) (defBody s_Stairs___init__) (defScope s_Stairs___init__) .none kV_Stairs___init__ dc_Stairs___init__ pm_Stairs___init__ an_Stairs___init__ cd_Stairs___init__ ct_Stairs___init__), sl_Stairs___init__⟩)
    (c_Stairs___init__ : PySem.W.codeIn K cd_Stairs___init__ "Stairs.__init__" = true)
    (k_Stairs___init__ : PySem.W.keepIn K (.ref f_Stairs___init__) = true)
    {f_Stairs___bool__ : Addr} {od_Stairs___bool__ an_Stairs___bool__ : Option Addr} {sl_Stairs___bool__ : Array (Option Value)} {oc_Stairs___bool__ kV_Stairs___bool__ dc_Stairs___bool__ pm_Stairs___bool__ cd_Stairs___bool__ ct_Stairs___bool__ : Value}
    (a_Stairs___bool__ : PySem.W.findIn K (.ref C_Stairs_) "__bool__" = some (some (.ref f_Stairs___bool__)))
    (i_Stairs___bool__ : PySem.W.isFn K (.ref f_Stairs___bool__) = true)
    (l_Stairs___bool__ : K.lookup f_Stairs___bool__ = some ⟨oc_Stairs___bool__, od_Stairs___bool__, .func (PySem.W.fnOf "__bool__" "Stairs.__bool__" (defArgs s_Stairs___bool__) (defBody s_Stairs___bool__) (defScope s_Stairs___bool__) .none kV_Stairs___bool__ dc_Stairs___bool__ pm_Stairs___bool__ an_Stairs___bool__ cd_Stairs___bool__ ct_Stairs___bool__), sl_Stairs___bool__⟩)
    (c_Stairs___bool__ : PySem.W.codeIn K cd_Stairs___bool__ "Stairs.__bool__" = true)
    (k_Stairs___bool__ : PySem.W.keepIn K (.ref f_Stairs___bool__) = true)
    {f_Crooked___init__ : Addr} {od_Crooked___init__ an_Crooked___init__ : Option Addr} {sl_Crooked___init__ : Array (Option Value)} {oc_Crooked___init__ kV_Crooked___init__ dc_Crooked___init__ pm_Crooked___init__ cd_Crooked___init__ ct_Crooked___init__ : Value}
    (a_Crooked___init__ : PySem.W.findIn K (.ref C_Crooked_) "__init__" = some (some (.ref f_Crooked___init__)))
    (i_Crooked___init__ : PySem.W.isFn K (.ref f_Crooked___init__) = true)
    (l_Crooked___init__ : K.lookup f_Crooked___init__ = some ⟨oc_Crooked___init__, od_Crooked___init__, .func (PySem.W.fnOf "__init__" "Crooked.__init__" (defArgs s_Crooked___init__) (defBody s_Crooked___init__) (defScope s_Crooked___init__) .none kV_Crooked___init__ dc_Crooked___init__ pm_Crooked___init__ an_Crooked___init__ cd_Crooked___init__ ct_Crooked___init__), sl_Crooked___init__⟩)
    (c_Crooked___init__ : PySem.W.codeIn K cd_Crooked___init__ "Crooked.__init__" = true)
    (k_Crooked___init__ : PySem.W.keepIn K (.ref f_Crooked___init__) = true)
    {f_Crooked___bool__ : Addr} {od_Crooked___bool__ an_Crooked___bool__ : Option Addr} {sl_Crooked___bool__ : Array (Option Value)} {oc_Crooked___bool__ kV_Crooked___bool__ dc_Crooked___bool__ pm_Crooked___bool__ cd_Crooked___bool__ ct_Crooked___bool__ : Value}
    (a_Crooked___bool__ : PySem.W.findIn K (.ref C_Crooked_) "__bool__" = some (some (.ref f_Crooked___bool__)))
    (i_Crooked___bool__ : PySem.W.isFn K (.ref f_Crooked___bool__) = true)
    (l_Crooked___bool__ : K.lookup f_Crooked___bool__ = some ⟨oc_Crooked___bool__, od_Crooked___bool__, .func (PySem.W.fnOf "__bool__" "Crooked.__bool__" (defArgs s_Crooked___bool__) (defBody s_Crooked___bool__) (defScope s_Crooked___bool__) .none kV_Crooked___bool__ dc_Crooked___bool__ pm_Crooked___bool__ an_Crooked___bool__ cd_Crooked___bool__ ct_Crooked___bool__), sl_Crooked___bool__⟩)
    (c_Crooked___bool__ : PySem.W.codeIn K cd_Crooked___bool__ "Crooked.__bool__" = true)
    (k_Crooked___bool__ : PySem.W.keepIn K (.ref f_Crooked___bool__) = true)
    {f_Spread___init__ : Addr} {od_Spread___init__ an_Spread___init__ : Option Addr} {sl_Spread___init__ : Array (Option Value)} {oc_Spread___init__ kV_Spread___init__ dc_Spread___init__ pm_Spread___init__ cd_Spread___init__ ct_Spread___init__ : Value}
    (a_Spread___init__ : PySem.W.findIn K (.ref C_Spread_) "__init__" = some (some (.ref f_Spread___init__)))
    (i_Spread___init__ : PySem.W.isFn K (.ref f_Spread___init__) = true)
    (l_Spread___init__ : K.lookup f_Spread___init__ = some ⟨oc_Spread___init__, od_Spread___init__, .func (PySem.W.fnOf "__init__" "Spread.__init__" (defArgs s_Spread___init__) (defBody s_Spread___init__) (defScope s_Spread___init__) .none kV_Spread___init__ dc_Spread___init__ pm_Spread___init__ an_Spread___init__ cd_Spread___init__ ct_Spread___init__), sl_Spread___init__⟩)
    (c_Spread___init__ : PySem.W.codeIn K cd_Spread___init__ "Spread.__init__" = true)
    (k_Spread___init__ : PySem.W.keepIn K (.ref f_Spread___init__) = true)
    {f_Spread_line : Addr} {od_Spread_line an_Spread_line : Option Addr} {sl_Spread_line : Array (Option Value)} {oc_Spread_line kV_Spread_line dc_Spread_line pm_Spread_line cd_Spread_line ct_Spread_line : Value}
    (a_Spread_line : PySem.W.findIn K (.ref C_Spread_) "line" = some (some (.ref f_Spread_line)))
    (i_Spread_line : PySem.W.isFn K (.ref f_Spread_line) = true)
    (l_Spread_line : K.lookup f_Spread_line = some ⟨oc_Spread_line, od_Spread_line, .func (PySem.W.fnOf "line" "Spread.line" (defArgs s_Spread_line) (defBody s_Spread_line) (defScope s_Spread_line) .none kV_Spread_line dc_Spread_line pm_Spread_line an_Spread_line cd_Spread_line ct_Spread_line), sl_Spread_line⟩)
    (c_Spread_line : PySem.W.codeIn K cd_Spread_line "Spread.line" = true)
    (k_Spread_line : PySem.W.keepIn K (.ref f_Spread_line) = true)
    {f_Spread_has : Addr} {od_Spread_has an_Spread_has : Option Addr} {sl_Spread_has : Array (Option Value)} {oc_Spread_has kV_Spread_has dc_Spread_has pm_Spread_has cd_Spread_has ct_Spread_has : Value}
    (a_Spread_has : PySem.W.findIn K (.ref C_Spread_) "has" = some (some (.ref f_Spread_has)))
    (i_Spread_has : PySem.W.isFn K (.ref f_Spread_has) = true)
    (l_Spread_has : K.lookup f_Spread_has = some ⟨oc_Spread_has, od_Spread_has, .func (PySem.W.fnOf "has" "Spread.has" (defArgs s_Spread_has) (defBody s_Spread_has) (defScope s_Spread_has) .none kV_Spread_has dc_Spread_has pm_Spread_has an_Spread_has cd_Spread_has ct_Spread_has), sl_Spread_has⟩)
    (c_Spread_has : PySem.W.codeIn K cd_Spread_has "Spread.has" = true)
    (k_Spread_has : PySem.W.keepIn K (.ref f_Spread_has) = true)
    {f_Spread_many : Addr} {od_Spread_many an_Spread_many : Option Addr} {sl_Spread_many : Array (Option Value)} {oc_Spread_many kV_Spread_many dc_Spread_many pm_Spread_many cd_Spread_many ct_Spread_many : Value}
    (a_Spread_many : PySem.W.findIn K (.ref C_Spread_) "many" = some (some (.ref f_Spread_many)))
    (i_Spread_many : PySem.W.isFn K (.ref f_Spread_many) = true)
    (l_Spread_many : K.lookup f_Spread_many = some ⟨oc_Spread_many, od_Spread_many, .func (PySem.W.fnOf "many" "Spread.many" (defArgs s_Spread_many) (defBody s_Spread_many) (defScope s_Spread_many) .none kV_Spread_many dc_Spread_many pm_Spread_many an_Spread_many cd_Spread_many ct_Spread_many), sl_Spread_many⟩)
    (c_Spread_many : PySem.W.codeIn K cd_Spread_many "Spread.many" = true)
    (k_Spread_many : PySem.W.keepIn K (.ref f_Spread_many) = true)
    (pg_Line : PySem.W.plainGet K C_Line_ Str.empty = true)
    (hd_Line : PySem.W.hasDictIn K C_Line_ = true)
    (po_Line : PySem.W.plainOver K C_Line_ = true)
    (sa_Line : PySem.W.findIn K (.ref C_Line_) "__setattr__" = some (some (.builtin "object.__setattr__")))
    (mk_Line : PySem.W.makesIn K C_Line_ = true)
    (kc_Line : PySem.W.keepIn K (.ref C_Line_) = true)
    (n_Line_a : PySem.W.findIn K (.ref C_Line_) "a" = some none)
    (n_Line_b : PySem.W.findIn K (.ref C_Line_) "b" = some none)
    (n_Line_m : PySem.W.findIn K (.ref C_Line_) "m" = some none)
    (pg_Stairs : PySem.W.plainGet K C_Stairs_ Str.empty = true)
    (hd_Stairs : PySem.W.hasDictIn K C_Stairs_ = true)
    (po_Stairs : PySem.W.plainOver K C_Stairs_ = true)
    (sa_Stairs : PySem.W.findIn K (.ref C_Stairs_) "__setattr__" = some (some (.builtin "object.__setattr__")))
    (mk_Stairs : PySem.W.makesIn K C_Stairs_ = true)
    (kc_Stairs : PySem.W.keepIn K (.ref C_Stairs_) = true)
    (n_Stairs_line : PySem.W.findIn K (.ref C_Stairs_) "line" = some none)
    (n_Stairs_low : PySem.W.findIn K (.ref C_Stairs_) "low" = some none)
    (n_Stairs_high : PySem.W.findIn K (.ref C_Stairs_) "high" = some none)
    (pg_Crooked : PySem.W.plainGet K C_Crooked_ Str.empty = true)
    (hd_Crooked : PySem.W.hasDictIn K C_Crooked_ = true)
    (po_Crooked : PySem.W.plainOver K C_Crooked_ = true)
    (sa_Crooked : PySem.W.findIn K (.ref C_Crooked_) "__setattr__" = some (some (.builtin "object.__setattr__")))
    (mk_Crooked : PySem.W.makesIn K C_Crooked_ = true)
    (kc_Crooked : PySem.W.keepIn K (.ref C_Crooked_) = true)
    (n_Crooked_low : PySem.W.findIn K (.ref C_Crooked_) "low" = some none)
    (n_Crooked_high : PySem.W.findIn K (.ref C_Crooked_) "high" = some none)
    (pg_Spread : PySem.W.plainGet K C_Spread_ Str.empty = true)
    (hd_Spread : PySem.W.hasDictIn K C_Spread_ = true)
    (po_Spread : PySem.W.plainOver K C_Spread_ = true)
    (sa_Spread : PySem.W.findIn K (.ref C_Spread_) "__setattr__" = some (some (.builtin "object.__setattr__")))
    (mk_Spread : PySem.W.makesIn K C_Spread_ = true)
    (kc_Spread : PySem.W.keepIn K (.ref C_Spread_) = true)
    (n_Spread_ticks : PySem.W.findIn K (.ref C_Spread_) "ticks" = some none)
    (n_Spread_slots : PySem.W.findIn K (.ref C_Spread_) "slots" = some none)
    (n_Spread_ahead : PySem.W.findIn K (.ref C_Spread_) "ahead" = some none)
    (ha_Stairs : PySem.W.findIn K (.ref C_Stairs_) "__class__" = some (some (.builtin "object.__class__")))
    (hm_Stairs : PySem.W.mroIn K C_Stairs_ (.type "object") = some true)
    (own_Stairs : PySem.W.kitOne K (.ref C_Stairs_) (.ref C_Stairs_) = some true)
    (ha_Crooked : PySem.W.findIn K (.ref C_Crooked_) "__class__" = some (some (.builtin "object.__class__")))
    (hm_Crooked : PySem.W.mroIn K C_Crooked_ (.type "object") = some true)
    (own_Crooked : PySem.W.kitOne K (.ref C_Crooked_) (.ref C_Crooked_) = some true)
    (hn_ : PySem.W.specialIn K (.builtin "object.__class__") "__get__" = some (some (.builtin "getset_descriptor.__get__")))
    (ht_ : PySem.W.takesIn K (.builtin "object.__class__") = some true)
    (kCS : PySem.W.kitOne K (.ref C_Crooked_) (.ref C_Stairs_) = some false)
    (z_len : PySem.W.nsIn K mainGlobals "len" = some none)
    (z_range : PySem.W.nsIn K mainGlobals "range" = some none)
    (z_int : PySem.W.nsIn K mainGlobals "int" = some none)
    (z_bool : PySem.W.nsIn K mainGlobals "bool" = some none)
    (z_isinstance : PySem.W.nsIn K mainGlobals "isinstance" = some none)
    (z_list : PySem.W.nsIn K mainGlobals "list" = some none)
    (z_tuple : PySem.W.nsIn K mainGlobals "tuple" = some none)
    (z_max : PySem.W.nsIn K mainGlobals "max" = some none)
    (z_sum : PySem.W.nsIn K mainGlobals "sum" = some none)
    (z_enumerate : PySem.W.nsIn K mainGlobals "enumerate" = some none)
    {t_LEAST_MANY : Tok}
    (z_LEAST_MANY : PySem.W.nsIn K mainGlobals "LEAST_MANY" = some (some (.int 2 t_LEAST_MANY)))
    {t_MOST_MANY_stairs : Tok}
    (z_MOST_MANY_stairs : PySem.W.nsIn K mainGlobals "MOST_MANY_stairs" = some (some (.int 200 t_MOST_MANY_stairs)))
    {t_MOST_MANY_spreads : Tok}
    (z_MOST_MANY_spreads : PySem.W.nsIn K mainGlobals "MOST_MANY_spreads" = some (some (.int 199 t_MOST_MANY_spreads)))
    : ∃ fd : FuncData, (∀ (s : Shared) (v : Value), BindsTo s fd ⟨[v], []⟩ [("script", v)]) ∧ ∀ base : Heap, K.In base → base.Ns mainGlobals mg → FnOk l.prog w K mg base CX0 8 fa fd ["script"] (spLaw K) := by
  have e := hfa.symm.trans (PySem.W.mg_of X G a_law)
  cases e
  have F_is_number := fun_mk (st := s_is_number) l_is_number c_is_number k_is_number
  have b_is_number := F_is_number.binds (ps := ["value"]) fun _ _ _ _ _ _ us hl => match us, hl with | [_], _ => rfl
  have g_is_number := PySem.W.mg_of X G a_is_number
  have F_check_numbers := fun_mk (st := s_check_numbers) l_check_numbers c_check_numbers k_check_numbers
  have b_check_numbers := F_check_numbers.binds (ps := ["values"]) fun _ _ _ _ _ _ us hl => match us, hl with | [_], _ => rfl
  have g_check_numbers := PySem.W.mg_of X G a_check_numbers
  have F_check_from := fun_mk (st := s_check_from) l_check_from c_check_from k_check_from
  have b_check_from := F_check_from.binds (ps := ["least", "value"]) fun _ _ _ _ _ _ us hl => match us, hl with | [_, _], _ => rfl
  have g_check_from := PySem.W.mg_of X G a_check_from
  have F_is_between := fun_mk (st := s_is_between) l_is_between c_is_between k_is_between
  have b_is_between := F_is_between.binds (ps := ["least", "most", "value"]) fun _ _ _ _ _ _ us hl => match us, hl with | [_, _, _], _ => rfl
  have g_is_between := PySem.W.mg_of X G a_is_between
  have F_check_between := fun_mk (st := s_check_between) l_check_between c_check_between k_check_between
  have b_check_between := F_check_between.binds (ps := ["least", "most", "value"]) fun _ _ _ _ _ _ us hl => match us, hl with | [_, _, _], _ => rfl
  have g_check_between := PySem.W.mg_of X G a_check_between
  have F_below := fun_mk (st := s_below) l_below c_below k_below
  have b_below := F_below.binds (ps := ["one", "other"]) fun _ _ _ _ _ _ us hl => match us, hl with | [_, _], _ => rfl
  have g_below := PySem.W.mg_of X G a_below
  have F_floor_of := fun_mk (st := s_floor_of) l_floor_of c_floor_of k_floor_of
  have b_floor_of := F_floor_of.binds (ps := ["fraction"]) fun _ _ _ _ _ _ us hl => match us, hl with | [_], _ => rfl
  have g_floor_of := PySem.W.mg_of X G a_floor_of
  have F_simplest_between := fun_mk (st := s_simplest_between) l_simplest_between c_simplest_between k_simplest_between
  have b_simplest_between := F_simplest_between.binds (ps := ["low", "high"]) fun _ _ _ _ _ _ us hl => match us, hl with | [_, _], _ => rfl
  have g_simplest_between := PySem.W.mg_of X G a_simplest_between
  have F_lower_bound := fun_mk (st := s_lower_bound) l_lower_bound c_lower_bound k_lower_bound
  have b_lower_bound := F_lower_bound.binds (ps := ["row", "pair"]) fun _ _ _ _ _ _ us hl => match us, hl with | [_, _], _ => rfl
  have g_lower_bound := PySem.W.mg_of X G a_lower_bound
  have F_upper_bound := fun_mk (st := s_upper_bound) l_upper_bound c_upper_bound k_upper_bound
  have b_upper_bound := F_upper_bound.binds (ps := ["row", "pair"]) fun _ _ _ _ _ _ us hl => match us, hl with | [_, _], _ => rfl
  have g_upper_bound := PySem.W.mg_of X G a_upper_bound
  have F_least_offset := fun_mk (st := s_least_offset) l_least_offset c_least_offset k_least_offset
  have b_least_offset := F_least_offset.binds (ps := ["row", "a", "m"]) fun _ _ _ _ _ _ us hl => match us, hl with | [_, _, _], _ => rfl
  have g_least_offset := PySem.W.mg_of X G a_least_offset
  have F_stairs := fun_mk (st := s_stairs) l_stairs c_stairs k_stairs
  have b_stairs := F_stairs.binds (ps := ["row"]) fun _ _ _ _ _ _ us hl => match us, hl with | [_], _ => rfl
  have g_stairs := PySem.W.mg_of X G a_stairs
  have F_stairs_of := fun_mk (st := s_stairs_of) l_stairs_of c_stairs_of k_stairs_of
  have b_stairs_of := F_stairs_of.binds (ps := ["row"]) fun _ _ _ _ _ _ us hl => match us, hl with | [_], _ => rfl
  have g_stairs_of := PySem.W.mg_of X G a_stairs_of
  have F_spread_of := fun_mk (st := s_spread_of) l_spread_of c_spread_of k_spread_of
  have b_spread_of := F_spread_of.binds (ps := ["row"]) fun _ _ _ _ _ _ us hl => match us, hl with | [_], _ => rfl
  have g_spread_of := PySem.W.mg_of X G a_spread_of
  have F__law_number := fun_mk (st := s__law_number) l__law_number c__law_number k__law_number
  have b__law_number := F__law_number.binds (ps := ["script", "index"]) fun _ _ _ _ _ _ us hl => match us, hl with | [_, _], _ => rfl
  have g__law_number := PySem.W.mg_of X G a__law_number
  have F__law_take := fun_mk (st := s__law_take) l__law_take c__law_take k__law_take
  have b__law_take := F__law_take.binds (ps := ["draw", "many"]) fun _ _ _ _ _ _ us hl => match us, hl with | [_, _], _ => rfl
  have g__law_take := PySem.W.mg_of X G a__law_take
  have F_law := fun_mk (st := s_law) l_law c_law k_law
  have F_Line___init__ := fun_mk (st := s_Line___init__) l_Line___init__ c_Line___init__ k_Line___init__
  have b_Line___init__ := F_Line___init__.binds (ps := ["self", "a", "b", "m"]) fun _ _ _ _ _ _ us hl => match us, hl with | [_, _, _, _], _ => rfl
  have F_Line_at := fun_mk (st := s_Line_at) l_Line_at c_Line_at k_Line_at
  have b_Line_at := F_Line_at.binds (ps := ["self", "x"]) fun _ _ _ _ _ _ us hl => match us, hl with | [_, _], _ => rfl
  have F_Stairs___init__ := fun_mk (st := s_Stairs___init__) l_Stairs___init__ c_Stairs___init__ k_Stairs___init__
  have b_Stairs___init__ := F_Stairs___init__.binds (ps := ["self", "line", "low", "high"]) fun _ _ _ _ _ _ us hl => match us, hl with | [_, _, _, _], _ => rfl
  have F_Stairs___bool__ := fun_mk (st := s_Stairs___bool__) l_Stairs___bool__ c_Stairs___bool__ k_Stairs___bool__
  have b_Stairs___bool__ := F_Stairs___bool__.binds (ps := ["self"]) fun _ _ _ _ _ _ us hl => match us, hl with | [_], _ => rfl
  have F_Crooked___init__ := fun_mk (st := s_Crooked___init__) l_Crooked___init__ c_Crooked___init__ k_Crooked___init__
  have b_Crooked___init__ := F_Crooked___init__.binds (ps := ["self", "low", "high"]) fun _ _ _ _ _ _ us hl => match us, hl with | [_, _, _], _ => rfl
  have F_Crooked___bool__ := fun_mk (st := s_Crooked___bool__) l_Crooked___bool__ c_Crooked___bool__ k_Crooked___bool__
  have b_Crooked___bool__ := F_Crooked___bool__.binds (ps := ["self"]) fun _ _ _ _ _ _ us hl => match us, hl with | [_], _ => rfl
  have F_Spread___init__ := fun_mk (st := s_Spread___init__) l_Spread___init__ c_Spread___init__ k_Spread___init__
  have b_Spread___init__ := F_Spread___init__.binds (ps := ["self", "ticks", "slots", "ahead"]) fun _ _ _ _ _ _ us hl => match us, hl with | [_, _, _, _], _ => rfl
  have F_Spread_line := fun_mk (st := s_Spread_line) l_Spread_line c_Spread_line k_Spread_line
  have b_Spread_line := F_Spread_line.binds (ps := ["self"]) fun _ _ _ _ _ _ us hl => match us, hl with | [_], _ => rfl
  have F_Spread_has := fun_mk (st := s_Spread_has) l_Spread_has c_Spread_has k_Spread_has
  have b_Spread_has := F_Spread_has.binds (ps := ["self", "slot"]) fun _ _ _ _ _ _ us hl => match us, hl with | [_, _], _ => rfl
  have F_Spread_many := fun_mk (st := s_Spread_many) l_Spread_many c_Spread_many k_Spread_many
  have b_Spread_many := F_Spread_many.binds (ps := ["self", "first", "last"]) fun _ _ _ _ _ _ us hl => match us, hl with | [_, _, _], _ => rfl
  have cl_Line : Cls K C_Line_ := ⟨pg_Line, hd_Line, po_Line, sa_Line⟩
  have g_Line := PySem.W.mg_of X G aC_Line
  have cl_Stairs : Cls K C_Stairs_ := ⟨pg_Stairs, hd_Stairs, po_Stairs, sa_Stairs⟩
  have g_Stairs := PySem.W.mg_of X G aC_Stairs
  have cl_Crooked : Cls K C_Crooked_ := ⟨pg_Crooked, hd_Crooked, po_Crooked, sa_Crooked⟩
  have g_Crooked := PySem.W.mg_of X G aC_Crooked
  have cl_Spread : Cls K C_Spread_ := ⟨pg_Spread, hd_Spread, po_Spread, sa_Spread⟩
  have g_Spread := PySem.W.mg_of X G aC_Spread
  have I_Stairs : ClsI K C_Stairs_ := ⟨ha_Stairs, hm_Stairs, own_Stairs⟩
  have I_Crooked : ClsI K C_Crooked_ := ⟨ha_Crooked, hm_Crooked, own_Crooked⟩
  have IO : ObjI K := ⟨hn_, ht_⟩
  have T : Nm mg := { len := PySem.W.mg_none_of X G z_len, range := PySem.W.mg_none_of X G z_range, int := PySem.W.mg_none_of X G z_int, bool := PySem.W.mg_none_of X G z_bool, isinstance := PySem.W.mg_none_of X G z_isinstance, list := PySem.W.mg_none_of X G z_list, tuple := PySem.W.mg_none_of X G z_tuple, max := PySem.W.mg_none_of X G z_max, sum := PySem.W.mg_none_of X G z_sum, enumerate := PySem.W.mg_none_of X G z_enumerate, LEAST_MANY := ⟨_, PySem.W.mg_of X G z_LEAST_MANY⟩, MOST_MANY_stairs := ⟨_, PySem.W.mg_of X G z_MOST_MANY_stairs⟩, MOST_MANY_spreads := ⟨_, PySem.W.mg_of X G z_MOST_MANY_spreads⟩ }
  refine ⟨PySem.W.fnOf "law" "law" (defArgs s_law) (defBody s_law) (defScope s_law) .none kV_law dc_law pm_law an_law cd_law ct_law, fun s v => .of_eq rfl, fun base _ _ => ?_⟩
  have RL : LineC K C_Line_ := ⟨cl_Line, n_Line_a, n_Line_b, n_Line_m⟩
  have RS : StairsC K C_Stairs_ := ⟨cl_Stairs, n_Stairs_line, n_Stairs_low, n_Stairs_high⟩
  have RC : CrookC K C_Crooked_ := ⟨cl_Crooked, n_Crooked_low, n_Crooked_high⟩
  have RP : SpreadC K C_Spread_ := ⟨cl_Spread, n_Spread_ticks, n_Spread_slots, n_Spread_ahead⟩
  have C_is_number : Has l.prog w K mg base "is_number" 1 ["value"] spIsN _ _ := ⟨ok_is_number T F_is_number, g_is_number, F_is_number.kp, b_is_number⟩
  have C_is_between : Has l.prog w K mg base "is_between" 2 ["least", "most", "value"] spBetween _ _ := ⟨ok_is_between C_is_number F_is_between, g_is_between, F_is_between.kp, b_is_between⟩
  have C_check_between : Has l.prog w K mg base "check_between" 3 ["least", "most", "value"] spCheckB _ _ := ⟨ok_check_between C_is_between F_check_between, g_check_between, F_check_between.kp, b_check_between⟩
  have C_check_numbers : Has l.prog w K mg base "check_numbers" 2 ["values"] (spCheckNums K) _ _ := ⟨ok_check_numbers C_is_number F_check_numbers, g_check_numbers, F_check_numbers.kp, b_check_numbers⟩
  have C_check_from : Has l.prog w K mg base "check_from" 2 ["least", "value"] spCheckFrom _ _ := ⟨ok_check_from C_is_number F_check_from, g_check_from, F_check_from.kp, b_check_from⟩
  have C_below : Has l.prog w K mg base "below" 1 ["one", "other"] (spBelow K) _ _ := ⟨ok_below F_below, g_below, F_below.kp, b_below⟩
  have C_floor_of : Has l.prog w K mg base "floor_of" 1 ["fraction"] (spFloor K) _ _ := ⟨ok_floor_of F_floor_of, g_floor_of, F_floor_of.kp, b_floor_of⟩
  have C_simplest_between : Has l.prog w K mg base "simplest_between" 2 ["low", "high"] (spSimplest K) _ _ := ⟨ok_simplest_between C_below C_floor_of F_simplest_between, g_simplest_between, F_simplest_between.kp, b_simplest_between⟩
  have C_Line : Made l.prog w K mg base "Line" 3 ["self", "a", "b", "m"] (spLineI C_Line_) C_Line_ _ _ := ⟨⟨mk_Line, a_Line___init__, i_Line___init__, kc_Line⟩, ok_LineI RL C_check_numbers C_check_from F_Line___init__, g_Line, b_Line___init__⟩
  have C_Line_at : Mth l.prog w K mg base C_Line_ "at" 1 ["self", "x"] (spLineAt C_Line_) _ _ := ⟨cl_Line, ⟨a_Line_at, i_Line_at, k_Line_at⟩, ok_LineAt RL F_Line_at, b_Line_at⟩
  have C_Stairs : Made l.prog w K mg base "Stairs" 1 ["self", "line", "low", "high"] (spStairsI C_Stairs_) C_Stairs_ _ _ := ⟨⟨mk_Stairs, a_Stairs___init__, i_Stairs___init__, kc_Stairs⟩, ok_StairsI RS F_Stairs___init__, g_Stairs, b_Stairs___init__⟩
  have C_Crooked : Made l.prog w K mg base "Crooked" 1 ["self", "low", "high"] (spCrookI C_Crooked_) C_Crooked_ _ _ := ⟨⟨mk_Crooked, a_Crooked___init__, i_Crooked___init__, kc_Crooked⟩, ok_CrookI RC F_Crooked___init__, g_Crooked, b_Crooked___init__⟩
  have B_Stairs : Bol l.prog w K mg base C_Stairs_ 1 (spBool true) _ _ := ⟨⟨a_Stairs___bool__, i_Stairs___bool__⟩, ok_StairsB F_Stairs___bool__, b_Stairs___bool__⟩
  have B_Crooked : Bol l.prog w K mg base C_Crooked_ 1 (spBool false) _ _ := ⟨⟨a_Crooked___bool__, i_Crooked___bool__⟩, ok_CrookB F_Crooked___bool__, b_Crooked___bool__⟩
  have C_lower_bound : Has l.prog w K mg base "lower_bound" 1 ["row", "pair"] (spBound K (-1)) _ _ := ⟨ok_lower_bound F_lower_bound, g_lower_bound, F_lower_bound.kp, b_lower_bound⟩
  have C_upper_bound : Has l.prog w K mg base "upper_bound" 1 ["row", "pair"] (spBound K 1) _ _ := ⟨ok_upper_bound F_upper_bound, g_upper_bound, F_upper_bound.kp, b_upper_bound⟩
  have C_least_offset : Has l.prog w K mg base "least_offset" 1 ["row", "a", "m"] (spOffset K) _ _ := ⟨ok_least_offset T F_least_offset, g_least_offset, F_least_offset.kp, b_least_offset⟩
  have C_stairs_of : Has l.prog w K mg base "stairs_of" 5 ["row"] (spStairs K C_Stairs_ C_Crooked_ C_Line_) _ _ := ⟨ok_stairs_of T C_below C_simplest_between C_lower_bound C_upper_bound C_least_offset C_Line C_Stairs C_Crooked F_stairs_of, g_stairs_of, F_stairs_of.kp, b_stairs_of⟩
  have C_stairs : Has l.prog w K mg base "stairs" 6 ["row"] (spStairs K C_Stairs_ C_Crooked_ C_Line_) _ _ := ⟨ok_stairs T C_check_numbers C_stairs_of F_stairs, g_stairs, F_stairs.kp, b_stairs⟩
  have C_Spread : Made l.prog w K mg base "Spread" 4 ["self", "ticks", "slots", "ahead"] (spSpreadI C_Spread_) C_Spread_ _ _ := ⟨⟨mk_Spread, a_Spread___init__, i_Spread___init__, kc_Spread⟩, ok_SpreadI RP C_check_numbers C_check_between F_Spread___init__, g_Spread, b_Spread___init__⟩
  have C_Spread_line : Mth l.prog w K mg base C_Spread_ "line" 5 ["self"] (spSpreadL C_Spread_ C_Line_) _ _ := ⟨cl_Spread, ⟨a_Spread_line, i_Spread_line, k_Spread_line⟩, ok_SpreadL RP C_Line F_Spread_line, b_Spread_line⟩
  have C_Spread_many : Mth l.prog w K mg base C_Spread_ "many" 6 ["self", "first", "last"] (spSpreadM C_Spread_) _ _ := ⟨cl_Spread, ⟨a_Spread_many, i_Spread_many, k_Spread_many⟩, ok_SpreadM C_Spread_line C_Line_at F_Spread_many, b_Spread_many⟩
  have C_Spread_has : Mth l.prog w K mg base C_Spread_ "has" 7 ["self", "slot"] (spSpreadH C_Spread_) _ _ := ⟨cl_Spread, ⟨a_Spread_has, i_Spread_has, k_Spread_has⟩, ok_SpreadH C_Spread_many F_Spread_has, b_Spread_has⟩
  have C_spread_of : Has l.prog w K mg base "spread_of" 6 ["row"] (spSpreadOf K C_Spread_) _ _ := ⟨ok_spread_of T RL RS C_is_between C_stairs_of B_Stairs B_Crooked C_Spread F_spread_of, g_spread_of, F_spread_of.kp, b_spread_of⟩
  have C__law_number : Has l.prog w K mg base "_law_number" 1 ["script", "index"] (spNumber K) _ _ := ⟨ok__law_number T F__law_number, g__law_number, F__law_number.kp, b__law_number⟩
  have C__law_take : Has l.prog w K mg base "_law_take" 2 ["draw", "many"] (spTake K) _ _ := ⟨ok__law_take T C__law_number F__law_take, g__law_take, F__law_take.kp, b__law_take⟩
  exact ok_law T g_Stairs RL RS RC RP I_Stairs I_Crooked IO kCS C__law_take C_Spread C_Spread_has C_stairs C_spread_of C_Line C_Line_at F_law
end K50
open PySem PySem.W PyProof.Rows
set_option maxHeartbeats 0 in
theorem PySem.Challenge.cw_pointorstrip_k50_calendar_rows_holds : PySem.Challenge.rw_pointorstrip_k50_calendar_rows.Holds := by
  w_on; o_law; k_head; (case hw => w_witness2)
  k_fill
  refine L2.walk_of (l := PySem.Challenge.rw_pointorstrip_k50_calendar_rows) (n := 63) (k := 8) (x := "script") (CX := fun _ => L2.CX0) (sp := fun w => K50.spLaw _) rfl (by decide) rfl ⟨rfl, by decide, by decide⟩ (fun w h Y => PySem.W.kIn_of Y) ?F (fun _ _ a ns hl _ hS => ⟨a, ns, rfl, hS, hl, fun _ => rfl⟩) (fun _ _ _ _ _ h => h)
  case F =>
    intro w mg fa h KX G hmg
    refine' K50.all_mk KX G hmg ?a_is_number ?l_is_number ?c_is_number ?k_is_number ?a_check_numbers ?l_check_numbers ?c_check_numbers ?k_check_numbers ?a_check_from ?l_check_from ?c_check_from ?k_check_from ?a_is_between ?l_is_between ?c_is_between ?k_is_between ?a_check_between ?l_check_between ?c_check_between ?k_check_between ?a_below ?l_below ?c_below ?k_below ?a_floor_of ?l_floor_of ?c_floor_of ?k_floor_of ?a_simplest_between ?l_simplest_between ?c_simplest_between ?k_simplest_between ?a_lower_bound ?l_lower_bound ?c_lower_bound ?k_lower_bound ?a_upper_bound ?l_upper_bound ?c_upper_bound ?k_upper_bound ?a_least_offset ?l_least_offset ?c_least_offset ?k_least_offset ?a_stairs ?l_stairs ?c_stairs ?k_stairs ?a_stairs_of ?l_stairs_of ?c_stairs_of ?k_stairs_of ?a_spread_of ?l_spread_of ?c_spread_of ?k_spread_of ?a__law_number ?l__law_number ?c__law_number ?k__law_number ?a__law_take ?l__law_take ?c__law_take ?k__law_take ?a_law ?l_law ?c_law ?k_law ?aC_Line ?aC_Stairs ?aC_Crooked ?aC_Spread ?a_Line___init__ ?i_Line___init__ ?l_Line___init__ ?c_Line___init__ ?k_Line___init__ ?a_Line_at ?i_Line_at ?l_Line_at ?c_Line_at ?k_Line_at ?a_Stairs___init__ ?i_Stairs___init__ ?l_Stairs___init__ ?c_Stairs___init__ ?k_Stairs___init__ ?a_Stairs___bool__ ?i_Stairs___bool__ ?l_Stairs___bool__ ?c_Stairs___bool__ ?k_Stairs___bool__ ?a_Crooked___init__ ?i_Crooked___init__ ?l_Crooked___init__ ?c_Crooked___init__ ?k_Crooked___init__ ?a_Crooked___bool__ ?i_Crooked___bool__ ?l_Crooked___bool__ ?c_Crooked___bool__ ?k_Crooked___bool__ ?a_Spread___init__ ?i_Spread___init__ ?l_Spread___init__ ?c_Spread___init__ ?k_Spread___init__ ?a_Spread_line ?i_Spread_line ?l_Spread_line ?c_Spread_line ?k_Spread_line ?a_Spread_has ?i_Spread_has ?l_Spread_has ?c_Spread_has ?k_Spread_has ?a_Spread_many ?i_Spread_many ?l_Spread_many ?c_Spread_many ?k_Spread_many ?pg_Line ?hd_Line ?po_Line ?sa_Line ?mk_Line ?kc_Line ?n_Line_a ?n_Line_b ?n_Line_m ?pg_Stairs ?hd_Stairs ?po_Stairs ?sa_Stairs ?mk_Stairs ?kc_Stairs ?n_Stairs_line ?n_Stairs_low ?n_Stairs_high ?pg_Crooked ?hd_Crooked ?po_Crooked ?sa_Crooked ?mk_Crooked ?kc_Crooked ?n_Crooked_low ?n_Crooked_high ?pg_Spread ?hd_Spread ?po_Spread ?sa_Spread ?mk_Spread ?kc_Spread ?n_Spread_ticks ?n_Spread_slots ?n_Spread_ahead ?ha_Stairs ?hm_Stairs ?own_Stairs ?ha_Crooked ?hm_Crooked ?own_Crooked ?hn_ ?ht_ ?kCS ?z_len ?z_range ?z_int ?z_bool ?z_isinstance ?z_list ?z_tuple ?z_max ?z_sum ?z_enumerate ?z_LEAST_MANY ?z_MOST_MANY_stairs ?z_MOST_MANY_spreads
    (case a_is_number => k_is)
    (case l_is_number => k_is)
    (case c_is_number => k_is)
    (case k_is_number => k_is)
    (case a_check_numbers => k_is)
    (case l_check_numbers => k_is)
    (case c_check_numbers => k_is)
    (case k_check_numbers => k_is)
    (case a_check_from => k_is)
    (case l_check_from => k_is)
    (case c_check_from => k_is)
    (case k_check_from => k_is)
    (case a_is_between => k_is)
    (case l_is_between => k_is)
    (case c_is_between => k_is)
    (case k_is_between => k_is)
    (case a_check_between => k_is)
    (case l_check_between => k_is)
    (case c_check_between => k_is)
    (case k_check_between => k_is)
    (case a_below => k_is)
    (case l_below => k_is)
    (case c_below => k_is)
    (case k_below => k_is)
    (case a_floor_of => k_is)
    (case l_floor_of => k_is)
    (case c_floor_of => k_is)
    (case k_floor_of => k_is)
    (case a_simplest_between => k_is)
    (case l_simplest_between => k_is)
    (case c_simplest_between => k_is)
    (case k_simplest_between => k_is)
    (case a_lower_bound => k_is)
    (case l_lower_bound => k_is)
    (case c_lower_bound => k_is)
    (case k_lower_bound => k_is)
    (case a_upper_bound => k_is)
    (case l_upper_bound => k_is)
    (case c_upper_bound => k_is)
    (case k_upper_bound => k_is)
    (case a_least_offset => k_is)
    (case l_least_offset => k_is)
    (case c_least_offset => k_is)
    (case k_least_offset => k_is)
    (case a_stairs => k_is)
    (case l_stairs => k_is)
    (case c_stairs => k_is)
    (case k_stairs => k_is)
    (case a_stairs_of => k_is)
    (case l_stairs_of => k_is)
    (case c_stairs_of => k_is)
    (case k_stairs_of => k_is)
    (case a_spread_of => k_is)
    (case l_spread_of => k_is)
    (case c_spread_of => k_is)
    (case k_spread_of => k_is)
    (case a__law_number => k_is)
    (case l__law_number => k_is)
    (case c__law_number => k_is)
    (case k__law_number => k_is)
    (case a__law_take => k_is)
    (case l__law_take => k_is)
    (case c__law_take => k_is)
    (case k__law_take => k_is)
    (case a_law => k_is)
    (case l_law => k_is)
    (case c_law => k_is)
    (case k_law => k_is)
    (case aC_Line => k_is)
    (case aC_Stairs => k_is)
    (case aC_Crooked => k_is)
    (case aC_Spread => k_is)
    (case a_Line___init__ => k_is)
    (case i_Line___init__ => k_is)
    (case l_Line___init__ => k_is)
    (case c_Line___init__ => k_is)
    (case k_Line___init__ => k_is)
    (case a_Line_at => k_is)
    (case i_Line_at => k_is)
    (case l_Line_at => k_is)
    (case c_Line_at => k_is)
    (case k_Line_at => k_is)
    (case a_Stairs___init__ => k_is)
    (case i_Stairs___init__ => k_is)
    (case l_Stairs___init__ => k_is)
    (case c_Stairs___init__ => k_is)
    (case k_Stairs___init__ => k_is)
    (case a_Stairs___bool__ => k_is)
    (case i_Stairs___bool__ => k_is)
    (case l_Stairs___bool__ => k_is)
    (case c_Stairs___bool__ => k_is)
    (case k_Stairs___bool__ => k_is)
    (case a_Crooked___init__ => k_is)
    (case i_Crooked___init__ => k_is)
    (case l_Crooked___init__ => k_is)
    (case c_Crooked___init__ => k_is)
    (case k_Crooked___init__ => k_is)
    (case a_Crooked___bool__ => k_is)
    (case i_Crooked___bool__ => k_is)
    (case l_Crooked___bool__ => k_is)
    (case c_Crooked___bool__ => k_is)
    (case k_Crooked___bool__ => k_is)
    (case a_Spread___init__ => k_is)
    (case i_Spread___init__ => k_is)
    (case l_Spread___init__ => k_is)
    (case c_Spread___init__ => k_is)
    (case k_Spread___init__ => k_is)
    (case a_Spread_line => k_is)
    (case i_Spread_line => k_is)
    (case l_Spread_line => k_is)
    (case c_Spread_line => k_is)
    (case k_Spread_line => k_is)
    (case a_Spread_has => k_is)
    (case i_Spread_has => k_is)
    (case l_Spread_has => k_is)
    (case c_Spread_has => k_is)
    (case k_Spread_has => k_is)
    (case a_Spread_many => k_is)
    (case i_Spread_many => k_is)
    (case l_Spread_many => k_is)
    (case c_Spread_many => k_is)
    (case k_Spread_many => k_is)
    (case pg_Line => k_is)
    (case hd_Line => k_is)
    (case po_Line => k_is)
    (case sa_Line => k_is)
    (case mk_Line => k_is)
    (case kc_Line => k_is)
    (case n_Line_a => k_is)
    (case n_Line_b => k_is)
    (case n_Line_m => k_is)
    (case pg_Stairs => k_is)
    (case hd_Stairs => k_is)
    (case po_Stairs => k_is)
    (case sa_Stairs => k_is)
    (case mk_Stairs => k_is)
    (case kc_Stairs => k_is)
    (case n_Stairs_line => k_is)
    (case n_Stairs_low => k_is)
    (case n_Stairs_high => k_is)
    (case pg_Crooked => k_is)
    (case hd_Crooked => k_is)
    (case po_Crooked => k_is)
    (case sa_Crooked => k_is)
    (case mk_Crooked => k_is)
    (case kc_Crooked => k_is)
    (case n_Crooked_low => k_is)
    (case n_Crooked_high => k_is)
    (case pg_Spread => k_is)
    (case hd_Spread => k_is)
    (case po_Spread => k_is)
    (case sa_Spread => k_is)
    (case mk_Spread => k_is)
    (case kc_Spread => k_is)
    (case n_Spread_ticks => k_is)
    (case n_Spread_slots => k_is)
    (case n_Spread_ahead => k_is)
    (case ha_Stairs => k_is)
    (case hm_Stairs => k_is)
    (case own_Stairs => kernel_rfl)
    (case ha_Crooked => k_is)
    (case hm_Crooked => k_is)
    (case own_Crooked => kernel_rfl)
    (case hn_ => k_is)
    (case ht_ => k_is)
    (case kCS => kernel_rfl)
    (case z_len => k_is)
    (case z_range => k_is)
    (case z_int => k_is)
    (case z_bool => k_is)
    (case z_isinstance => k_is)
    (case z_list => k_is)
    (case z_tuple => k_is)
    (case z_max => k_is)
    (case z_sum => k_is)
    (case z_enumerate => k_is)
    (case z_LEAST_MANY => k_is)
    (case z_MOST_MANY_stairs => k_is)
    (case z_MOST_MANY_spreads => k_is)
