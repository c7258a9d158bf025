import PyProof.Rows.All
import Wide.All
import OpenK.AllK
import Wide.FinOn
import PySem.Challenge.RW_pointorstrip_k53_words_of_formats
import HandS.ForMost
import HandS.Wide
import HandS.IsInst
import HandS.Style
import HandS.TupLe
import HandS.List
set_option Elab.async false
set_option linter.all false
set_option maxRecDepth 100000
set_option maxHeartbeats 0
/-! ### rules and heaps of our own -/
namespace My
open PySem PySem.Spec PyProof.Rows L2
theorem asm {p : Prop} (h : p) : p := h
/-- what the operators ask, closed up so that nothing unfolds it -/
structure OkMul (i j : Int) : Prop where
  ok : IntMulOk i j
structure OkDiv (i j : Int) : Prop where
  ok : CDivW i j
structure OkMod (i j : Int) : Prop where
  ok : 0 < j
theorem op_mulA {X : Cx} : OpR X (binaryOp .Mult) (rI OkMul fun i j => .int (i * j)) := opI fun _ _ _ _ _ _ _ hc q => mul_int q hc.ok
theorem op_fdivA {X : Cx} : OpR X (binaryOp .FloorDiv) (rI OkDiv fun i j => .int (i / j)) := opI fun i j _ _ _ _ _ hc q => by
  have h1 : (0 : Int) < j := hc.ok.1
  exact floordiv_int (by omega) (by rw [Int.fdiv_eq_ediv_of_nonneg i (by omega)]; exact q) (.inl (PyProof.noPylong_of_log2 hc.ok.2))
theorem op_modA {X : Cx} : OpR X (binaryOp .Mod) (rI OkMod fun i j => .int (i % j)) := opI fun i j _ _ _ _ _ hc q => by
  have h1 : (0 : Int) < j := hc.ok
  exact mod_int' (by omega) (by rw [Int.fmod_eq_emod_of_nonneg i (by omega)]; exact q)
theorem pget_list {X : Cx} : PGet X (rIxL X.K) := by
  intro pins s σ H x y v u Q I rx ry h
  obtain ⟨p, xs, i, z, rfl, rfl, hq, he, q⟩ := h
  cases rx
  obtain ⟨t, rfl⟩ := ry
  obtain ⟨its, r, pl, hz⟩ := I.list hq
  obtain ⟨j, h1, h2, h3, h4, h5⟩ := atI_get he
  obtain ⟨w, ew, rw'⟩ := r.get h2
  have hl := r.length
  have hn := line63
  have fin : EP X pins σ Q w s := ⟨z, H, I, rw', q⟩
  by_cases h0 : 0 ≤ i
  · have hj : i.toNat = j := by
      rw [seqIndex_of h0 h5] at h1
      exact Option.some.inj h1
    exact wpAny_getItem_list pl.isList h0 (by omega) (by rw [hj]; simpa using ew) fin
  · have hj : (i + (its.toArray.size : Int)).toNat = j := by
      rw [seqIndex_neg (by omega) h4] at h1
      rw [List.size_toArray, ← hl]
      exact Option.some.inj h1
    exact wpAny_getItem_list_neg pl.isList (by omega) (by rw [List.size_toArray] <;> omega) (by omega) (by rw [hj]; simpa using ew) fin
theorem same_upd {H : Hp} {p : Addr} {o : HO} (h : H p = none) : Same H (upd H p o) := fun b x e => by
  rw [upd_ne (ne_of_none e h)]
  exact e
/-- all but one object as it was -/
def Keep (d : Addr) (H H' : Hp) : Prop := ∀ b o, b ≠ d → H b = some o → H' b = some o
theorem Keep.refl (d : Addr) (H : Hp) : Keep d H H := fun _ _ _ h => h
theorem Keep.trans {d : Addr} {H H1 H2 : Hp} (a : Keep d H H1) (b : Keep d H1 H2) : Keep d H H2 := fun c o n h => b c o n (a c o n h)
theorem Keep.of {d : Addr} {H H1 : Hp} (a : Same H H1) : Keep d H H1 := fun c o _ h => a c o h
theorem Keep.upd (d : Addr) (H : Hp) (o : HO) : Keep d H (upd H d o) := fun b x n e => by
  rw [upd_ne n]
  exact e
theorem Keep.seq {K : PySem.W.Frag} {d : Addr} {H H' : Hp} {a : Addr} {xs : List V} (e : Keep d H H') (n : a ≠ d) (h : SqL K H a xs) : SqL K H' a xs := by
  rcases h with (h | ⟨o, h⟩) | h
  · exact .inl (.inl (e _ _ n h))
  · exact .inl (.inr ⟨o, e _ _ n h⟩)
  · exact .inr h
theorem Keep.tup {K : PySem.W.Frag} {d : Addr} {H H' : Hp} {a : Addr} {xs : List V} (e : Keep d H H') (n : a ≠ d) (h : SqT K H a xs) : SqT K H' a xs := by
  rcases h with (h | ⟨o, h⟩) | h
  · exact .inl (.inl (e _ _ n h))
  · exact .inl (.inr ⟨o, e _ _ n h⟩)
  · exact .inr h
theorem Same.tup {K : PySem.W.Frag} {H H' : Hp} {a : Addr} {xs : List V} (e : Same H H') (h : SqT K H a xs) : SqT K H' a xs := by
  rcases h with (h | ⟨o, h⟩) | h
  · exact .inl (.inl (e _ _ h))
  · exact .inl (.inr ⟨o, e _ _ h⟩)
  · exact .inr h
theorem Keep.seqS {K : PySem.W.Frag} {d s : Addr} {H H' : Hp} {r : List V} {ns : List Int} (e : Keep d H H') (hd : H d = some (.lst (.ref s :: r))) (h : SqL K H s (ns.map V.int)) : SqL K H' s (ns.map V.int) := by
  rcases h with (h | ⟨o, h⟩) | h
  · refine .inl (.inl (e _ _ ?_ h))
    rintro rfl
    rw [hd] at h
    cases ns with
    | nil => cases h
    | cons n ns => cases h
  · refine .inl (.inr ⟨o, e _ _ ?_ h⟩)
    rintro rfl
    rw [hd] at h
    cases h
  · exact .inr h
/-- the list that draws: the script, how many were drawn -/
def DrawAt (K : PySem.W.Frag) (H : Hp) (d s : Addr) (ns : List Int) : Prop := ∃ k : Int, H d = some (.lst [.ref s, .int k]) ∧ SqL K H s (ns.map V.int) ∧ ns.length ≤ 63
theorem DrawAt.same {K : PySem.W.Frag} {H H' : Hp} {d s : Addr} {ns : List Int} (e : Same H H') (h : DrawAt K H d s ns) : DrawAt K H' d s ns := by
  obtain ⟨k, h1, h3, h4⟩ := h
  exact ⟨k, e _ _ h1, e.seq h3, h4⟩
theorem DrawAt.set {K : PySem.W.Frag} {H : Hp} {d s : Addr} {ns : List Int} {k : Int} (h : DrawAt K H d s ns) : DrawAt K (upd H d (.lst [.ref s, .int k])) d s ns := by
  obtain ⟨k0, h1, h3, h4⟩ := h
  exact ⟨k, upd_same, (Keep.upd d H _).seqS h1 h3, h4⟩
theorem mulOk {i j : Int} {a b : Nat} (ha : i.natAbs < 2 ^ a) (hb : j.natAbs < 2 ^ b) (h0 : 0 < a) (h1 : 0 < b) (h : a + b ≤ 1000000) : OkMul i j := ⟨(wide_mul ha hb h0 h1 h).ok⟩
theorem mulOkL {i j : Int} (h1 : -(2 ^ 64) < i) (h2 : i < 2 ^ 64) : OkMul i j := ⟨CMul.ok (.inl ⟨h1, h2⟩)⟩
theorem mulOkR {i j : Int} (h1 : -(2 ^ 64) < j) (h2 : j < 2 ^ 64) : OkMul i j := ⟨CMul.ok (.inr ⟨h1, h2⟩)⟩
theorem divOk {i j : Int} (h : 0 < j) (hb : j < 2 ^ 64) : OkDiv i j := ⟨wide_div (b := 64) h (by omega) (by decide) (by decide)⟩
theorem call_absN {X : Cx} : CallR X (.builtin "abs") (fun xs H Q => ∃ i : Int, xs = [.int i] ∧ Q (.int (i.natAbs : Int)) H) := fun pins s σ H xs us Q I r ⟨i, e, q⟩ => call_abs pins s σ H xs us Q I r ⟨i, e, by
  have h : (if i < 0 then -i else i) = (i.natAbs : Int) := by split <;> omega
  rw [h]
  exact q⟩
theorem call_minN {X : Cx} (hc : X.calm = true) : CallR X (.builtin "min") (fun xs H Q => ∃ i j : Int, xs = [.int i, .int j] ∧ Q (.int (min i j)) H) := fun pins s σ H xs us Q I r ⟨i, j, e, q⟩ => call_min2 hc pins s σ H xs us Q I r ⟨i, j, e, by
  have h : (if j < i then j else i) = min i j := by split <;> omega
  rw [h]
  exact q⟩
/-- the ways of a conditional expression joined -/
theorem tIf_via {t : TT} {ta tb : TE} {σ : L2.St} {H : Hp} {Q : VK} (R : V → Hp → Prop) (h : ∀ Q' : VK, (∀ v H', R v H' → Q' v H') → tIf t ta tb σ H Q') (k : ∀ v H', R v H' → Q v H') : tIf t ta tb σ H Q := h Q k
/-- name = a if t else b, more -/
theorem sIf_via {t : TT} {ta tb : TE} {g : TG} {u : TS} {D : Ends} {σ : L2.St} {H : Hp} (R : V → Hp → Prop) (h : ∀ Q' : VK, (∀ v H', R v H' → Q' v H') → tIf t ta tb σ H Q') (k : ∀ v H', R v H' → g v σ H' fun σ' H'' => u D σ' H'') : tSeq (tAsg (tIf t ta tb) g) u D σ H := h _ k
theorem call_intI {X : Cx} : CallR X (.type "int") (fun xs H Q => ∃ i, xs = [.int i] ∧ Q (.int i) H) := fun pins s σ H xs us Q I r h => call_int1 pins s σ H xs us Q I r (.inl h)
theorem call_lenL {X : Cx} : CallR X (.builtin "len") (fun xs H Q => ∃ p ys, xs = [.ref p] ∧ SqL X.K H p ys ∧ Q (.int ys.length) H) := fun pins s σ H xs us Q I r ⟨p, ys, e, h, q⟩ => call_len_seq pins s σ H xs us Q I r ⟨p, ys, e, .inl h, q⟩
theorem pe_ty {X : Cx} {x : Str} {n : String} {pos : Pos} (hg : Gl X x) (hm : X.mg x = none) (hv : bootBuiltins x = some (.type n)) (hn : x ≠ Str.ofString "__name__" := by decide) (hd : (x == Str.ofString "__debug__") = false := by decide) : PE X (.Name x pos) (tC (.ty n)) := pe_bltn hg hm hv rfl (hn := hn) (hd := hd)
section
variable {P : Program} {w : World} {K : PySem.W.Frag} {mg : Str → Option Value} {base : Heap}
/-- a def that stands at its name and keeps its promise -/
structure Has (P : Program) (w : World) (K : PySem.W.Frag) (mg : Str → Option Value) (base : Heap) (x : Str) (k : Nat) (ps : List Str) (sp : Sp) (f : Addr) (fd : FuncData) : Prop where
  G : FnOk P w K mg base CX0 k f fd ps sp
  g : mg x = some (.ref f)
  k : PySem.W.keepIn K (.ref f) = true
  b : Binds K fd ps []
/-- the def as the top left it -/
structure Def (K : PySem.W.Frag) (mg : Str → Option Value) (x : Str) (st : Stmt) (ps : List Str) (f : Addr) (fd : FuncData) : Prop where
  F : Fun K x x st f fd
  g : mg x = some (.ref f)
  b : Binds K fd ps []
theorem Def.has {x : Str} {st : Stmt} {ps : List Str} {k : Nat} {sp : Sp} {f : Addr} {fd : FuncData} (D : Def K mg x st ps f fd) (G : FnOk P w K mg base CX0 k f fd ps sp) : Has P w K mg base x k ps sp f fd := ⟨G, D.g, D.F.kp, D.b⟩
end
end My
/-! ### t > u of two pairs of ints -/
namespace L2
open PySem PySem.Spec PyProof.Rows
def rGtP (K : PySem.W.Frag) : R2 := fun x y H Q => ∃ (p q : Addr) (i j k l : Int), x = .ref p ∧ y = .ref q ∧ SqT K H p [.int i, .int j] ∧ SqT K H q [.int k, .int l] ∧
  Q (.bl (if i = k then decide (j > l) else decide (i > k))) H
theorem op_gtP {X : Cx} (room : X.A.units + 64 < cLine) : OpR X (compareOp .Gt) (rGtP X.K) := by
  intro pins s σ H x y v u Q I rx ry h
  obtain ⟨p, q, i, j, k, l, rfl, rfl, hp, hq, z⟩ := h
  cases rx
  cases ry
  obtain ⟨as, ra, pa, _⟩ := I.tuple hp
  obtain ⟨bs, rb, pb, _⟩ := I.tuple hq
  have ia : IntsAre as [i, j] := Vals.ints ra
  have ib : IntsAre bs [k, l] := Vals.ints rb
  have la : as.toArray.size = 2 := List.size_toArray.trans ia.length
  have lb : bs.toArray.size = 2 := List.size_toArray.trans ib.length
  have ga : ∀ n (hn : n < as.toArray.size), ∃ t, as.toArray[n] = .int ([i, j].getD n 0) t := fun n hn => PyProof.Rows.IntsAre.int_at ia _ _ (by simp at hn; simp [hn])
  have gb : ∀ n (hn : n < bs.toArray.size), ∃ t, bs.toArray[n] = .int ([k, l].getD n 0) t := fun n hn => PyProof.Rows.IntsAre.int_at ib _ _ (by simp at hn; simp [hn])
  have main := Ob.RcOp.tuples_gt (A := X.A) (s := s) (e := fun n => [i, j].getD n 0 == [k, l].getD n 0) (r := fun n => decide ([k, l].getD n 0 < [i, j].getD n 0)) pa pb (by omega)
    (fun n h1 h2 => by
      obtain ⟨t, et⟩ := ga n h1
      obtain ⟨t2, et2⟩ := gb n h2
      rw [et, et2]
      exact SeqAt.EqAt.int_int _ _ _ _)
    (fun n h1 h2 _ => by
      obtain ⟨t, et⟩ := ga n h1
      obtain ⟨t2, et2⟩ := gb n h2
      rw [et, et2]
      exact Ob.RcOp.gt_int _ _ _ _)
  rw [la, lb] at main
  have e : Ob.lexAt (fun n => [i, j].getD n 0 == [k, l].getD n 0) (fun n => decide ([k, l].getD n 0 < [i, j].getD n 0)) (decide (2 > 2)) 0 (min 2 2) = (if i = k then decide (j > l) else decide (i > k)) := by
    show (if (i == k) = true then (if (j == l) = true then false else decide (l < j)) else decide (k < i)) = _
    by_cases h1 : i = k <;> by_cases h2 : j = l <;> simp [h1, h2]
  rw [e] at main
  exact main X.prog X.w X.xe (EP X pins σ Q) ⟨.bl _, H, I, rfl, z⟩
end L2
/-! powers of a base, numbers rounded to some figures: the mathematics -/
namespace M53
/-- B ^ k, for k below 0 too -/
def pz (B k : Int) : Rat := (B : Rat) ^ k
theorem cast_pos {B : Int} (h : 0 < B) : (0 : Rat) < (B : Rat) := by exact_mod_cast h
theorem pz_pos {B : Int} (h : 0 < B) (k : Int) : 0 < pz B k := Rat.zpow_pos (cast_pos h)
theorem pz_add {B : Int} (h : 0 < B) (j k : Int) : pz B (j + k) = pz B j * pz B k := Rat.zpow_add (Rat.ne_of_gt (cast_pos h)) j k
theorem pz_nat (B : Int) (n : Nat) : pz B (n : Int) = ((B ^ n : Int) : Rat) := by
  unfold pz
  rw [Rat.zpow_natCast, Rat.intCast_pow]
theorem pz_one (B : Int) : pz B 1 = (B : Rat) := by
  have h := pz_nat B 1
  rw [Int.pow_one] at h
  exact h
theorem pz_nat_one {B : Int} (h : 1 ≤ B) (n : Nat) : 1 ≤ pz B (n : Int) := by
  rw [pz_nat]
  have : 1 ≤ B ^ n := by
    have p : 0 < B ^ n := Int.pow_pos (by omega)
    omega
  exact_mod_cast this
theorem pz_mono {B : Int} (h : 1 ≤ B) {j k : Int} (hl : j ≤ k) : pz B j ≤ pz B k := by
  obtain ⟨n, rfl⟩ := Int.le.dest hl
  rw [pz_add (by omega)]
  have h1 := pz_nat_one h n
  have h2 := pz_pos (show 0 < B by omega) j
  have h3 := Rat.mul_le_mul_of_nonneg_left h1 (Rat.le_of_lt h2)
  rw [Rat.mul_one] at h3
  exact h3
theorem lt_of_pz {B : Int} (h : 1 ≤ B) {j k : Int} (hl : pz B j < pz B k) : j < k := by
  apply Int.lt_of_not_ge
  intro g
  exact Rat.not_le.mpr hl (pz_mono h g)
/-- the greatest power that is not above x has the exponent k -/
def Ord (B : Int) (x : Rat) (k : Int) : Prop := pz B k ≤ x ∧ x < pz B (k + 1)
theorem Ord.mono {B : Int} (h : 1 ≤ B) {x y : Rat} (hl : x ≤ y) {j k : Int} (a : Ord B x j) (b : Ord B y k) : j ≤ k := by
  have := lt_of_pz h (Std.lt_of_le_of_lt (Rat.le_trans a.1 hl) b.2)
  omega
theorem Ord.eq {B : Int} (h : 1 ≤ B) {x : Rat} {j k : Int} (a : Ord B x j) (b : Ord B x k) : j = k := by
  have := a.mono h Rat.le_refl b
  have := b.mono h Rat.le_refl a
  omega
/-- d B ^ f, d of N figures, is x rounded -/
def Rnd (B : Int) (N : Nat) (x : Rat) (d f : Int) : Prop := ∃ k d0 : Int, Ord B x k ∧ (2 * (d0 : Rat) - 1) * pz B (k - N + 1) ≤ 2 * x ∧ 2 * x < (2 * (d0 : Rat) + 1) * pz B (k - N + 1) ∧
  ((d0 ≠ B ^ N ∧ d = d0 ∧ f = k - N + 1) ∨ (d0 = B ^ N ∧ d = B ^ (N - 1) ∧ f = k - N + 2))
theorem lt_of_mul {a b u : Rat} (hu : 0 < u) (h : a * u < b * u) : a < b := by
  apply Rat.not_le.mp
  intro g
  exact Rat.not_le.mpr h (Rat.mul_le_mul_of_nonneg_right g (Rat.le_of_lt hu))
theorem split {B : Int} (h : 0 < B) (k : Int) (N : Nat) (hN : 1 ≤ N) : pz B k = ((B ^ (N - 1) : Int) : Rat) * pz B (k - N + 1) := by
  rw [← pz_nat, ← pz_add h]
  congr 1
  omega
theorem split1 {B : Int} (h : 0 < B) (k : Int) (N : Nat) : pz B (k + 1) = ((B ^ N : Int) : Rat) * pz B (k - N + 1) := by
  rw [← pz_nat, ← pz_add h]
  congr 1
  omega
theorem low_d0 {B : Int} (h : 0 < B) {N : Nat} (hN : 1 ≤ N) {x : Rat} {k d0 : Int} (o : Ord B x k) (a : 2 * x < (2 * (d0 : Rat) + 1) * pz B (k - N + 1)) : B ^ (N - 1) ≤ d0 := by
  have u := pz_pos h (k - N + 1)
  have e := split h k N hN
  have o1 := o.1
  rw [e] at o1
  have : (2 * ((B ^ (N - 1) : Int) : Rat)) < (2 * (d0 : Rat) + 1) := lt_of_mul u (by grind)
  have : 2 * B ^ (N - 1) < 2 * d0 + 1 := by exact_mod_cast this
  omega
theorem top_d0 {B : Int} (h : 0 < B) {N : Nat} {x : Rat} {k d0 : Int} (o : Ord B x k) (a : (2 * (d0 : Rat) - 1) * pz B (k - N + 1) ≤ 2 * x) : d0 ≤ B ^ N := by
  have u := pz_pos h (k - N + 1)
  have e := split1 h k N
  have o1 := o.2
  rw [e] at o1
  have : (2 * (d0 : Rat) - 1) < (2 * ((B ^ N : Int) : Rat)) := lt_of_mul u (by grind)
  have : 2 * d0 - 1 < 2 * B ^ N := by exact_mod_cast this
  omega
theorem pow_split {B : Int} {N : Nat} (hN : 1 ≤ N) : B ^ N = B ^ (N - 1) * B := by
  obtain ⟨n, rfl⟩ : ∃ n, N = n + 1 := ⟨N - 1, by omega⟩
  rw [Int.pow_succ]
  rfl
theorem Rnd.bounds {B : Int} (h : 2 ≤ B) {N : Nat} (hN : 1 ≤ N) {x : Rat} {d f : Int} (r : Rnd B N x d f) : B ^ (N - 1) ≤ d ∧ d < B ^ N := by
  obtain ⟨k, d0, o, a, b, c⟩ := r
  have h1 := low_d0 (by omega) hN o b
  have h2 := top_d0 (by omega) o a
  rcases c with ⟨c1, rfl, _⟩ | ⟨c1, rfl, _⟩
  · exact ⟨h1, by omega⟩
  · have p : 0 < B ^ (N - 1) := Int.pow_pos (by omega)
    have := Int.mul_le_mul_of_nonneg_left h (Int.le_of_lt p)
    rw [pow_split hN]
    omega
theorem Rnd.near {B : Int} (h : 2 ≤ B) {N : Nat} (hN : 1 ≤ N) {x : Rat} {d f : Int} (r : Rnd B N x d f) : 2 * x - 2 * d * pz B f ≤ pz B f ∧ 2 * d * pz B f - 2 * x ≤ pz B f := by
  obtain ⟨k, d0, o, a, b, c⟩ := r
  rcases c with ⟨c1, rfl, rfl⟩ | ⟨c1, rfl, rfl⟩
  · grind
  · have e : ((B ^ (N - 1) : Int) : Rat) * pz B (k - N + 2) = (d0 : Rat) * pz B (k - N + 1) := by
      rw [c1, ← split1 (by omega), ← pz_nat, ← pz_add (by omega)]
      congr 1
      omega
    have g : pz B (k - N + 1) ≤ pz B (k - N + 2) := pz_mono (by omega) (by omega)
    grind
theorem Rnd.mono {B : Int} (h : 2 ≤ B) {N : Nat} (hN : 1 ≤ N) {x y : Rat} (hl : x ≤ y) {d f d' f' : Int} (r : Rnd B N x d f) (r' : Rnd B N y d' f') : f < f' ∨ (f = f' ∧ d ≤ d') := by
  have bs := r'.bounds h hN
  obtain ⟨k, d0, o, a, b, c⟩ := r
  obtain ⟨k', d0', o', a', b', c'⟩ := r'
  have hk := o.mono (by omega) hl o'
  by_cases hh : k = k'
  · subst hh
    have u := pz_pos (show 0 < B by omega) (k - N + 1)
    have : (2 * (d0 : Rat) - 1) < (2 * (d0' : Rat) + 1) := lt_of_mul u (by grind)
    have : 2 * d0 - 1 < 2 * d0' + 1 := by exact_mod_cast this
    have t := top_d0 (by omega) o' a'
    rcases c with ⟨c1, rfl, rfl⟩ | ⟨c1, rfl, rfl⟩ <;> rcases c' with ⟨c1', rfl, rfl⟩ | ⟨c1', rfl, rfl⟩
    · exact .inr ⟨rfl, by omega⟩
    · exact .inl (by omega)
    · omega
    · exact .inr ⟨rfl, Int.le_refl _⟩
  · rcases c with ⟨c1, rfl, rfl⟩ | ⟨c1, rfl, rfl⟩ <;> rcases c' with ⟨c1', rfl, rfl⟩ | ⟨c1', rfl, rfl⟩
    · exact .inl (by omega)
    · exact .inl (by omega)
    · by_cases g : k - N + 2 < k' - N + 1
      · exact .inl g
      · exact .inr ⟨by omega, bs.1⟩
    · exact .inl (by omega)
theorem Rnd.exact {B : Int} (h : 2 ≤ B) {N : Nat} (hN : 1 ≤ N) {d f d' f' : Int} (h1 : B ^ (N - 1) ≤ d) (h2 : d < B ^ N) (r : Rnd B N ((d : Rat) * pz B f) d' f') : d' = d ∧ f' = f := by
  obtain ⟨k, d0, o, a, b, c⟩ := r
  have u := pz_pos (show 0 < B by omega) f
  have ok : Ord B ((d : Rat) * pz B f) (f + N - 1) := by
    have e1 := split (show 0 < B by omega) (f + N - 1) N hN
    have e2 := split1 (show 0 < B by omega) (f + N - 1) N
    have e3 : f + (N : Int) - 1 - N + 1 = f := by omega
    rw [e3] at e1 e2
    refine ⟨?_, ?_⟩
    · rw [e1]
      exact Rat.mul_le_mul_of_nonneg_right (by exact_mod_cast h1) (Rat.le_of_lt u)
    · rw [e2]
      exact Rat.mul_lt_mul_of_pos_right (by exact_mod_cast h2) u
  have hk := o.eq (by omega) ok
  have e3 : k - (N : Int) + 1 = f := by omega
  rw [e3] at a b
  have q1 : (2 * (d0 : Rat) - 1) ≤ 2 * d := by
    apply Rat.not_lt.mp
    intro g
    have := Rat.mul_lt_mul_of_pos_right g u
    grind
  have q2 : (2 * (d : Rat)) < 2 * d0 + 1 := lt_of_mul u (by grind)
  have q1 : 2 * d0 - 1 ≤ 2 * d := by exact_mod_cast q1
  have q2 : 2 * d < 2 * d0 + 1 := by exact_mod_cast q2
  rcases c with ⟨c1, rfl, rfl⟩ | ⟨c1, rfl, rfl⟩
  · exact ⟨by omega, by omega⟩
  · omega
/-! whole numbers -/
theorem pz_up {B : Int} {k : Int} (h : 0 ≤ k) : pz B k = ((B ^ k.toNat : Int) : Rat) := by
  rw [← pz_nat, Int.toNat_of_nonneg h]
theorem pz_ud {B : Int} (h : 0 < B) (k : Int) : ((B ^ k.toNat : Int) : Rat) = pz B k * ((B ^ (-k).toNat : Int) : Rat) := by
  rw [← pz_nat, ← pz_nat, ← pz_add h]
  congr 1
  omega
theorem pz_zero (B : Int) : pz B 0 = 1 := Rat.zpow_zero _
theorem h_le {u t q p : Rat} (h : u * t = 1) (g : u * q ≤ u * (t * p)) : u * q ≤ p := by
  rw [← Rat.mul_assoc, h, Rat.one_mul] at g
  exact g
theorem h_lt {u t q p : Rat} (h : u * t = 1) (g : u * (t * p) < u * q) : p < u * q := by
  rw [← Rat.mul_assoc, h, Rat.one_mul] at g
  exact g
theorem h_mv {u t q p : Rat} (h : u * t = 1) (g : p * t < u * q * t) : p * t < q := by
  rw [show u * q * t = u * t * q by grind, h, Rat.one_mul] at g
  exact g
theorem div_le_of {P Q : Int} {x : Rat} (hQ : 0 < Q) : x ≤ (P : Rat) / (Q : Rat) ↔ x * (Q : Rat) ≤ (P : Rat) := by
  rw [← Rat.not_lt, ← Rat.not_lt, Rat.div_lt_iff (cast_pos hQ)]
theorem lt_div_of {P Q : Int} {x : Rat} (hQ : 0 < Q) : (P : Rat) / (Q : Rat) < x ↔ (P : Rat) < x * (Q : Rat) := Rat.div_lt_iff (cast_pos hQ)
theorem ord_ge {B P Q : Int} (hB : 0 < B) (hQ : 0 < Q) {j : Nat} (hj : 1 ≤ j) (h1 : B ^ (j - 1) ≤ P / Q) (h2 : P / Q < B ^ j) : Ord B ((P : Rat) / (Q : Rat)) ((j : Int) - 1) := by
  have g1 : B ^ (j - 1) * Q ≤ P := by
    have := Int.ediv_mul_le P (show Q ≠ 0 by omega)
    have := Int.mul_le_mul_of_nonneg_right h1 (Int.le_of_lt hQ)
    omega
  have g2 : P < B ^ j * Q := by
    have := Int.lt_ediv_add_one_mul_self P hQ
    have := Int.mul_le_mul_of_nonneg_right (show P / Q + 1 ≤ B ^ j by omega) (Int.le_of_lt hQ)
    omega
  refine ⟨?_, ?_⟩
  · rw [div_le_of hQ, show (j : Int) - 1 = ((j - 1 : Nat) : Int) by omega, pz_nat]
    exact_mod_cast g1
  · rw [lt_div_of hQ, show (j : Int) - 1 + 1 = (j : Int) by omega, pz_nat]
    exact_mod_cast g2
theorem ord_lt {B P Q : Int} (hB : 0 < B) (hP : 0 < P) (hQ : 0 < Q) {j : Nat} (hj : 1 ≤ j) (h1 : B ^ (j - 1) ≤ (Q - 1) / P) (h2 : (Q - 1) / P < B ^ j) : Ord B ((P : Rat) / (Q : Rat)) (-(j : Int)) := by
  have g1 : B ^ (j - 1) * P < Q := by
    have := Int.ediv_mul_le (Q - 1) (show P ≠ 0 by omega)
    have := Int.mul_le_mul_of_nonneg_right h1 (Int.le_of_lt hP)
    omega
  have g2 : Q ≤ B ^ j * P := by
    have := Int.lt_ediv_add_one_mul_self (Q - 1) hP
    have := Int.mul_le_mul_of_nonneg_right (show (Q - 1) / P + 1 ≤ B ^ j by omega) (Int.le_of_lt hP)
    omega
  have e1 : pz B (-(j : Int)) * ((B ^ j : Int) : Rat) = 1 := by
    rw [← pz_nat, ← pz_add hB, show -(j : Int) + j = 0 by omega]
    exact pz_zero B
  have e2 : pz B (-(j : Int) + 1) * ((B ^ (j - 1) : Int) : Rat) = 1 := by
    rw [← pz_nat, ← pz_add hB, show -(j : Int) + 1 + ((j - 1 : Nat) : Int) = 0 by omega]
    exact pz_zero B
  have u1 := pz_pos hB (-(j : Int))
  have u2 := pz_pos hB (-(j : Int) + 1)
  refine ⟨?_, ?_⟩
  · rw [div_le_of hQ]
    have g2 : (Q : Rat) ≤ ((B ^ j : Int) : Rat) * P := by exact_mod_cast g2
    exact h_le e1 (Rat.mul_le_mul_of_nonneg_left g2 (Rat.le_of_lt u1))
  · rw [lt_div_of hQ]
    have g1 : ((B ^ (j - 1) : Int) : Rat) * P < Q := by exact_mod_cast g1
    exact h_lt e2 (Rat.mul_lt_mul_of_pos_left g1 u2)
/-- how great the powers are -/
theorem Ord.size {B P Q : Int} (hB : 2 ≤ B) (hP : 0 < P) (hQ : 0 < Q) {k : Int} (o : Ord B ((P : Rat) / (Q : Rat)) k) : B ^ k.toNat ≤ P ∧ B ^ (-k - 1).toNat ≤ Q := by
  obtain ⟨a, b⟩ := o
  rw [div_le_of hQ] at a
  rw [lt_div_of hQ] at b
  by_cases h : 0 ≤ k
  · rw [pz_up h] at a
    have a : B ^ k.toNat * Q ≤ P := by exact_mod_cast a
    have p : 0 < B ^ k.toNat := Int.pow_pos (by omega)
    have := Int.mul_le_mul_of_nonneg_left (show 1 ≤ Q by omega) (Int.le_of_lt p)
    refine ⟨by omega, ?_⟩
    rw [show (-k - 1).toNat = 0 by omega, Int.pow_zero]
    omega
  · have e2 : pz B (k + 1) * ((B ^ (-k - 1).toNat : Int) : Rat) = 1 := by
      rw [← pz_nat, ← pz_add (by omega), show k + 1 + (((-k - 1).toNat : Nat) : Int) = 0 by omega]
      exact pz_zero B
    have p : 0 < B ^ (-k - 1).toNat := Int.pow_pos (by omega)
    have q : (0 : Rat) < ((B ^ (-k - 1).toNat : Int) : Rat) := cast_pos p
    have z : (P : Rat) * ((B ^ (-k - 1).toNat : Int) : Rat) < Q := h_mv e2 (Rat.mul_lt_mul_of_pos_right b q)
    have z : P * B ^ (-k - 1).toNat < Q := by exact_mod_cast z
    have := Int.mul_le_mul_of_nonneg_right (show 1 ≤ P by omega) (Int.le_of_lt p)
    refine ⟨?_, by omega⟩
    rw [show k.toNat = 0 by omega, Int.pow_zero]
    omega
theorem pow_le {B : Int} (hB : 1 ≤ B) {m n : Nat} (h : m ≤ n) : B ^ m ≤ B ^ n := by
  obtain ⟨c, rfl⟩ := Nat.le.dest h
  rw [Int.pow_add]
  have p : 0 < B ^ m := Int.pow_pos (by omega)
  have q : 0 < B ^ c := Int.pow_pos (by omega)
  have := Int.mul_le_mul_of_nonneg_left (show 1 ≤ B ^ c by omega) (Int.le_of_lt p)
  omega
theorem h_c1 {M U D Q X p : Rat} (x : p = X * Q) (a : (2 * M - 1) * (Q * (U * D)) ≤ 2 * (p * D)) (b : 2 * X * (Q * D) < (2 * M - 1) * U * (Q * D)) : False := by
  subst x
  grind
theorem h_c2 {M U D Q X p : Rat} (x : p = X * Q) (a : 2 * (p * D) < (2 * M + 1) * (Q * (U * D))) : 2 * X * (Q * D) < (2 * M + 1) * U * (Q * D) := by
  subst x
  grind
/-- what the program rounds is what was said -/
theorem rnd_of {B P Q : Int} (hB : 2 ≤ B) (hQ : 0 < Q) {N : Nat} {k m : Int} (o : Ord B ((P : Rat) / (Q : Rat)) k)
    (hm : m = (2 * (P * B ^ (-(k - N + 1)).toNat) + Q * B ^ (k - N + 1).toNat) / (2 * (Q * B ^ (k - N + 1).toNat))) {d f : Int}
    (c : (m ≠ B ^ N ∧ d = m ∧ f = k - N + 1) ∨ (m = B ^ N ∧ d = B ^ (N - 1) ∧ f = k - N + 2)) : Rnd B N ((P : Rat) / (Q : Rat)) d f := by
  have pA : 0 < B ^ (k - (N : Int) + 1).toNat := Int.pow_pos (by omega)
  have pD : 0 < B ^ (-(k - (N : Int) + 1)).toNat := Int.pow_pos (by omega)
  have e := pz_ud (show 0 < B by omega) (k - N + 1)
  have u := pz_pos (show 0 < B by omega) (k - N + 1)
  generalize B ^ (k - (N : Int) + 1).toNat = A at *
  generalize B ^ (-(k - (N : Int) + 1)).toNat = D at *
  have hq : 0 < Q * A := Int.mul_pos hQ pA
  have g1 := Int.ediv_mul_le (2 * (P * D) + Q * A) (show 2 * (Q * A) ≠ 0 by omega)
  have g2 := Int.lt_ediv_add_one_mul_self (2 * (P * D) + Q * A) (show 0 < 2 * (Q * A) by omega)
  rw [← hm] at g1 g2
  have g1 : (2 * (m : Rat) - 1) * (Q * A) ≤ 2 * (P * D) := by
    have g1 : (2 * m - 1) * (Q * A) ≤ 2 * (P * D) := by grind
    exact_mod_cast g1
  have g2 : 2 * ((P : Rat) * D) < (2 * (m : Rat) + 1) * (Q * A) := by
    have g2 : 2 * (P * D) < (2 * m + 1) * (Q * A) := by grind
    exact_mod_cast g2
  have hD : (0 : Rat) < D := cast_pos pD
  have hQ' : (0 : Rat) < Q := cast_pos hQ
  have x : (P : Rat) = (P : Rat) / (Q : Rat) * Q := by
    rw [Rat.div_mul_cancel (Rat.ne_of_gt hQ')]
  refine ⟨k, m, o, ?_, ?_, c⟩
  · apply Rat.not_lt.mp
    intro g
    have h1 := Rat.mul_lt_mul_of_pos_right g (Rat.mul_pos hQ' hD)
    rw [e] at g1
    exact h_c1 x g1 h1
  · rw [e] at g2
    have h1 := h_c2 x g2
    exact lt_of_mul (Rat.mul_pos hQ' hD) h1
theorem h_n1 {X V U l d b q a p : Rat} (ea : a = V * b) (ep : p = U * q) (x : X = l * V) (hb : 0 < b) (hq : 0 < q) (g : 2 * X - 2 * d * U ≤ U) : 2 * (l * a * q - d * p * b) ≤ p * b := by
  subst ea ep x
  have := Rat.mul_le_mul_of_nonneg_right g (Rat.le_of_lt (Rat.mul_pos hb hq))
  grind
theorem h_n2 {X V U l d b q a p : Rat} (ea : a = V * b) (ep : p = U * q) (x : X = l * V) (hb : 0 < b) (hq : 0 < q) (g : 2 * d * U - 2 * X ≤ U) : 2 * (d * p * b - l * a * q) ≤ p * b := by
  subst ea ep x
  have := Rat.mul_le_mul_of_nonneg_right g (Rat.le_of_lt (Rat.mul_pos hb hq))
  grind
/-- what is written is near -/
theorem near_int {b o : Int} (hb : 2 ≤ b) (ho : 2 ≤ o) {N : Nat} (hN : 1 ≤ N) {l e d f : Int} (r : Rnd o N ((l : Rat) * pz b e) d f) :
    2 * ((l * b ^ e.toNat * o ^ (-f).toNat - d * o ^ f.toNat * b ^ (-e).toNat).natAbs : Int) ≤ o ^ f.toNat * b ^ (-e).toNat := by
  have ⟨g1, g2⟩ := r.near ho hN
  have ea := pz_ud (show 0 < b by omega) e
  have ep := pz_ud (show 0 < o by omega) f
  have pb : (0 : Rat) < ((b ^ (-e).toNat : Int) : Rat) := cast_pos (Int.pow_pos (by omega))
  have pq : (0 : Rat) < ((o ^ (-f).toNat : Int) : Rat) := cast_pos (Int.pow_pos (by omega))
  have k1 := h_n1 ea ep rfl pb pq g1
  have k2 := h_n2 ea ep rfl pb pq g2
  generalize b ^ e.toNat = A at *
  generalize b ^ (-e).toNat = B at *
  generalize o ^ f.toNat = P at *
  generalize o ^ (-f).toNat = Q at *
  have k1 : 2 * (l * A * Q - d * P * B) ≤ P * B := by exact_mod_cast k1
  have k2 : 2 * (d * P * B - l * A * Q) ≤ P * B := by exact_mod_cast k2
  omega
theorem pz_le_mul {b e : Int} (hb : 0 < b) {l m : Int} (h : l ≤ m) : (l : Rat) * pz b e ≤ (m : Rat) * pz b e := Rat.mul_le_mul_of_nonneg_right (by exact_mod_cast h) (Rat.le_of_lt (pz_pos hb e))
theorem pz_two {o : Int} (ho : 0 < o) (d f : Int) : (d : Rat) * pz o f = ((d * o * o : Int) : Rat) * pz o (f - 2) := by
  have e : pz o f = (o : Rat) * (o : Rat) * pz o (f - 2) := by
    rw [← pz_one o, ← pz_add ho, ← pz_add ho]
    congr 1
    omega
  rw [e, Rat.intCast_mul, Rat.intCast_mul]
  grind
end M53
namespace K53
open PySem PySem.Spec PyProof.Rows L2 My
/-! ### the text -/
def topS (i : Nat) : Stmt := PySem.Challenge.pw_pointorstrip_k53_words_of_formats.main.body.getD i (.Pass ⟨0, 0, 0, 0⟩)
abbrev s_is_number : Stmt := topS 4
theorem sc_is_number : FnScope ["value"] ["value"] (defScope s_is_number) := ⟨rfl, rfl, rfl, by decide +kernel, rfl, by decide +kernel, by decide +kernel⟩
abbrev s_is_between : Stmt := topS 5
theorem sc_is_between : FnScope ["least", "most", "value"] ["least", "most", "value"] (defScope s_is_between) := ⟨rfl, rfl, rfl, by decide +kernel, rfl, by decide +kernel, by decide +kernel⟩
abbrev s_check_between : Stmt := topS 6
theorem sc_check_between : FnScope ["least", "most", "value"] ["least", "most", "value"] (defScope s_check_between) := ⟨rfl, rfl, rfl, by decide +kernel, rfl, by decide +kernel, by decide +kernel⟩
abbrev s_power : Stmt := topS 7
theorem sc_power : FnScope ["base", "exponent", "found"] ["base", "exponent"] (defScope s_power) := ⟨rfl, rfl, rfl, by decide +kernel, rfl, by decide +kernel, by decide +kernel⟩
abbrev s_check_base : Stmt := topS 14
theorem sc_check_base : FnScope ["base"] ["base"] (defScope s_check_base) := ⟨rfl, rfl, rfl, by decide +kernel, rfl, by decide +kernel, by decide +kernel⟩
abbrev s_scaled_by : Stmt := topS 15
theorem sc_scaled_by : FnScope ["number", "base", "exponent"] ["number", "base", "exponent"] (defScope s_scaled_by) := ⟨rfl, rfl, rfl, by decide +kernel, rfl, by decide +kernel, by decide +kernel⟩
abbrev s_figures_in : Stmt := topS 16
theorem sc_figures_in : FnScope ["base", "number", "many", "bound"] ["base", "number"] (defScope s_figures_in) := ⟨rfl, rfl, rfl, by decide +kernel, rfl, by decide +kernel, by decide +kernel⟩
abbrev s_order_of : Stmt := topS 17
theorem sc_order_of : FnScope ["fraction", "base", "p", "q"] ["fraction", "base"] (defScope s_order_of) := ⟨rfl, rfl, rfl, by decide +kernel, rfl, by decide +kernel, by decide +kernel⟩
abbrev s_rounded : Stmt := topS 18
theorem sc_rounded : FnScope ["fraction", "base", "figures", "e", "unit", "p", "q", "m"] ["fraction", "base", "figures"] (defScope s_rounded) := ⟨rfl, rfl, rfl, by decide +kernel, rfl, by decide +kernel, by decide +kernel⟩
abbrev s_written : Stmt := topS 19
theorem sc_written : FnScope ["base", "m", "e", "other", "figures"] ["base", "m", "e", "other", "figures"] (defScope s_written) := ⟨rfl, rfl, rfl, by decide +kernel, rfl, by decide +kernel, by decide +kernel⟩
abbrev s__law_number : Stmt := topS 21
theorem sc__law_number : FnScope ["script", "index", "cell", "turn", "rest", "step", "blend"] ["script", "index"] (defScope s__law_number) := ⟨rfl, rfl, rfl, by decide +kernel, rfl, by decide +kernel, by decide +kernel⟩
abbrev s__law_take : Stmt := topS 22
theorem sc__law_take : FnScope ["draw", "many"] ["draw", "many"] (defScope s__law_take) := ⟨rfl, rfl, rfl, by decide +kernel, rfl, by decide +kernel, by decide +kernel⟩
abbrev s__law_pick : Stmt := topS 23
theorem sc__law_pick : FnScope ["draw", "items"] ["draw", "items"] (defScope s__law_pick) := ⟨rfl, rfl, rfl, by decide +kernel, rfl, by decide +kernel, by decide +kernel⟩
abbrev s__law_long : Stmt := topS 24
theorem sc__law_long : FnScope ["draw", "figures", "found", "turn"] ["draw", "figures"] (defScope s__law_long) := ⟨rfl, rfl, rfl, by decide +kernel, rfl, by decide +kernel, by decide +kernel⟩
abbrev s__law_pair : Stmt := topS 25
theorem sc__law_pair : FnScope ["base", "exponent", "found", "turn"] ["base", "exponent"] (defScope s__law_pair) := ⟨rfl, rfl, rfl, by decide +kernel, rfl, by decide +kernel, by decide +kernel⟩
abbrev s_law : Stmt := topS 26
theorem sc_law : FnScope ["script", "draw", "base", "other", "figures", "least", "e", "m", "late", "d", "f", "a", "b", "p", "q", "one", "first", "two", "last"] ["script"] (defScope s_law) := ⟨rfl, rfl, rfl, by decide +kernel, rfl, by decide +kernel, by decide +kernel⟩
/-- the built-in names that are still built-in, the package's constants -/
structure Nm (mg : Str → Option Value) : Prop where
  len : mg "len" = none
  range : mg "range" = none
  int : mg "int" = none
  bool : mg "bool" = none
  isinstance : mg "isinstance" = none
  abs : mg "abs" = none
  LEAST_BASE : ∃ t, mg "LEAST_BASE" = some (.int 2 t)
  MOST_BASE : ∃ t, mg "MOST_BASE" = some (.int 100 t)
  MOST_FIGURES : ∃ t, mg "MOST_FIGURES" = some (.int 60 t)
  MOST_EXPONENT : ∃ t, mg "MOST_EXPONENT" = some (.int 200 t)
  MOST_NUMBER : ∃ t, mg "MOST_NUMBER" = some (.int 1000000000000000000000000000000000000000000000000000000000000000000000000000000000000000000000000000000000000000000000000 t)
end K53
namespace K53
open PySem PySem.Spec PyProof.Rows L2 My M53
local macro_rules | `(tactic| walk_at "side") => `(tactic| (first
  | assumption
  | (refine OkMod.mk ?_; omega)
  | (refine mulOkL ?_ ?_ <;> omega)
  | (refine mulOkR ?_ ?_ <;> omega)
  | (refine divOk ?_ ?_ <;> omega)))
local macro_rules | `(tactic| walk_at "rd") => `(tactic| (first
  | with_reducible refine ⟨_, rfl, ?_⟩
  | refine ⟨_, rfl, ?_⟩
  | refine ⟨_, _, rfl, rfl, ?_⟩
  | refine And.intro (by walk_at "side") ?_
  | refine ⟨_, _, rfl, asm (by assumption), ?_⟩
  | refine ⟨_, _, rfl, asm ?_⟩))
section
variable {P : Program} {w : World} {K : PySem.W.Frag} {mg : Str → Option Value} {base : Heap}
/-! ### the draws -/
def spNumber (K : PySem.W.Frag) : Sp := fun vs H Q _ => ∃ (s : Addr) (i : Int) (ns : List Int), vs = [.ref s, .int i] ∧ SqL K H s (ns.map V.int) ∧ ns.length ≤ 63 ∧ ∀ (v : Int) H', Same H H' → Q (.int v) H'
theorem dpAll_ints {K : PySem.W.Frag} {H : Hp} : ∀ ns : List Int, DpAll K H (ns.map V.int) (ns.map PyData.int)
  | [] => .nil
  | n :: r => .cons (.int n) (dpAll_ints r)
theorem atI_mod {ns : List Int} (i : Int) (h : 0 < ns.length) : ∃ c : Int, atI (ns.map V.int) (i % ((ns.map V.int).length : Int)) = some (.int c) := by
  rw [List.length_map]
  have h0 := Int.emod_nonneg i (show ((ns.length : Nat) : Int) ≠ 0 by omega)
  have h1 := Int.emod_lt_of_pos i (show (0 : Int) < ((ns.length : Nat) : Int) by omega)
  generalize i % ((ns.length : Nat) : Int) = k at h0 h1
  obtain ⟨j, rfl⟩ := Int.eq_ofNat_of_zero_le h0
  have hj : j < ns.length := by omega
  refine ⟨ns[j], atI_nat ?_⟩
  rw [List.getElem?_map, List.getElem?_eq_getElem hj]
  rfl
theorem ok__law_number {f : Addr} {fd : FuncData} (T : Nm mg) (F : Fun K "_law_number" "_law_number" s__law_number f fd) : FnOk P w K mg base CX0 1 f fd ["script", "index"] (spNumber K) := by
  refine F.ok sc__law_number (fun vs H Q E h => ?_) (fun cdv A outer s H vs Q E hr h => ?_)
  · obtain ⟨s, i, ns, rfl, _⟩ := h
    rfl
  · obtain ⟨a, i, ns, rfl, hS, hl, q⟩ := h
    refine ⟨_, (pss_cons (ps_asg (pe_ifExp (pt_cmpR (op_neD hr.units) (pv 0) (pe_lst pa_nil) (nomark _)) (pe_tup (pa_cons (pe_ix ix_list (pv 0) (pe_op op_modA (pv 1) (pe_callB call_lenL (by rfl) T.len (by decide +kernel) (pa_cons (pv 0) pa_nil))) (fun _ _ => rfl)) (pa_cons (pe_op op_fdivA (pv 1) (pe_callB call_lenL (by rfl) T.len (by decide +kernel) (pa_cons (pv 0) pa_nil))) pa_nil))) (pe_tup (pa_cons pe_int (pa_cons pe_int pa_nil)))) (pg_tup rfl (pgs_cons (pg_name (i := 2) sc__law_number.nd rfl (Or.inl rfl)) (pgs_cons (pg_name (i := 3) sc__law_number.nd rfl (Or.inl rfl)) pgs_nil))))
    (pss_cons (ps_set (i := 4) sc__law_number.nd rfl (Or.inl rfl) (pe_ifExp (pt_cmpR op_lt (pv 3) pe_int (nomark _)) (pe_op op_sub (pv 2) (pe_op op_pow pe_int pe_int)) pe_int))
    (pss_cons (ps_for PassesOwn.never rfl (pi_range1 rfl T.range (pa_cons (pe_op op_modA (pe_callTy call_intI (by rfl) T.int (by decide +kernel) (pa_cons (pv 3) pa_nil)) pe_int) pa_nil)) (pg_name (i := 5) sc__law_number.nd rfl (Or.inl rfl))
      (pss_one (ps_set (i := 4) sc__law_number.nd rfl (Or.inl rfl) (pe_op op_fdivA (pv 4) pe_int))))
    (pss_cons (ps_if (pt_cmpR op_gt (pv 4) pe_int (nomark _))
      (pss_one (ps_ret (pe_op op_modA (pe_callTy call_intI (by rfl) T.int (by decide +kernel) (pa_cons (pv 4) pa_nil)) pe_int)))
      pss_nil)
    (pss_cons (ps_set (i := 6) sc__law_number.nd rfl (Or.inl rfl) (pe_op op_modA (pe_op op_add (pe_op op_mulA (pe_callTy call_intI (by rfl) T.int (by decide +kernel) (pa_cons (pe_op op_add (pv 2) (pe_op op_mulA pe_int (pv 1))) pa_nil)) pe_int) (pe_op op_mulA pe_int (pe_callB call_lenL (by rfl) T.len (by decide +kernel) (pa_cons (pv 0) pa_nil)))) pe_int))
    (pss_cons (ps_set (i := 6) sc__law_number.nd rfl (Or.inl rfl) (pe_op op_modA (pe_op op_add (pe_op op_mulA (pv 6) (pv 6)) (pe_op op_mulA pe_int (pv 1))) pe_int))
    (pss_one (ps_ret (pe_callTy call_intI (by rfl) T.int (by decide +kernel) (pa_cons (pe_op op_modA (pe_op op_add (pe_op op_mulA (pv 6) pe_int) (pe_op op_fdivA (pv 6) pe_int)) pe_int) pa_nil)))))))))), ?_⟩
    refine tIf_via (fun v H1 => ∃ p, ∃ c t : Int, v = .ref p ∧ Same H H1 ∧ H1 p = some (.tup [.int c, .int t])) (fun Q' h' => ?_) ?_
    · replace h' : ∀ p (c t : Int) H1, Same H H1 → H1 p = some (.tup [.int c, .int t]) → Q' (.ref p) H1 := fun p c t H1 a b => h' _ _ ⟨p, c, t, rfl, a, b⟩
      refine ⟨_, rfl, Nat.zero_le _, fun p np => ?_⟩
      have s1 : Same H (upd H p (.lst [])) := same_upd np
      have hS1 := s1.seq hS
      refine ⟨.list (ns.map PyData.int), .list [], .lst hS1 (dpAll_ints ns), .lst (.inl (.inl upd_same)) .nil, PySem.W.ke_shaped_ints ns, rfl, _, rfl, ?_⟩
      by_cases hn : ns = []
      · subst hn
        refine iteF ?_
        refine ⟨by show 2 ≤ sizeLine; decide, fun t nt => h' t _ _ _ (s1.trans (same_upd nt)) upd_same⟩
      · have e : (PyData.list (ns.map PyData.int)).eqv (PyData.list []) = false := by
          cases ns with
          | nil => exact absurd rfl hn
          | cons n r => rfl
        rw [e]
        refine iteT ?_
        have l0 : 0 < ns.length := List.length_pos_iff.mpr hn
        have l1 : (0 : Int) < ((ns.map V.int).length : Int) := by
          rw [List.length_map]
          omega
        have l2 : OkDiv i ((ns.map V.int).length : Int) := divOk l1 (by rw [List.length_map]; omega)
        obtain ⟨c, hc⟩ := atI_mod i l0
        have l3 : OkMod i ((ns.map V.int).length : Int) := ⟨l1⟩
        repeat (walk_at "rd")
        refine ⟨_, _, _, _, rfl, rfl, hS1, hc, ?_⟩
        repeat (walk_at "rd")
        exact ⟨by show 2 ≤ sizeLine; decide, fun t nt => h' t _ _ _ (s1.trans (same_upd nt)) upd_same⟩
    rintro _ H1 ⟨p, c, t, rfl, s1, hp⟩
    have hS1 := s1.seq hS
    refine ⟨p, _, rfl, .inl (.inl hp), rfl, _, _, rfl, _, _, rfl, rfl, ?_⟩
    -- rest = cell - 10 ** 18 if turn < 60 else 0
    dsimp only
    refine sIf_via (fun v H' => ∃ r : Int, v = .int r ∧ H1 = H') (fun Q' h' => ?_) ?_
    · replace h' : ∀ r : Int, Q' (.int r) H1 := fun r => h' _ _ ⟨r, rfl, rfl⟩
      refine ⟨_, rfl, _, _, rfl, rfl, _, rfl, ite2 (fun _ => ?_) (fun _ => h' 0)⟩
      exact ⟨_, rfl, _, _, rfl, rfl, ⟨by decide, by decide, by decide⟩, _, _, rfl, rfl, h' _⟩
    -- the loop
    rintro _ _ ⟨r, rfl, rfl⟩
    have c60 : OkMod t 60 := ⟨by omega⟩
    have t0 := Int.emod_nonneg t (show (60 : Int) ≠ 0 by decide)
    have t1 := Int.emod_lt_of_pos t (show (0 : Int) < 60 by decide)
    repeat (walk_at "rd")
    refine ⟨(by omega), (by omega), for_range (n := (t % 60).toNat) (fun i' σ H' => ∃ (r : Int), ∃ y, σ = [some (.ref a), some (.int i), some (.int c), some (.int t), some (.int r), y, none] ∧ H' = H1) ⟨r, none, rfl, rfl⟩ ?_ ?_⟩
    · rintro j σ H' hj ⟨r, y, rfl, rfl⟩
      have d : OkDiv r 1009 := divOk (by omega) (by omega)
      repeat (walk_at "rd")
      rfl
    rintro σ H' ⟨r, y, rfl, rfl⟩
    have c9 : OkMod r 1009 := ⟨by omega⟩
    refine ⟨_, rfl, _, _, rfl, rfl, _, rfl, ite2 (fun _ => ?_) (fun _ => ?_)⟩
    · repeat (walk_at "rd")
      exact q _ _ s1
    repeat (walk_at "rd")
    exact q _ _ s1
def spTake (K : PySem.W.Frag) : Sp := fun vs H Q _ => ∃ (d s : Addr) (m : Int) (ns : List Int), vs = [.ref d, .int m] ∧ DrawAt K H d s ns ∧ 0 < m ∧ ∀ (r : Int) H', 0 ≤ r → r < m → Keep d H H' → DrawAt K H' d s ns → Q (.int r) H'
theorem ok__law_take {f f1 : Addr} {fd fd1 : FuncData} (T : Nm mg) (C__law_number : Has P w K mg base "_law_number" 1 ["script", "index"] (spNumber K) f1 fd1) (F : Fun K "_law_take" "_law_take" s__law_take f fd) : FnOk P w K mg base CX0 2 f fd ["draw", "many"] (spTake K) := by
  refine F.ok sc__law_take (fun vs H Q E h => ?_) (fun cdv A outer s H vs Q E hr h => ?_)
  · obtain ⟨d, s, m, ns, rfl, _⟩ := h
    rfl
  · obtain ⟨d, s, m, ns, rfl, hD, hm, q⟩ := h
    obtain ⟨k, h1, h3, h4⟩ := id hD
    refine ⟨_, (pss_cons (ps_augS (pv 0) pe_int pget_list pe_int ip_add set_list)
    (pss_one (ps_ret (pe_op op_modA (pe_callTy call_intI (by rfl) T.int (by decide +kernel) (pa_cons (pe_call C__law_number.G (hr.mono (by decide)) (by rfl) C__law_number.g C__law_number.k C__law_number.b .nil pass0 (pa_cons (pe_ix ix_list (pv 0) pe_int (fun _ _ => rfl)) (pa_cons (pe_callTy call_intI (by rfl) T.int (by decide +kernel) (pa_cons (pe_ix ix_list (pv 0) pe_int (fun _ _ => rfl)) pa_nil)) pa_nil))) pa_nil)) (pv 1))))), ?_⟩
    refine ⟨_, rfl, d, _, _, _, rfl, rfl, .inl (.inl h1), rfl, _, _, rfl, rfl, d, _, _, 1, rfl, rfl, h1, rfl, ?_⟩
    have D1 : DrawAt K (upd H d (.lst [.ref s, .int (k + 1)])) d s ns := hD.set
    have K1 : Keep d H (upd H d (.lst [.ref s, .int (k + 1)])) := Keep.upd d H _
    refine ⟨_, rfl, d, _, _, _, rfl, rfl, .inl (.inl upd_same), rfl, _, rfl, d, _, _, _, rfl, rfl, .inl (.inl upd_same), rfl, _, rfl, ?_⟩
    refine ⟨s, k + 1, ns, rfl, K1.seqS h1 h3, h4, fun v H' sm => ?_⟩
    refine ⟨_, rfl, _, rfl, _, _, rfl, rfl, ⟨hm⟩, ?_⟩
    exact q _ _ (Int.emod_nonneg _ (by omega)) (Int.emod_lt_of_pos _ hm) (K1.trans (Keep.of sm)) (D1.same sm)
def spPick (K : PySem.W.Frag) : Sp := fun vs H Q _ => ∃ (d s l : Addr) (ns : List Int) (xs : List V), vs = [.ref d, .ref l] ∧ DrawAt K H d s ns ∧ l ≠ d ∧ SqL K H l xs ∧ 0 < xs.length ∧ ∀ v H', v ∈ xs → Keep d H H' → DrawAt K H' d s ns → Q v H'
theorem atI_in {α : Type} {xs : List α} {r : Int} (h0 : 0 ≤ r) (h1 : r < xs.length) : ∃ v, atI xs r = some v ∧ v ∈ xs := by
  obtain ⟨j, rfl⟩ := Int.eq_ofNat_of_zero_le h0
  have hj : j < xs.length := by omega
  exact ⟨xs[j], atI_nat (List.getElem?_eq_getElem hj), List.getElem_mem hj⟩
theorem ok__law_pick {f f1 : Addr} {fd fd1 : FuncData} (T : Nm mg) (C__law_take : Has P w K mg base "_law_take" 2 ["draw", "many"] (spTake K) f1 fd1) (F : Fun K "_law_pick" "_law_pick" s__law_pick f fd) : FnOk P w K mg base CX0 3 f fd ["draw", "items"] (spPick K) := by
  refine F.ok sc__law_pick (fun vs H Q E h => ?_) (fun cdv A outer s H vs Q E hr h => ?_)
  · obtain ⟨d, s, l, ns, xs, rfl, _⟩ := h
    rfl
  · obtain ⟨d, s, l, ns, xs, rfl, hD, hl, hX, h0, q⟩ := h
    refine ⟨_, (pss_one (ps_ret (pe_ix ix_list (pv 1) (pe_call C__law_take.G (hr.mono (by decide)) (by rfl) C__law_take.g C__law_take.k C__law_take.b .nil pass0 (pa_cons (pv 0) (pa_cons (pe_callB call_lenL (by rfl) T.len (by decide +kernel) (pa_cons (pv 1) pa_nil)) pa_nil))) (fun _ _ => rfl)))), ?_⟩
    refine ⟨_, rfl, _, rfl, _, rfl, l, xs, rfl, hX, ?_⟩
    refine ⟨d, s, _, ns, rfl, hD, by omega, fun r H' r0 r1 kp D' => ?_⟩
    obtain ⟨v, hv, hm⟩ := atI_in r0 r1
    exact ⟨l, xs, r, v, rfl, rfl, kp.seq hl hX, hv, q v H' hm kp D'⟩
def spLong (K : PySem.W.Frag) : Sp := fun vs H Q _ => ∃ (d s : Addr) (n : Int) (ns : List Int), vs = [.ref d, .int n] ∧ DrawAt K H d s ns ∧ 0 ≤ n ∧ n ≤ 1000 ∧ ∀ (r : Int) H', r.natAbs < 10 ^ n.toNat → Keep d H H' → DrawAt K H' d s ns → Q (.int r) H'
theorem ok__law_long {f f1 : Addr} {fd fd1 : FuncData} (T : Nm mg) (C__law_take : Has P w K mg base "_law_take" 2 ["draw", "many"] (spTake K) f1 fd1) (F : Fun K "_law_long" "_law_long" s__law_long f fd) : FnOk P w K mg base CX0 3 f fd ["draw", "figures"] (spLong K) := by
  refine F.ok sc__law_long (fun vs H Q E h => ?_) (fun cdv A outer s H vs Q E hr h => ?_)
  · obtain ⟨d, s, n, ns, rfl, _⟩ := h
    rfl
  · obtain ⟨d, s, n, ns, rfl, hD, n0, n1, q⟩ := h
    refine ⟨_, (pss_cons (ps_set (i := 2) sc__law_long.nd rfl (Or.inl rfl) pe_int)
    (pss_cons (ps_for PassesOwn.never rfl (pi_range1 rfl T.range (pa_cons (pe_call C__law_take.G (hr.mono (by decide)) (by rfl) C__law_take.g C__law_take.k C__law_take.b .nil pass0 (pa_cons (pv 0) (pa_cons (pe_op op_add (pv 1) pe_int) pa_nil))) pa_nil)) (pg_name (i := 3) sc__law_long.nd rfl (Or.inl rfl))
      (pss_one (ps_set (i := 2) sc__law_long.nd rfl (Or.inl rfl) (pe_op op_add (pe_op op_mulA pe_int (pv 2)) (pe_call C__law_take.G (hr.mono (by decide)) (by rfl) C__law_take.g C__law_take.k C__law_take.b .nil pass0 (pa_cons (pv 0) (pa_cons pe_int pa_nil)))))))
    (pss_one (ps_ret (pe_ifExp (pt_cmpR op_eq (pe_call C__law_take.G (hr.mono (by decide)) (by rfl) C__law_take.g C__law_take.k C__law_take.b .nil pass0 (pa_cons (pv 0) (pa_cons pe_int pa_nil))) pe_int (nomark _)) (pv 2) (pe_op op_sub pe_int (pv 2))))))), ?_⟩
    refine ⟨_, rfl, _, rfl, _, _, rfl, rfl, d, s, n + 1, ns, rfl, hD, by omega, fun many H1 m0 m1 K1 D1 => ?_⟩
    refine ⟨_, rfl, by omega, by omega, for_range (n := many.toNat) (fun i σ H' => ∃ (r : Int), ∃ y, σ = [some (.ref d), some (.int n), some (.int r), y] ∧ 0 ≤ r ∧ r.natAbs < 10 ^ i ∧ Keep d H H' ∧ DrawAt K H' d s ns) ⟨0, none, rfl, by omega, by decide, K1, D1⟩ ?_ ?_⟩
    · rintro i σ H2 hi ⟨r, y, rfl, r0, rb, K2, D2⟩
      refine ⟨_, rfl, _, _, rfl, rfl, mulOkL (by omega) (by omega), _, rfl, d, s, 10, ns, rfl, D2, by omega, fun c H3 c0 c1 K3 D3 => ?_⟩
      refine ⟨_, _, rfl, rfl, 10 * r + c, _, rfl, by omega, ?_, K2.trans K3, D3⟩
      rw [Nat.pow_succ]
      omega
    · rintro σ H2 ⟨r, y, rfl, r0, rb, K2, D2⟩
      refine ⟨_, rfl, d, s, 2, ns, rfl, D2, by omega, fun c H3 c0 c1 K3 D3 => ?_⟩
      have hb : r.natAbs < 10 ^ n.toNat := Nat.lt_of_lt_of_le rb (Nat.pow_le_pow_right (by omega) (by omega))
      refine ⟨rfl, _, rfl, ite2 (fun _ => ?_) (fun _ => ?_)⟩
      · exact ⟨_, rfl, q _ _ hb (K2.trans K3) D3⟩
      · exact ⟨_, rfl, _, _, rfl, rfl, q _ _ (by omega) (K2.trans K3) D3⟩
end
end K53
namespace K53
open PySem PySem.Spec PyProof.Rows L2 My M53
local macro_rules | `(tactic| walk_at "side") => `(tactic| (first
  | assumption
  | (refine OkMod.mk ?_; omega)
  | (refine mulOkL ?_ ?_ <;> omega)
  | (refine mulOkR ?_ ?_ <;> omega)
  | (refine divOk ?_ ?_ <;> omega)))
local macro_rules | `(tactic| walk_at "rd") => `(tactic| (first
  | with_reducible refine ⟨_, rfl, ?_⟩
  | refine ⟨_, rfl, ?_⟩
  | refine ⟨_, _, rfl, rfl, ?_⟩
  | refine And.intro (by walk_at "side") ?_
  | refine ⟨_, _, rfl, asm (by assumption), ?_⟩
  | refine ⟨_, _, rfl, asm ?_⟩))
section
variable {P : Program} {w : World} {K : PySem.W.Frag} {mg : Str → Option Value} {base : Heap}

/-! ### sizes -/
def Sz (k : Nat) (i : Int) : Prop := i.natAbs < 2 ^ k
theorem Sz.le {k l : Nat} {i : Int} (h : Sz k i) (hl : k ≤ l) : Sz l i := Nat.lt_of_lt_of_le h (Nat.pow_le_pow_right (by decide) hl)
theorem Sz.add {k : Nat} {i j : Int} (h : Sz k i) (g : Sz k j) : Sz (k + 1) (i + j) := by
  unfold Sz at *
  rw [Nat.pow_succ]
  omega
theorem Sz.sub {k : Nat} {i j : Int} (h : Sz k i) (g : Sz k j) : Sz (k + 1) (i - j) := by
  unfold Sz at *
  rw [Nat.pow_succ]
  omega
theorem Sz.mul {k l : Nat} {i j : Int} (h : Sz k i) (g : Sz l j) : Sz (k + l) (i * j) := wide_lt h g
theorem Sz.ok {k l : Nat} {i j : Int} (h : Sz k i) (g : Sz l j) (hk : k ≤ 400000) (hl : l ≤ 400000) : OkMul i j := mulOk (h.le (Nat.le_succ k)) (g.le (Nat.le_succ l)) (Nat.succ_pos k) (Nat.succ_pos l) (by omega)
theorem Sz.dv {k : Nat} {i j : Int} (hj : 0 < j) (h : Sz k j) (hk : k ≤ 8900) : OkDiv i j := ⟨wide_div hj (h.le (Nat.le_succ k)) (Nat.succ_pos k) (by omega)⟩
theorem Sz.of {k : Nat} {i j : Int} (h : Sz k j) (h0 : 0 ≤ i) (hl : i ≤ j) : Sz k i := by
  unfold Sz at *
  omega
theorem Sz.pow {b : Int} (h0 : 0 ≤ b) (h : b ≤ 128) (n : Nat) : Sz (7 * n + 1) (b ^ n) := by
  obtain ⟨c, rfl⟩ := Int.eq_ofNat_of_zero_le h0
  show ((c : Int) ^ n).natAbs < 2 ^ (7 * n + 1)
  rw [← Int.natCast_pow, Int.natAbs_natCast, Nat.pow_succ, Nat.pow_mul]
  have := Nat.pow_le_pow_left (show c ≤ 2 ^ 7 by omega) n
  have := Nat.pow_pos (a := 2 ^ 7) (n := n) (by decide)
  omega
/-! ### is_number, is_between, check_between, check_base -/
def spIsN : Sp := fun vs H Q _ => ∃ i : Int, vs = [.int i] ∧ Q (.bl true) H
theorem ok_is_number {f : Addr} {fd : FuncData} (T : Nm mg) (F : Fun K "is_number" "is_number" s_is_number f fd) : FnOk P w K mg base CX0 1 f fd ["value"] spIsN := by
  refine F.ok sc_is_number (fun vs H Q E h => ?_) (fun cdv A outer s H vs Q E hr h => ?_)
  · obtain ⟨i, rfl, _⟩ := h
    rfl
  · obtain ⟨i, rfl, q⟩ := h
    refine ⟨_, (pss_one (ps_ret (pe_and (pe_callB call_isi (by rfl) T.isinstance (by decide +kernel) (pa_cons (pv 0) (pa_cons (pe_ty (n := "int") (by rfl) T.int (by decide +kernel)) pa_nil))) (pe_one (pe_not (pe_callB call_isi (by rfl) T.isinstance (by decide +kernel) (pa_cons (pv 0) (pa_cons (pe_ty (n := "bool") (by rfl) T.bool (by decide +kernel)) pa_nil)))))))), ?_⟩
    refine ⟨_, rfl, _, _, _, _, _, rfl, .ty _, .base (.int _), kit_ty (by decide +kernel), true, rfl, iteT ?_⟩
    exact ⟨_, rfl, _, _, _, _, _, rfl, .ty _, .base (.int _), kit_ty (by decide +kernel), false, rfl, q⟩
def spBetween : Sp := fun vs H Q _ => ∃ l m i : Int, vs = [.int l, .int m, .int i] ∧ l ≤ i ∧ i ≤ m ∧ Q (.bl true) H
theorem ok_is_between {f fN : Addr} {fd fdN : FuncData} (C_is_number : Has P w K mg base "is_number" 1 ["value"] spIsN fN fdN) (F : Fun K "is_between" "is_between" s_is_between f fd) : FnOk P w K mg base CX0 2 f fd ["least", "most", "value"] spBetween := by
  refine F.ok sc_is_between (fun vs H Q E h => ?_) (fun cdv A outer s H vs Q E hr h => ?_)
  · obtain ⟨l, m, i, rfl, _⟩ := h
    rfl
  · obtain ⟨l, m, i, rfl, h1, h2, q⟩ := h
    refine ⟨_, (pss_one (ps_ret (pe_and (pe_call C_is_number.G (hr.mono (by decide)) (by rfl) C_is_number.g C_is_number.k C_is_number.b .nil pass0 (pa_cons (pv 2) pa_nil)) (pe_one (pe_chain op_le op_le (pv 0) (pv 2) (pv 1)))))), ?_⟩
    refine ⟨_, rfl, i, rfl, true, rfl, iteT ?_⟩
    refine ⟨_, rfl, _, rfl, _, _, rfl, rfl, _, rfl, ?_⟩
    rw [decide_eq_true h1]
    refine iteT ⟨_, rfl, _, _, rfl, rfl, ?_⟩
    show Q (.bl (decide (i ≤ m))) H
    rw [decide_eq_true h2]
    exact q
def spCheckB : Sp := fun vs H Q _ => ∃ l m i : Int, vs = [.int l, .int m, .int i] ∧ l ≤ i ∧ i ≤ m ∧ Q .non H
theorem ok_check_between {f fN : Addr} {fd fdN : FuncData} (C_is_between : Has P w K mg base "is_between" 2 ["least", "most", "value"] spBetween fN fdN) (F : Fun K "check_between" "check_between" s_check_between f fd) : FnOk P w K mg base CX0 3 f fd ["least", "most", "value"] spCheckB := by
  refine F.ok sc_check_between (fun vs H Q E h => ?_) (fun cdv A outer s H vs Q E hr h => ?_)
  · obtain ⟨l, m, i, rfl, _⟩ := h
    rfl
  · obtain ⟨l, m, i, rfl, h1, h2, q⟩ := h
    refine ⟨_, (pss_one (ps_if (pt_not (pt_val (pe_call C_is_between.G (hr.mono (by decide)) (by rfl) C_is_between.g C_is_between.k C_is_between.b .nil pass0 (pa_cons (pv 0) (pa_cons (pv 1) (pa_cons (pv 2) pa_nil))))))
      (pss_one ps_never)
      pss_nil)), ?_⟩
    exact ⟨_, rfl, _, rfl, _, rfl, l, m, i, rfl, h1, h2, true, rfl, iteF q⟩
def spBase : Sp := fun vs H Q _ => ∃ i : Int, vs = [.int i] ∧ 2 ≤ i ∧ i ≤ 100 ∧ Q .non H
theorem ok_check_base {f fN : Addr} {fd fdN : FuncData} (T : Nm mg) (C_check_between : Has P w K mg base "check_between" 3 ["least", "most", "value"] spCheckB fN fdN) (F : Fun K "check_base" "check_base" s_check_base f fd) : FnOk P w K mg base CX0 4 f fd ["base"] spBase := by
  obtain ⟨_, c_LEAST_BASE⟩ := T.LEAST_BASE
  obtain ⟨_, c_MOST_BASE⟩ := T.MOST_BASE
  refine F.ok sc_check_base (fun vs H Q E h => ?_) (fun cdv A outer s H vs Q E hr h => ?_)
  · obtain ⟨i, rfl, _⟩ := h
    rfl
  · obtain ⟨i, rfl, h1, h2, q⟩ := h
    refine ⟨_, (pss_one (ps_expr (pe_call C_check_between.G (hr.mono (by decide)) (by rfl) C_check_between.g C_check_between.k C_check_between.b .nil pass0 (pa_cons (pe_glob (v := .int 2) rfl c_LEAST_BASE ⟨_, rfl⟩) (pa_cons (pe_glob (v := .int 100) rfl c_MOST_BASE ⟨_, rfl⟩) (pa_cons (pv 0) pa_nil)))))), ?_⟩
    exact ⟨_, rfl, 2, 100, i, rfl, h1, h2, q⟩
/-! ### power -/
theorem pow_odd {p b n G : Nat} (h : p * b ^ n = G) (o : n % 2 = 1) : p * b * (b * b) ^ (n / 2) = G := by
  have e : n = 2 * (n / 2) + 1 := by omega
  generalize n / 2 = k at e ⊢
  subst e
  rw [← h, Nat.pow_succ, Nat.pow_mul, Nat.pow_two, Nat.mul_assoc, Nat.mul_comm b]
theorem pow_even {p b n G : Nat} (h : p * b ^ n = G) (o : n % 2 = 0) : p * (b * b) ^ (n / 2) = G := by
  have e : n = 2 * (n / 2) := by omega
  generalize n / 2 = k at e ⊢
  subst e
  rw [← h, Nat.pow_mul, Nat.pow_two]
def spPow : Sp := fun vs H Q _ => ∃ b e : Int, vs = [.int b, .int e] ∧ 1 ≤ b ∧ b ≤ 128 ∧ 0 ≤ e ∧ e ≤ 50000 ∧ Q (.int (b ^ e.toNat)) H
theorem ok_power {f : Addr} {fd : FuncData} (F : Fun K "power" "power" s_power f fd) : FnOk P w K mg base CX0 1 f fd ["base", "exponent"] spPow := by
  refine F.ok sc_power (fun vs H Q E h => ?_) (fun cdv A outer s H vs Q E hr h => ?_)
  · obtain ⟨b, e, rfl, _⟩ := h
    rfl
  · obtain ⟨b, e, rfl, b0, b1, e0, e1, q⟩ := h
    have sE : Sz 350001 (b ^ e.toNat) := (Sz.pow (by omega) b1 e.toNat).le (by omega)
    obtain ⟨b', rfl⟩ := Int.eq_ofNat_of_zero_le (show 0 ≤ b by omega)
    obtain ⟨e', rfl⟩ := Int.eq_ofNat_of_zero_le e0
    rw [Int.toNat_natCast] at q sE
    rw [← Int.natCast_pow] at q sE
    have sE : b' ^ e' < 2 ^ 350001 := by
      unfold Sz at sE
      rw [Int.natAbs_natCast] at sE
      exact sE
    generalize hG : b' ^ e' = G at q sE
    refine ⟨_, (pss_cons (ps_set (i := 2) sc_power.nd rfl (Or.inl rfl) pe_int)
    (pss_cons (ps_while PassesOwn.never (pt_truth (pv 1) (by intro _; rfl))
      (pss_cons (ps_if (pt_truth (pe_op op_and (pv 1) pe_int) (by intro _; rfl))
      (pss_one (ps_set (i := 2) sc_power.nd rfl (Or.inl rfl) (pe_op op_mulA (pv 2) (pv 0))))
      pss_nil)
    (pss_cons (ps_set (i := 0) sc_power.nd rfl (Or.inl rfl) (pe_op op_mulA (pv 0) (pv 0)))
    (pss_one (ps_set (i := 1) sc_power.nd rfl (Or.inl rfl) (pe_op op_shr (pv 1) pe_int))))))
    (pss_one (ps_ret (pv 2))))), ?_⟩
    dsimp only [tSeq, tAsg, tC, gName]
    refine while_by (fun σ H' => H' = H ∧ ∃ n p b : Nat, σ = [some (.int b), some (.int n), some (.int p)] ∧ p * b ^ n = G ∧ 1 ≤ b ∧ 1 ≤ p) (fun σ _ => match σ with | _ :: some (.int i) :: _ => i.toNat | _ => 0) ⟨rfl, e', 1, b', rfl, by rw [Nat.one_mul]; exact hG, by omega, by decide⟩ ?_ ?_
    · clear hG
      rintro σ H' ⟨rfl, n, p, b, rfl, hp, b1, p1⟩
      refine ⟨_, rfl, decide (n ≠ 0), ?_, ?_⟩
      · show decide (n ≠ 0) = ((n : Int) != 0)
        rw [Bool.eq_iff_iff]
        simp
      by_cases hn : n = 0
      · subst hn
        refine iteF ?_
        rw [Nat.pow_zero, Nat.mul_one] at hp
        exact ⟨_, rfl, by rw [hp]; exact q⟩
      · rw [decide_eq_true hn]
        refine iteT ?_
        have h1 : b ≤ G := by
          have z : b ^ 1 ≤ b ^ n := Nat.pow_le_pow_right b1 (by omega)
          have y : b ^ n ≤ p * b ^ n := Nat.le_mul_of_pos_left _ p1
          rw [Nat.pow_one] at z
          omega
        have h2 : p ≤ G := by
          rw [← hp]
          exact Nat.le_mul_of_pos_right _ (Nat.pow_pos b1)
        have mb : OkMul (b : Int) (b : Int) := mulOk (a := 350001) (b := 350001) (by rw [Int.natAbs_natCast]; omega) (by rw [Int.natAbs_natCast]; omega) (by decide) (by decide) (by decide)
        have mp : OkMul (p : Int) (b : Int) := mulOk (a := 350001) (b := 350001) (by rw [Int.natAbs_natCast]; omega) (by rw [Int.natAbs_natCast]; omega) (by decide) (by decide) (by decide)
        refine ⟨_, rfl, _, _, rfl, rfl, decide (n % 2 = 1), ?_, ?_⟩
        · show decide (n % 2 = 1) = (Builtin.bitAnd (n : Int) 1 != 0)
          rw [bitAnd_m1, Bool.eq_iff_iff]
          simp
          omega
        have sh : ((n : Int) / 2 ^ (1 : Int).toNat) = ((n / 2 : Nat) : Int) := by
          show (n : Int) / 2 ^ 1 = _
          omega
        by_cases ho : n % 2 = 1
        · rw [decide_eq_true ho]
          refine iteT ?_
          refine ⟨_, rfl, _, rfl, _, _, rfl, rfl, mp, ?_⟩
          refine ⟨_, rfl, _, rfl, _, _, rfl, rfl, mb, ?_⟩
          refine ⟨_, rfl, _, _, rfl, rfl, by show (0 : Int) ≤ 1; decide, ?_⟩
          refine ⟨⟨rfl, n / 2, p * b, b * b, ?_, pow_odd hp ho, Nat.mul_le_mul b1 b1, Nat.mul_le_mul p1 b1⟩, ?_⟩
          · show [some (V.int ((b : Int) * b)), some (V.int ((n : Int) / 2 ^ (1 : Int).toNat)), some (V.int ((p : Int) * b))] = _
            rw [sh, Int.natCast_mul, Int.natCast_mul]
          · show ((n : Int) / 2 ^ (1 : Int).toNat).toNat < (n : Int).toNat
            rw [sh]
            omega
        · rw [decide_eq_false ho]
          refine iteF ?_
          refine ⟨_, rfl, _, rfl, _, _, rfl, rfl, mb, ?_⟩
          refine ⟨_, rfl, _, _, rfl, rfl, by show (0 : Int) ≤ 1; decide, ?_⟩
          refine ⟨⟨rfl, n / 2, p, b * b, ?_, pow_even hp (by omega), Nat.mul_le_mul b1 b1, p1⟩, ?_⟩
          · show [some (V.int ((b : Int) * b)), some (V.int ((n : Int) / 2 ^ (1 : Int).toNat)), some (V.int (p : Int))] = _
            rw [sh, Int.natCast_mul]
          · show ((n : Int) / 2 ^ (1 : Int).toNat).toNat < (n : Int).toNat
            rw [sh]
            omega
    · rintro σ H' Q1 Q2 h ⟨v, e1, k, t, z⟩
      exact ⟨v, e1, k, t, h _ _ z⟩
end
end K53

namespace K53
open PySem PySem.Spec PyProof.Rows L2 My M53
local macro_rules | `(tactic| walk_at "side") => `(tactic| (first
  | assumption
  | (refine OkMod.mk ?_; omega)
  | (refine mulOkL ?_ ?_ <;> omega)
  | (refine mulOkR ?_ ?_ <;> omega)
  | (refine divOk ?_ ?_ <;> omega)))
local macro_rules | `(tactic| walk_at "rd") => `(tactic| (first
  | with_reducible refine ⟨_, rfl, ?_⟩
  | refine ⟨_, rfl, ?_⟩
  | refine ⟨_, _, rfl, rfl, ?_⟩
  | refine And.intro (by walk_at "side") ?_
  | refine ⟨_, _, rfl, asm (by assumption), ?_⟩
  | refine ⟨_, _, rfl, asm ?_⟩))
section
variable {P : Program} {w : World} {K : PySem.W.Frag} {mg : Str → Option Value} {base : Heap}

/-! ### scaled_by, figures_in, order_of, rounded, written -/
def spScaled (K : PySem.W.Frag) : Sp := fun vs H Q _ => ∃ n b e : Int, vs = [.int n, .int b, .int e] ∧ Sz 20000 n ∧ 1 ≤ b ∧ b ≤ 128 ∧ -50000 ≤ e ∧ e ≤ 50000 ∧
  ∀ p H', Same H H' → H' p = some (.tup [.int (n * b ^ e.toNat), .int (b ^ (-e).toNat)]) → Q (.ref p) H'
theorem ok_scaled_by {f f1 : Addr} {fd fd1 : FuncData} (C_power : Has P w K mg base "power" 1 ["base", "exponent"] spPow f1 fd1) (F : Fun K "scaled_by" "scaled_by" s_scaled_by f fd) : FnOk P w K mg base CX0 2 f fd ["number", "base", "exponent"] (spScaled K) := by
  refine F.ok sc_scaled_by (fun vs H Q E h => ?_) (fun cdv A outer s H vs Q E hr h => ?_)
  · obtain ⟨n, b, e, rfl, _⟩ := h
    rfl
  · obtain ⟨n, b, e, rfl, sn, b0, b1, e0, e1, q⟩ := h
    refine ⟨_, (pss_cons (ps_if (pt_cmpR op_lt (pv 2) pe_int (nomark _))
      (pss_one (ps_ret (pe_tup (pa_cons (pv 0) (pa_cons (pe_call C_power.G (hr.mono (by decide)) (by rfl) C_power.g C_power.k C_power.b .nil pass0 (pa_cons (pv 1) (pa_cons (pe_un un_neg (pv 2)) pa_nil))) pa_nil)))))
      pss_nil)
    (pss_one (ps_ret (pe_tup (pa_cons (pe_op op_mulA (pv 0) (pe_call C_power.G (hr.mono (by decide)) (by rfl) C_power.g C_power.k C_power.b .nil pass0 (pa_cons (pv 1) (pa_cons (pv 2) pa_nil)))) (pa_cons pe_int pa_nil)))))), ?_⟩
    refine ⟨_, rfl, _, _, rfl, rfl, _, rfl, ?_⟩
    by_cases h : e < 0
    · rw [decide_eq_true h]
      refine iteT ?_
      refine ⟨_, rfl, _, rfl, _, rfl, _, rfl, b, -e, rfl, b0, b1, by omega, by omega, ?_⟩
      refine ⟨by show 2 ≤ sizeLine; decide, fun p np => ?_⟩
      refine q p _ (same_upd np) ?_
      rw [upd_same, show e.toNat = 0 by omega, Int.pow_zero, Int.mul_one]
    · rw [decide_eq_false h]
      refine iteF ?_
      have sp : Sz 350001 (b ^ e.toNat) := (Sz.pow (by omega) b1 e.toNat).le (by omega)
      refine ⟨_, rfl, _, rfl, _, rfl, b, e, rfl, b0, b1, by omega, by omega, ?_⟩
      refine ⟨_, _, rfl, rfl, sn.ok sp (by decide) (by decide), ?_⟩
      refine ⟨by show 2 ≤ sizeLine; decide, fun p np => ?_⟩
      refine q p _ (same_upd np) ?_
      rw [upd_same, show (-e).toNat = 0 by omega, Int.pow_zero]
def spFigIn : Sp := fun vs H Q _ => ∃ b n : Int, vs = [.int b, .int n] ∧ 2 ≤ b ∧ b ≤ 128 ∧ 0 ≤ n ∧ ∀ j : Nat, n < b ^ j → (j = 0 ∨ b ^ (j - 1) ≤ n) → Q (.int j) H
theorem ok_figures_in {f : Addr} {fd : FuncData} (F : Fun K "figures_in" "figures_in" s_figures_in f fd) : FnOk P w K mg base CX0 1 f fd ["base", "number"] spFigIn := by
  refine F.ok sc_figures_in (fun vs H Q E h => ?_) (fun cdv A outer s H vs Q E hr h => ?_)
  · obtain ⟨b, n, rfl, _⟩ := h
    rfl
  · obtain ⟨b, n, rfl, b0, b1, n0, q⟩ := h
    refine ⟨_, (pss_cons (ps_set (i := 2) sc_figures_in.nd rfl (Or.inl rfl) pe_int)
    (pss_cons (ps_set (i := 3) sc_figures_in.nd rfl (Or.inl rfl) pe_int)
    (pss_cons (ps_while PassesOwn.never (pt_cmpR op_le (pv 3) (pv 1) (nomark _))
      (pss_cons (ps_set (i := 3) sc_figures_in.nd rfl (Or.inl rfl) (pe_op op_mulA (pv 3) (pv 0)))
    (pss_one (ps_set (i := 2) sc_figures_in.nd rfl (Or.inl rfl) (pe_op op_add (pv 2) pe_int)))))
    (pss_one (ps_ret (pv 2)))))), ?_⟩
    dsimp only [tSeq, tAsg, tC, gName]
    refine while_by (fun σ H' => H' = H ∧ ∃ j : Nat, σ = [some (.int b), some (.int n), some (.int j), some (.int (b ^ j))] ∧ (j = 0 ∨ b ^ (j - 1) ≤ n)) (fun σ _ => match σ with | _ :: _ :: _ :: some (.int i) :: _ => (n + 1 - i).toNat | _ => 0) ⟨rfl, 0, by rw [Int.pow_zero]; rfl, .inl rfl⟩ ?_ ?_
    · rintro σ H' ⟨rfl, j, rfl, hj⟩
      refine ⟨_, rfl, _, rfl, _, _, rfl, rfl, _, rfl, ?_⟩
      by_cases h : b ^ j ≤ n
      · rw [decide_eq_true h]
        refine iteT ?_
        have p : 0 < b ^ j := Int.pow_pos (by omega)
        have g := Int.mul_le_mul_of_nonneg_left b0 (Int.le_of_lt p)
        refine ⟨_, rfl, _, rfl, _, _, rfl, rfl, mulOkR (by omega) (by omega), ?_⟩
        refine ⟨_, rfl, _, _, rfl, rfl, ?_⟩
        refine ⟨⟨rfl, j + 1, ?_, .inr h⟩, ?_⟩
        · show [some (V.int b), some (V.int n), some (V.int ((j : Int) + 1)), some (V.int (b ^ j * b))] = _
          rw [Int.pow_succ]
          rfl
        · show (n + 1 - b ^ j * b).toNat < (n + 1 - b ^ j).toNat
          omega
      · rw [decide_eq_false h]
        refine iteF ?_
        exact ⟨_, rfl, q j (by omega) hj⟩
    · rintro σ H' Q1 Q2 h ⟨a1, e1, a2, e2, a3, a4, e3, e4, a5, e5, z⟩
      exact ⟨a1, e1, a2, e2, a3, a4, e3, e4, a5, e5, h _ _ z⟩
def spOrder (K : PySem.W.Frag) : Sp := fun vs H Q _ => ∃ (p : Addr) (A B b : Int), vs = [.ref p, .int b] ∧ SqT K H p [.int A, .int B] ∧ 0 < A ∧ 0 < B ∧ Sz 8900 A ∧ Sz 8900 B ∧ 2 ≤ b ∧ b ≤ 128 ∧
  ∀ k : Int, Ord b ((A : Rat) / (B : Rat)) k → Q (.int k) H
theorem ok_order_of {f f1 : Addr} {fd fd1 : FuncData} (C_figures_in : Has P w K mg base "figures_in" 1 ["base", "number"] spFigIn f1 fd1) (F : Fun K "order_of" "order_of" s_order_of f fd) : FnOk P w K mg base CX0 2 f fd ["fraction", "base"] (spOrder K) := by
  refine F.ok sc_order_of (fun vs H Q E h => ?_) (fun cdv A outer s H vs Q E hr h => ?_)
  · obtain ⟨p, A, B, b, rfl, _⟩ := h
    rfl
  · obtain ⟨p, A, B, b, rfl, hp, hA, hB, sA, sB, b0, b1, q⟩ := h
    refine ⟨_, (pss_cons (ps_asg (pv 0) (pg_tup rfl (pgs_cons (pg_name (i := 2) sc_order_of.nd rfl (Or.inl rfl)) (pgs_cons (pg_name (i := 3) sc_order_of.nd rfl (Or.inl rfl)) pgs_nil))))
    (pss_cons (ps_if (pt_cmpR op_ge (pv 2) (pv 3) (nomark _))
      (pss_one (ps_ret (pe_op op_sub (pe_call C_figures_in.G (hr.mono (by decide)) (by rfl) C_figures_in.g C_figures_in.k C_figures_in.b .nil pass0 (pa_cons (pv 1) (pa_cons (pe_op op_fdivA (pv 2) (pv 3)) pa_nil))) pe_int)))
      pss_nil)
    (pss_one (ps_ret (pe_un un_neg (pe_call C_figures_in.G (hr.mono (by decide)) (by rfl) C_figures_in.g C_figures_in.k C_figures_in.b .nil pass0 (pa_cons (pv 1) (pa_cons (pe_op op_fdivA (pe_op op_sub (pv 3) pe_int) (pv 2)) pa_nil)))))))), ?_⟩
    refine ⟨_, rfl, p, _, rfl, hp, rfl, _, _, rfl, _, _, rfl, rfl, ?_⟩
    refine ⟨_, rfl, _, rfl, _, _, rfl, rfl, _, rfl, ?_⟩
    by_cases h : A ≥ B
    · rw [decide_eq_true h]
      refine iteT ?_
      have g : 1 ≤ A / B := (Int.le_ediv_iff_mul_le hB).mpr (by omega)
      refine ⟨_, rfl, _, rfl, _, rfl, _, _, rfl, rfl, sB.dv hB (by decide), ?_⟩
      refine ⟨b, A / B, rfl, b0, b1, by omega, fun j h1 h2 => ?_⟩
      refine ⟨_, _, rfl, rfl, ?_⟩
      rcases h2 with rfl | h2
      · rw [Int.pow_zero] at h1
        omega
      have j1 : 1 ≤ j := by
        rcases Nat.eq_zero_or_pos j with rfl | z
        · rw [Int.pow_zero] at h1
          omega
        · exact z
      exact q _ (ord_ge (by omega) hB j1 h2 h1)
    · rw [decide_eq_false h]
      refine iteF ?_
      have g : 1 ≤ (B - 1) / A := (Int.le_ediv_iff_mul_le hA).mpr (by omega)
      refine ⟨_, rfl, _, rfl, _, _, rfl, rfl, _, rfl, _, _, rfl, rfl, sA.dv hA (by decide), ?_⟩
      refine ⟨b, (B - 1) / A, rfl, b0, b1, by omega, fun j h1 h2 => ?_⟩
      refine ⟨_, rfl, ?_⟩
      have j1 : 1 ≤ j := by
        rcases Nat.eq_zero_or_pos j with rfl | z
        · rw [Int.pow_zero] at h1
          omega
        · exact z
      have h2 : b ^ (j - 1) ≤ (B - 1) / A := by
        rcases h2 with z | z
        · omega
        · exact z
      exact q _ (ord_lt (by omega) hA hB j1 h2 h1)
end
end K53

namespace K53
open PySem PySem.Spec PyProof.Rows L2 My M53
local macro_rules | `(tactic| walk_at "side") => `(tactic| (first
  | assumption
  | (refine OkMod.mk ?_; omega)
  | (refine mulOkL ?_ ?_ <;> omega)
  | (refine mulOkR ?_ ?_ <;> omega)
  | (refine divOk ?_ ?_ <;> omega)))
local macro_rules | `(tactic| walk_at "rd") => `(tactic| (first
  | with_reducible refine ⟨_, rfl, ?_⟩
  | refine ⟨_, rfl, ?_⟩
  | refine ⟨_, _, rfl, rfl, ?_⟩
  | refine And.intro (by walk_at "side") ?_
  | refine ⟨_, _, rfl, asm (by assumption), ?_⟩
  | refine ⟨_, _, rfl, asm ?_⟩))
section
variable {P : Program} {w : World} {K : PySem.W.Frag} {mg : Str → Option Value} {base : Heap}

/-! ### rounded, written -/
theorem exp_lt {b A : Int} {n S : Nat} (h : 2 ≤ b) (hl : b ^ n ≤ A) (s : Sz S A) : n < S := by
  obtain ⟨c, rfl⟩ := Int.eq_ofNat_of_zero_le (show 0 ≤ b by omega)
  rw [← Int.natCast_pow] at hl
  have h1 := Nat.pow_le_pow_left (show 2 ≤ c by omega) n
  unfold Sz at s
  have h2 : 2 ^ n < 2 ^ S := by omega
  exact (Nat.pow_lt_pow_iff_right (by decide)).mp h2
def spRounded (K : PySem.W.Frag) : Sp := fun vs H Q _ => ∃ (p : Addr) (A B b : Int) (N : Nat), vs = [.ref p, .int b, .int N] ∧ SqT K H p [.int A, .int B] ∧ 0 < A ∧ 0 < B ∧ Sz 3000 A ∧ Sz 3000 B ∧ 2 ≤ b ∧ b ≤ 128 ∧ 1 ≤ N ∧ N ≤ 64 ∧
  ∀ t (d f : Int) H', Same H H' → H' t = some (.tup [.int d, .int f]) → Rnd b N ((A : Rat) / (B : Rat)) d f → f.natAbs ≤ 4000 → Q (.ref t) H'
theorem ok_rounded {f f1 f2 f3 : Addr} {fd fd1 fd2 fd3 : FuncData} (C_power : Has P w K mg base "power" 1 ["base", "exponent"] spPow f1 fd1) (C_scaled_by : Has P w K mg base "scaled_by" 2 ["number", "base", "exponent"] (spScaled K) f2 fd2)
    (C_order_of : Has P w K mg base "order_of" 2 ["fraction", "base"] (spOrder K) f3 fd3) (F : Fun K "rounded" "rounded" s_rounded f fd) : FnOk P w K mg base CX0 3 f fd ["fraction", "base", "figures"] (spRounded K) := by
  refine F.ok sc_rounded (fun vs H Q E h => ?_) (fun cdv A outer s H vs Q E hr h => ?_)
  · obtain ⟨p, A, B, b, N, rfl, _⟩ := h
    rfl
  · obtain ⟨t, A, B, b, N, rfl, ht, hA, hB, sA, sB, b0, b1, N0, N1, q⟩ := h
    refine ⟨_, (pss_cons (ps_set (i := 3) sc_rounded.nd rfl (Or.inl rfl) (pe_op op_add (pe_op op_sub (pe_call C_order_of.G (hr.mono (by decide)) (by rfl) C_order_of.g C_order_of.k C_order_of.b .nil pass0 (pa_cons (pv 0) (pa_cons (pv 1) pa_nil))) (pv 2)) pe_int))
    (pss_cons (ps_set (i := 4) sc_rounded.nd rfl (Or.inl rfl) (pe_call C_scaled_by.G (hr.mono (by decide)) (by rfl) C_scaled_by.g C_scaled_by.k C_scaled_by.b .nil pass0 (pa_cons pe_int (pa_cons (pv 1) (pa_cons (pv 3) pa_nil)))))
    (pss_cons (ps_set (i := 5) sc_rounded.nd rfl (Or.inl rfl) (pe_op op_mulA (pe_ix ix_tup (pv 0) pe_int (fun _ _ => rfl)) (pe_ix ix_tup (pv 4) pe_int (fun _ _ => rfl))))
    (pss_cons (ps_set (i := 6) sc_rounded.nd rfl (Or.inl rfl) (pe_op op_mulA (pe_ix ix_tup (pv 0) pe_int (fun _ _ => rfl)) (pe_ix ix_tup (pv 4) pe_int (fun _ _ => rfl))))
    (pss_cons (ps_set (i := 7) sc_rounded.nd rfl (Or.inl rfl) (pe_op op_fdivA (pe_op op_add (pe_op op_mulA pe_int (pv 5)) (pv 6)) (pe_op op_mulA pe_int (pv 6))))
    (pss_cons (ps_if (pt_cmpR op_eq (pv 7) (pe_call C_power.G (hr.mono (by decide)) (by rfl) C_power.g C_power.k C_power.b .nil pass0 (pa_cons (pv 1) (pa_cons (pv 2) pa_nil))) (nomark _))
      (pss_one (ps_ret (pe_tup (pa_cons (pe_op op_fdivA (pv 7) (pv 1)) (pa_cons (pe_op op_add (pv 3) pe_int) pa_nil)))))
      pss_nil)
    (pss_one (ps_ret (pe_tup (pa_cons (pv 7) (pa_cons (pv 3) pa_nil))))))))))), ?_⟩
    refine ⟨_, rfl, _, rfl, t, A, B, b, rfl, ht, hA, hB, sA.le (by decide), sB.le (by decide), b0, b1, fun k o => ?_⟩
    refine ⟨_, rfl, _, _, rfl, rfl, _, _, rfl, rfl, ?_⟩
    have z := o.size b0 hA hB
    have k1 := exp_lt b0 z.1 sA
    have k2 := exp_lt b0 z.2 sB
    have su : Sz 3000 (b ^ (k - (N : Int) + 1).toNat) := sA.of (Int.le_of_lt (Int.pow_pos (by omega))) (Int.le_trans (pow_le (by omega) (by omega)) z.1)
    have sd : Sz 3500 (b ^ (-(k - (N : Int) + 1)).toNat) := by
      have h1 : b ^ (-(k - (N : Int) + 1)).toNat ≤ b ^ (-k - 1).toNat * b ^ N := by
        rw [← Int.pow_add]
        exact pow_le (by omega) (by omega)
      have h2 : b ^ (-k - 1).toNat * b ^ N ≤ B * b ^ N := Int.mul_le_mul_of_nonneg_right z.2 (Int.le_of_lt (Int.pow_pos (by omega)))
      exact ((sB.mul (Sz.pow (by omega) b1 N)).le (by omega)).of (Int.le_of_lt (Int.pow_pos (by omega))) (Int.le_trans h1 h2)
    have pu : 0 < b ^ (k - (N : Int) + 1).toNat := Int.pow_pos (by omega)
    refine ⟨_, rfl, _, rfl, 1, b, k - N + 1, rfl, by show (1 : Int).natAbs < 2 ^ 20000; exact Nat.one_lt_two_pow (by decide), by omega, b1, by omega, by omega, fun u H1 s1 hu => ?_⟩
    rw [Int.one_mul] at hu
    have ht1 := Same.tup s1 ht
    have hu1 : SqT K H1 u [.int (b ^ (k - (N : Int) + 1).toNat), .int (b ^ (-(k - (N : Int) + 1)).toNat)] := .inl (.inl hu)
    have pd : 0 < b ^ (-(k - (N : Int) + 1)).toNat := Int.pow_pos (by omega)
    have key := fun (m d f : Int) => rnd_of (N := N) (d := d) (f := f) (m := m) b0 hB o
    have sN : Sz 449 (b ^ N) := (Sz.pow (by omega) b1 N).le (by omega)
    have fits : (k - (N : Int) + 1).natAbs ≤ 3999 := by omega
    have hbN : b ^ N / b = b ^ (N - 1) := by
      rw [pow_split N0]
      exact Int.mul_ediv_cancel _ (by omega)
    clear hu z k1 k2 ht
    generalize b ^ (k - (N : Int) + 1).toNat = U at *
    generalize b ^ (-(k - (N : Int) + 1)).toNat = D at *
    have hp : 0 < A * D := Int.mul_pos hA pd
    have hq : 0 < B * U := Int.mul_pos hB pu
    have sp : Sz 6500 (A * D) := sA.mul sd
    have sq : Sz 6000 (B * U) := sB.mul su
    have s2 : Sz 2 2 := by unfold Sz; decide
    have sqq : Sz 6002 (2 * (B * U)) := (s2.mul sq).le (by decide)
    -- p, q
    refine ⟨_, rfl, t, _, _, _, rfl, rfl, ht1, rfl, _, rfl, u, _, _, _, rfl, rfl, hu1, rfl, _, _, rfl, rfl, sA.ok sd (by decide) (by decide), ?_⟩
    refine ⟨_, rfl, t, _, _, _, rfl, rfl, ht1, rfl, _, rfl, u, _, _, _, rfl, rfl, hu1, rfl, _, _, rfl, rfl, sB.ok su (by decide) (by decide), ?_⟩
    -- m
    refine ⟨_, rfl, _, _, rfl, rfl, mulOkL (by decide) (by decide), _, rfl, _, _, rfl, rfl, ?_⟩
    refine ⟨_, rfl, _, _, rfl, rfl, mulOkL (by decide) (by decide), _, _, rfl, rfl, sqq.dv (by omega) (by decide), ?_⟩
    have key := fun d f => key _ d f rfl
    refine ⟨_, rfl, _, rfl, _, rfl, b, N, rfl, by omega, b1, by omega, by omega, ?_⟩
    rw [Int.toNat_natCast]
    refine ⟨rfl, _, rfl, ite2 (fun h => ?_) (fun h => ?_)⟩
    · have h : (2 * (A * D) + B * U) / (2 * (B * U)) = b ^ N := V.int.inj (of_decide_eq_true h)
      refine ⟨_, rfl, _, rfl, _, _, rfl, rfl, divOk (by omega) (by omega), _, rfl, _, _, rfl, rfl, by show 2 ≤ sizeLine; decide, fun r nr => ?_⟩
      refine q r ((2 * (A * D) + B * U) / (2 * (B * U)) / b) (k - N + 1 + 1) _ (s1.trans (same_upd nr)) upd_same (key _ _ (.inr ⟨h, ?_, by omega⟩)) (by omega)
      rw [h, hbN]
    · have h : ¬ (2 * (A * D) + B * U) / (2 * (B * U)) = b ^ N := fun z => h (decide_eq_true (congrArg V.int z))
      refine ⟨_, rfl, _, rfl, by show 2 ≤ sizeLine; decide, fun r nr => ?_⟩
      exact q r ((2 * (A * D) + B * U) / (2 * (B * U))) (k - N + 1) _ (s1.trans (same_upd nr)) upd_same (key _ _ (.inl ⟨h, rfl, rfl⟩)) (by omega)
def spWritten (K : PySem.W.Frag) : Sp := fun vs H Q _ => ∃ b m e o F : Int, vs = [.int b, .int m, .int e, .int o, .int F] ∧ 2 ≤ b ∧ b ≤ 100 ∧ 1 ≤ m ∧ m ≤ 10 ^ 120 ∧ -200 ≤ e ∧ e ≤ 200 ∧ 2 ≤ o ∧ o ≤ 100 ∧ 1 ≤ F ∧ F ≤ 60 ∧
  ∀ t (d f : Int) H', Same H H' → H' t = some (.tup [.int d, .int f]) → Rnd o F.toNat ((m : Rat) * pz b e) d f → f.natAbs ≤ 4000 → Q (.ref t) H'
theorem frac_pz {b : Int} (hb : 0 < b) (m e : Int) : ((m * b ^ e.toNat : Int) : Rat) / ((b ^ (-e).toNat : Int) : Rat) = (m : Rat) * pz b e := by
  have p : (0 : Rat) < ((b ^ (-e).toNat : Int) : Rat) := cast_pos (Int.pow_pos hb)
  rw [Rat.intCast_mul, pz_ud hb e, ← Rat.mul_assoc, Rat.mul_div_cancel (Rat.ne_of_gt p)]
theorem ok_written {f f1 f2 f3 f4 : Addr} {fd fd1 fd2 fd3 fd4 : FuncData} (T : Nm mg) (C_check_base : Has P w K mg base "check_base" 4 ["base"] spBase f1 fd1) (C_check_between : Has P w K mg base "check_between" 3 ["least", "most", "value"] spCheckB f2 fd2)
    (C_scaled_by : Has P w K mg base "scaled_by" 2 ["number", "base", "exponent"] (spScaled K) f3 fd3) (C_rounded : Has P w K mg base "rounded" 3 ["fraction", "base", "figures"] (spRounded K) f4 fd4) (F : Fun K "written" "written" s_written f fd) :
    FnOk P w K mg base CX0 5 f fd ["base", "m", "e", "other", "figures"] (spWritten K) := by
  obtain ⟨_, c_MOST_NUMBER⟩ := T.MOST_NUMBER
  obtain ⟨_, c_MOST_EXPONENT⟩ := T.MOST_EXPONENT
  obtain ⟨_, c_MOST_FIGURES⟩ := T.MOST_FIGURES
  refine F.ok sc_written (fun vs H Q E h => ?_) (fun cdv A outer s H vs Q E hr h => ?_)
  · obtain ⟨b, m, e, o, F, rfl, _⟩ := h
    rfl
  · obtain ⟨b, m, e, o, N, rfl, b0, b1, m0, m1, e0, e1, o0, o1, N0, N1, q⟩ := h
    obtain ⟨N, rfl⟩ := Int.eq_ofNat_of_zero_le (show 0 ≤ N by omega)
    rw [Int.toNat_natCast] at q
    have big : (10 : Int) ^ 120 = 1000000000000000000000000000000000000000000000000000000000000000000000000000000000000000000000000000000000000000000000000 := by decide +kernel
    have sm : Sz 400 m := Sz.of (j := 10 ^ 120) (by unfold Sz; decide +kernel) (by omega) m1
    have su : Sz 1402 (b ^ e.toNat) := (Sz.pow (by omega) (by omega) e.toNat).le (by omega)
    have sd : Sz 1402 (b ^ (-e).toNat) := (Sz.pow (by omega) (by omega) (-e).toNat).le (by omega)
    refine ⟨_, (pss_cons (ps_expr (pe_call C_check_base.G (hr.mono (by decide)) (by rfl) C_check_base.g C_check_base.k C_check_base.b .nil pass0 (pa_cons (pv 0) pa_nil)))
    (pss_cons (ps_expr (pe_call C_check_between.G (hr.mono (by decide)) (by rfl) C_check_between.g C_check_between.k C_check_between.b .nil pass0 (pa_cons pe_int (pa_cons (pe_glob (v := .int 1000000000000000000000000000000000000000000000000000000000000000000000000000000000000000000000000000000000000000000000000) rfl c_MOST_NUMBER ⟨_, rfl⟩) (pa_cons (pv 1) pa_nil)))))
    (pss_cons (ps_expr (pe_call C_check_between.G (hr.mono (by decide)) (by rfl) C_check_between.g C_check_between.k C_check_between.b .nil pass0 (pa_cons (pe_un un_neg (pe_glob (v := .int 200) rfl c_MOST_EXPONENT ⟨_, rfl⟩)) (pa_cons (pe_glob (v := .int 200) rfl c_MOST_EXPONENT ⟨_, rfl⟩) (pa_cons (pv 2) pa_nil)))))
    (pss_cons (ps_expr (pe_call C_check_base.G (hr.mono (by decide)) (by rfl) C_check_base.g C_check_base.k C_check_base.b .nil pass0 (pa_cons (pv 3) pa_nil)))
    (pss_cons (ps_expr (pe_call C_check_between.G (hr.mono (by decide)) (by rfl) C_check_between.g C_check_between.k C_check_between.b .nil pass0 (pa_cons pe_int (pa_cons (pe_glob (v := .int 60) rfl c_MOST_FIGURES ⟨_, rfl⟩) (pa_cons (pv 4) pa_nil)))))
    (pss_one (ps_ret (pe_call C_rounded.G (hr.mono (by decide)) (by rfl) C_rounded.g C_rounded.k C_rounded.b .nil pass0 (pa_cons (pe_call C_scaled_by.G (hr.mono (by decide)) (by rfl) C_scaled_by.g C_scaled_by.k C_scaled_by.b .nil pass0 (pa_cons (pv 1) (pa_cons (pv 0) (pa_cons (pv 2) pa_nil)))) (pa_cons (pv 3) (pa_cons (pv 4) pa_nil))))))))))), ?_⟩
    refine ⟨_, rfl, b, rfl, b0, b1, ?_⟩
    refine ⟨_, rfl, 1, _, m, rfl, m0, by rw [← big]; exact m1, ?_⟩
    refine ⟨_, rfl, _, rfl, -200, 200, e, rfl, e0, e1, ?_⟩
    refine ⟨_, rfl, o, rfl, o0, o1, ?_⟩
    refine ⟨_, rfl, 1, 60, N, rfl, by omega, by omega, ?_⟩
    refine ⟨_, rfl, _, rfl, _, rfl, m, b, e, rfl, sm.le (by decide), by omega, by omega, by omega, by omega, fun p H1 s1 hp => ?_⟩
    refine ⟨_, rfl, _, rfl, p, _, _, o, N, rfl, .inl (.inl hp), Int.mul_pos (by omega) (Int.pow_pos (by omega)), Int.pow_pos (by omega), (sm.mul su).le (by decide), sd.le (by decide), o0, by omega, by omega, by omega, fun t d f H2 s2 ht hR hf => ?_⟩
    rw [frac_pz (by omega)] at hR
    exact q t d f H2 (s1.trans s2) ht hR hf
end
end K53

namespace K53
open PySem PySem.Spec PyProof.Rows L2 My M53
local macro_rules | `(tactic| walk_at "side") => `(tactic| (first
  | assumption
  | (refine OkMod.mk ?_; omega)
  | (refine mulOkL ?_ ?_ <;> omega)
  | (refine mulOkR ?_ ?_ <;> omega)
  | (refine divOk ?_ ?_ <;> omega)))
local macro_rules | `(tactic| walk_at "rd") => `(tactic| (first
  | with_reducible refine ⟨_, rfl, ?_⟩
  | refine ⟨_, rfl, ?_⟩
  | refine ⟨_, _, rfl, rfl, ?_⟩
  | refine And.intro (by walk_at "side") ?_
  | refine ⟨_, _, rfl, asm (by assumption), ?_⟩
  | refine ⟨_, _, rfl, asm ?_⟩))
section
variable {P : Program} {w : World} {K : PySem.W.Frag} {mg : Str → Option Value} {base : Heap}

/-! ### _law_pair, the law -/
def spPair (K : PySem.W.Frag) : Sp := fun vs H Q _ => ∃ b e : Int, vs = [.int b, .int e] ∧ 1 ≤ b ∧ b ≤ 128 ∧ -50000 ≤ e ∧ e ≤ 50000 ∧
  ∀ p H', Same H H' → H' p = some (.tup [.int (b ^ e.toNat), .int (b ^ (-e).toNat)]) → Q (.ref p) H'
theorem ok__law_pair {f : Addr} {fd : FuncData} (T : Nm mg) (F : Fun K "_law_pair" "_law_pair" s__law_pair f fd) : FnOk P w K mg base CX0 1 f fd ["base", "exponent"] (spPair K) := by
  refine F.ok sc__law_pair (fun vs H Q E h => ?_) (fun cdv A outer s H vs Q E hr h => ?_)
  · obtain ⟨b, e, rfl, _⟩ := h
    rfl
  · obtain ⟨b, e, rfl, b0, b1, e0, e1, q⟩ := h
    refine ⟨_, (pss_cons (ps_set (i := 2) sc__law_pair.nd rfl (Or.inl rfl) pe_int)
    (pss_cons (ps_for PassesOwn.never rfl (pi_range1 rfl T.range (pa_cons (pe_callB call_absN (by rfl) T.abs (by decide +kernel) (pa_cons (pv 1) pa_nil)) pa_nil)) (pg_name (i := 3) sc__law_pair.nd rfl (Or.inl rfl))
      (pss_one (ps_set (i := 2) sc__law_pair.nd rfl (Or.inl rfl) (pe_op op_mulA (pv 2) (pv 0)))))
    (pss_one (ps_ret (pe_ifExp (pt_cmpR op_ge (pv 1) pe_int (nomark _)) (pe_tup (pa_cons (pv 2) (pa_cons pe_int pa_nil))) (pe_tup (pa_cons pe_int (pa_cons (pv 2) pa_nil)))))))), ?_⟩
    refine ⟨_, rfl, e, rfl, _, rfl, by omega, by omega, for_range (n := e.natAbs) (fun i σ H' => H' = H ∧ ∃ y, σ = [some (.int b), some (.int e), some (.int (b ^ i)), y]) ⟨rfl, none, by rw [Int.pow_zero]; rfl⟩ ?_ ?_⟩
    · rintro i σ H' hi ⟨rfl, y, rfl⟩
      refine ⟨_, rfl, _, rfl, _, _, rfl, rfl, mulOkR (by omega) (by omega), rfl, some (.int (0 + i)), ?_⟩
      rw [Int.pow_succ]
      rfl
    · rintro σ H' ⟨rfl, y, rfl⟩
      refine ⟨_, rfl, _, _, rfl, rfl, _, rfl, ?_⟩
      by_cases h : (0 : Int) ≤ e
      · rw [decide_eq_true h]
        refine iteT ?_
        refine ⟨_, rfl, by show 2 ≤ sizeLine; decide, fun p np => ?_⟩
        refine q p _ (same_upd np) ?_
        rw [upd_same, show e.natAbs = e.toNat by omega, show (-e).toNat = 0 by omega, Int.pow_zero]
      · rw [decide_eq_false h]
        refine iteF ?_
        refine ⟨_, rfl, by show 2 ≤ sizeLine; decide, fun p np => ?_⟩
        refine q p _ (same_upd np) ?_
        rw [upd_same, show e.natAbs = (-e).toNat by omega, show e.toNat = 0 by omega, Int.pow_zero]
def spLaw (K : PySem.W.Frag) : Sp := fun vs H Q _ => ∃ (a : Addr) (ns : List Int), vs = [.ref a] ∧ SqL K H a (ns.map V.int) ∧ ns.length ≤ 63 ∧ ∀ H', Q (.bl true) H'
/-- one of five small numbers -/
theorem of5 {v : V} {a b c d e : Int} (h : v ∈ [V.int a, .int b, .int c, .int d, .int e]) : ∃ i : Int, v = .int i ∧ (i = a ∨ i = b ∨ i = c ∨ i = d ∨ i = e) := by
  simp only [List.mem_cons, List.not_mem_nil, or_false] at h
  rcases h with rfl | rfl | rfl | rfl | rfl
  · exact ⟨_, rfl, .inl rfl⟩
  · exact ⟨_, rfl, .inr (.inl rfl)⟩
  · exact ⟨_, rfl, .inr (.inr (.inl rfl))⟩
  · exact ⟨_, rfl, .inr (.inr (.inr (.inl rfl)))⟩
  · exact ⟨_, rfl, .inr (.inr (.inr (.inr rfl)))⟩
theorem ne_draw {K : PySem.W.Frag} {H : Hp} {d s l : Addr} {ns : List Int} (D : DrawAt K H d s ns) (nl : H l = none) : l ≠ d := by
  rintro rfl
  obtain ⟨k, hk, _⟩ := D
  rw [nl] at hk
  cases hk
theorem dp_pair {K : PySem.W.Frag} {H : Hp} {p : Addr} {i j : Int} (h : SqT K H p [.int i, .int j]) : Dp K H (.ref p) (.tuple [.int i, .int j]) := .tup h (.cons (.int i) (.cons (.int j) .nil))
theorem eqv_pair (i j : Int) : PyData.eqv (.tuple [.int i, .int j]) (.tuple [.int i, .int j]) = true := by
  show ((i == i) && ((j == j) && true)) = true
  simp
theorem ok_law {f f1 f2 f3 f4 f5 : Addr} {fd fd1 fd2 fd3 fd4 fd5 : FuncData} (T : Nm mg) (C_written : Has P w K mg base "written" 5 ["base", "m", "e", "other", "figures"] (spWritten K) f1 fd1) (C__law_take : Has P w K mg base "_law_take" 2 ["draw", "many"] (spTake K) f2 fd2)
    (C__law_pick : Has P w K mg base "_law_pick" 3 ["draw", "items"] (spPick K) f3 fd3) (C__law_long : Has P w K mg base "_law_long" 3 ["draw", "figures"] (spLong K) f4 fd4) (C__law_pair : Has P w K mg base "_law_pair" 1 ["base", "exponent"] (spPair K) f5 fd5)
    (F : Fun K "law" "law" s_law f fd) : FnOk P w K mg base CX0 6 f fd ["script"] (spLaw K) := by
  refine F.ok sc_law (fun vs H Q E h => ?_) (fun cdv A outer s H vs Q E hr h => ?_)
  · obtain ⟨a, ns, rfl, _⟩ := h
    rfl
  · obtain ⟨sc, ns, rfl, hS, hl, qq⟩ := h
    refine ⟨_, (pss_cons (ps_set (i := 1) sc_law.nd rfl (Or.inl rfl) (pe_lst (pa_cons (pv 0) (pa_cons pe_int pa_nil))))
    (pss_cons (ps_par3 (i := 2) (j := 3) (l := 4) (by rfl) sc_law.nd rfl rfl rfl (by decide) (by decide) (by decide) rfl rfl rfl (pa_cons (pe_call C__law_pick.G (hr.mono (by decide)) (by rfl) C__law_pick.g C__law_pick.k C__law_pick.b .nil pass0 (pa_cons (pv 1) (pa_cons (pe_lst (pa_cons pe_int (pa_cons pe_int (pa_cons pe_int (pa_cons pe_int (pa_cons pe_int pa_nil)))))) pa_nil))) (pa_cons (pe_call C__law_pick.G (hr.mono (by decide)) (by rfl) C__law_pick.g C__law_pick.k C__law_pick.b .nil pass0 (pa_cons (pv 1) (pa_cons (pe_lst (pa_cons pe_int (pa_cons pe_int (pa_cons pe_int (pa_cons pe_int (pa_cons pe_int pa_nil)))))) pa_nil))) (pa_cons (pe_op op_add pe_int (pe_call C__law_take.G (hr.mono (by decide)) (by rfl) C__law_take.g C__law_take.k C__law_take.b .nil pass0 (pa_cons (pv 1) (pa_cons pe_int pa_nil)))) pa_nil))) (by rfl))
    (pss_cons (ps_set (i := 5) sc_law.nd rfl (Or.inl rfl) (pe_ix ix_tup (pe_call C__law_pair.G (hr.mono (by decide)) (by rfl) C__law_pair.g C__law_pair.k C__law_pair.b .nil pass0 (pa_cons (pv 3) (pa_cons (pe_op op_sub (pv 4) pe_int) pa_nil))) pe_int (fun _ _ => rfl)))
    (pss_cons (ps_set (i := 6) sc_law.nd rfl (Or.inl rfl) (pe_op op_sub (pe_call C__law_take.G (hr.mono (by decide)) (by rfl) C__law_take.g C__law_take.k C__law_take.b .nil pass0 (pa_cons (pv 1) (pa_cons pe_int pa_nil))) pe_int))
    (pss_cons (ps_set (i := 7) sc_law.nd rfl (Or.inl rfl) (pe_op op_add pe_int (pe_callB call_absN (by rfl) T.abs (by decide +kernel) (pa_cons (pe_call C__law_long.G (hr.mono (by decide)) (by rfl) C__law_long.g C__law_long.k C__law_long.b .nil pass0 (pa_cons (pv 1) (pa_cons pe_int pa_nil))) pa_nil))))
    (pss_cons (ps_for PassesOwn.never rfl (pi_tup (pe_tup (pa_cons (pv 7) (pa_cons (pe_op op_add (pe_op op_add (pv 7) pe_int) (pe_call C__law_take.G (hr.mono (by decide)) (by rfl) C__law_take.g C__law_take.k C__law_take.b .nil pass0 (pa_cons (pv 1) (pa_cons pe_int pa_nil)))) pa_nil)))) (pg_name (i := 8) sc_law.nd rfl (Or.inl rfl))
      (pss_cons (ps_asg (pe_call C_written.G (hr.mono (by decide)) (by rfl) C_written.g C_written.k C_written.b .nil pass0 (pa_cons (pv 2) (pa_cons (pv 8) (pa_cons (pv 6) (pa_cons (pv 3) (pa_cons (pv 4) pa_nil)))))) (pg_tup rfl (pgs_cons (pg_name (i := 9) sc_law.nd rfl (Or.inl rfl)) (pgs_cons (pg_name (i := 10) sc_law.nd rfl (Or.inl rfl)) pgs_nil))))
    (pss_cons (ps_if (pt_not (pt_chain op_le op_lt (pv 5) (pv 9) (pe_op op_mulA (pv 5) (pv 3))))
      (pss_one (ps_ret pe_bl))
      pss_nil)
    (pss_cons (ps_asg (pe_tup (pa_cons (pe_call C__law_pair.G (hr.mono (by decide)) (by rfl) C__law_pair.g C__law_pair.k C__law_pair.b .nil pass0 (pa_cons (pv 2) (pa_cons (pv 6) pa_nil))) (pa_cons (pe_call C__law_pair.G (hr.mono (by decide)) (by rfl) C__law_pair.g C__law_pair.k C__law_pair.b .nil pass0 (pa_cons (pv 3) (pa_cons (pv 10) pa_nil))) pa_nil))) (pg_tup rfl (pgs_cons (pg_tup rfl (pgs_cons (pg_name (i := 11) sc_law.nd rfl (Or.inl rfl)) (pgs_cons (pg_name (i := 12) sc_law.nd rfl (Or.inl rfl)) pgs_nil))) (pgs_cons (pg_tup rfl (pgs_cons (pg_name (i := 13) sc_law.nd rfl (Or.inl rfl)) (pgs_cons (pg_name (i := 14) sc_law.nd rfl (Or.inl rfl)) pgs_nil))) pgs_nil))))
    (pss_one (ps_if (pt_cmpR op_gt (pe_op op_mulA pe_int (pe_callB call_absN (by rfl) T.abs (by decide +kernel) (pa_cons (pe_op op_sub (pe_op op_mulA (pe_op op_mulA (pv 8) (pv 11)) (pv 14)) (pe_op op_mulA (pe_op op_mulA (pv 9) (pv 13)) (pv 12))) pa_nil))) (pe_op op_mulA (pv 13) (pv 12)) (nomark _))
      (pss_one (ps_ret pe_bl))
      pss_nil))))))
    (pss_cons (ps_asg (pe_tup (pa_cons (pe_call C_written.G (hr.mono (by decide)) (by rfl) C_written.g C_written.k C_written.b .nil pass0 (pa_cons (pv 2) (pa_cons (pv 7) (pa_cons (pv 6) (pa_cons (pv 3) (pa_cons (pv 4) pa_nil)))))) (pa_cons (pe_call C_written.G (hr.mono (by decide)) (by rfl) C_written.g C_written.k C_written.b .nil pass0 (pa_cons (pv 2) (pa_cons (pe_op op_add (pv 7) (pe_call C__law_take.G (hr.mono (by decide)) (by rfl) C__law_take.g C__law_take.k C__law_take.b .nil pass0 (pa_cons (pv 1) (pa_cons pe_int pa_nil)))) (pa_cons (pv 6) (pa_cons (pv 3) (pa_cons (pv 4) pa_nil)))))) pa_nil))) (pg_tup rfl (pgs_cons (pg_tup rfl (pgs_cons (pg_name (i := 15) sc_law.nd rfl (Or.inl rfl)) (pgs_cons (pg_name (i := 16) sc_law.nd rfl (Or.inl rfl)) pgs_nil))) (pgs_cons (pg_tup rfl (pgs_cons (pg_name (i := 17) sc_law.nd rfl (Or.inl rfl)) (pgs_cons (pg_name (i := 18) sc_law.nd rfl (Or.inl rfl)) pgs_nil))) pgs_nil))))
    (pss_cons (ps_if (pt_cmpR (op_gtP hr.units) (pe_tup (pa_cons (pv 16) (pa_cons (pv 15) pa_nil))) (pe_tup (pa_cons (pv 18) (pa_cons (pv 17) pa_nil))) (nomark _))
      (pss_one (ps_ret pe_bl))
      pss_nil)
    (pss_cons (ps_par (i := 9) (j := 10) (by rfl) sc_law.nd rfl rfl (by decide) rfl rfl (pa_cons (pe_op op_add (pv 5) (pe_call C__law_take.G (hr.mono (by decide)) (by rfl) C__law_take.g C__law_take.k C__law_take.b .nil pass0 (pa_cons (pv 1) (pa_cons (pe_op op_mulA (pv 5) (pe_op op_sub (pv 3) pe_int)) pa_nil)))) (pa_cons (pe_op op_sub (pe_call C__law_take.G (hr.mono (by decide)) (by rfl) C__law_take.g C__law_take.k C__law_take.b .nil pass0 (pa_cons (pv 1) (pa_cons pe_int pa_nil))) pe_int) pa_nil)) (by rfl))
    (pss_one (ps_ret (pe_and (pe_cmpR (op_eqD hr.units) (pe_call C_written.G (hr.mono (by decide)) (by rfl) C_written.g C_written.k C_written.b .nil pass0 (pa_cons (pv 3) (pa_cons (pv 9) (pa_cons (pv 10) (pa_cons (pv 3) (pa_cons (pv 4) pa_nil)))))) (pe_tup (pa_cons (pv 9) (pa_cons (pv 10) pa_nil))) (nomark _)) (pe_one (pe_cmpR (op_eqD hr.units) (pe_call C_written.G (hr.mono (by decide)) (by rfl) C_written.g C_written.k C_written.b .nil pass0 (pa_cons (pv 3) (pa_cons (pv 9) (pa_cons (pv 10) (pa_cons (pv 3) (pa_cons (pe_op op_add (pv 4) pe_int) pa_nil)))))) (pe_tup (pa_cons (pe_op op_mulA (pe_op op_mulA (pv 9) (pv 3)) (pv 3)) (pa_cons (pe_op op_sub (pv 10) pe_int) pa_nil))) (nomark _))))))))))))))), ?_⟩
    refine ⟨_, rfl, (by show 2 ≤ sizeLine; decide), fun dr nd => ?_⟩
    have D0 : DrawAt K (upd H dr (.lst [.ref sc, .int 0])) dr sc ns := ⟨0, upd_same, (same_upd nd).seq hS, hl⟩
    clear hS nd
    revert D0
    generalize upd H dr (.lst [.ref sc, .int 0]) = H0
    intro D0
    -- base, other, figures
    refine ⟨_, rfl, (by show 5 ≤ sizeLine; decide), fun l nl => ?_⟩
    refine ⟨dr, sc, l, ns, _, rfl, D0.same (same_upd nl), ne_draw D0 nl, .inl (.inl upd_same), by decide, fun v H1 hv K1 D1 => ?_⟩
    obtain ⟨b, rfl, hb⟩ := of5 hv
    have b0 : 2 ≤ b := by omega
    have b1 : b ≤ 16 := by omega
    refine ⟨_, rfl, (by show 5 ≤ sizeLine; decide), fun l2 nl2 => ?_⟩
    refine ⟨dr, sc, l2, ns, _, rfl, D1.same (same_upd nl2), ne_draw D1 nl2, .inl (.inl upd_same), by decide, fun v H2 hv2 K2 D2 => ?_⟩
    obtain ⟨o, rfl, ho⟩ := of5 hv2
    have o0 : 2 ≤ o := by omega
    have o1 : o ≤ 36 := by omega
    clear hv hv2 hb ho K1 K2 nl nl2 D0 D1
    refine ⟨_, rfl, dr, sc, 20, ns, rfl, D2, by decide, fun n H3 n0 n1 K3 D3 => ?_⟩
    refine ⟨_, _, rfl, rfl, _, _, _, rfl, ?_⟩
    -- least
    refine ⟨_, rfl, _, rfl, _, _, rfl, rfl, o, 1 + n - 1, rfl, by omega, by omega, by omega, by omega, fun p4 H4 s4 hp4 => ?_⟩
    refine ⟨p4, _, 0, _, rfl, rfl, .inl (.inl hp4), rfl, ?_⟩
    have D4 := D3.same s4
    clear K3 D2 D3 s4 hp4
    -- e, m
    refine ⟨_, rfl, dr, sc, 81, ns, rfl, D4, by decide, fun r5 H5 r50 r51 K5 D5 => ?_⟩
    refine ⟨_, _, rfl, rfl, ?_⟩
    refine ⟨_, rfl, dr, sc, 20, ns, rfl, D5, by decide, by decide, fun r6 H6 (hr6 : r6.natAbs < 10 ^ 20) K6 D6 => ?_⟩
    refine ⟨_, rfl, _, _, rfl, rfl, ?_⟩
    clear K5 K6 D4 D5
    have big : (10 : Nat) ^ 20 + 1000 ≤ 10 ^ 120 := by decide +kernel
    dsimp only
    generalize hM : (1 : Int) + (r6.natAbs : Int) = M
    have m0 : 1 ≤ M := by omega
    have m1 : M + 900 ≤ 10 ^ 120 := by omega
    have sM : Sz 100 (M + 200) := by
      have z : (10 : Nat) ^ 20 + 1000 < 2 ^ 100 := by decide +kernel
      unfold Sz
      omega
    generalize hE : r5 - (40 : Int) = e
    have e0 : -40 ≤ e := by omega
    have e1 : e ≤ 40 := by omega
    clear hM hE hr6 big r50 r51
    generalize hF : (1 : Int) + n = N
    have N0 : 1 ≤ N := by omega
    have N1 : N ≤ 20 := by omega
    have hL : (N - 1).toNat = N.toNat - 1 := by omega
    rw [hL]
    have hNat : 1 ≤ N.toNat := by omega
    clear hF n0 n1 hL
    -- the numbers of the loop
    refine ⟨_, rfl, _, rfl, _, _, rfl, rfl, _, rfl, dr, sc, 9, ns, rfl, D6, by decide, fun r7 H7 r70 r71 K7 D7 => ?_⟩
    refine ⟨_, _, rfl, rfl, by show 2 ≤ sizeLine; decide, fun t8 n8 => ?_⟩
    have D8 := D7.same (same_upd (o := .tup [.int M, .int (M + 1 + r7)]) n8)
    revert D8
    generalize hH8 : upd H7 t8 (.tup [.int M, .int (M + 1 + r7)]) = H8
    have ht8 : H8 t8 = some (.tup [.int M, .int (M + 1 + r7)]) := by rw [← hH8, upd_same]
    intro D8
    clear D6 K7 D7 n8 hH8
    have hoN : o ^ N.toNat = o ^ (N.toNat - 1) * o := pow_split hNat
    have sL : Sz 141 (o ^ (N.toNat - 1)) := (Sz.pow (by omega) (by omega) _).le (by omega)
    have pL : 0 < o ^ (N.toNat - 1) := Int.pow_pos (by omega)
    refine ⟨t8, rfl, ⟨_, .inl (.inl ht8)⟩, for_tup (K := K) (a := t8) (xs := [.int M, .int (M + 1 + r7)]) (fun i σ H' => Same H8 H' ∧ ∃ y8 y9 y10 y11 y12 y13 y14, σ = [some (.ref sc), some (.ref dr), some (.int b), some (.int o), some (.int N), some (.int (o ^ (N.toNat - 1))), some (.int e), some (.int M), y8, y9, y10, y11, y12, y13, y14, none, none, none, none])
      ⟨fun _ _ h => h, none, none, none, none, none, none, none, rfl⟩ (fun i σ H' _ ⟨s, _⟩ => .inl (.inl (s _ _ ht8))) ?_ ?_⟩
    · rintro i v σ H9 hi ⟨s9, y8, y9, y10, y11, y12, y13, y14, rfl⟩
      obtain ⟨l, rfl, l0, l1⟩ : ∃ l : Int, v = .int l ∧ 1 ≤ l ∧ l ≤ M + 100 := by
        have hm := List.mem_of_getElem? hi
        simp only [List.mem_cons, List.not_mem_nil, or_false] at hm
        rcases hm with rfl | rfl
        · exact ⟨_, rfl, by omega, by omega⟩
        · exact ⟨_, rfl, by omega, by omega⟩
      have sl : Sz 100 l := sM.of (by omega) (by omega)
      -- d, f
      refine ⟨_, rfl, _, rfl, _, rfl, _, rfl, _, rfl, b, l, e, o, N, rfl, b0, by omega, l0, by omega, by omega, by omega, o0, by omega, N0, by omega, fun p d f H10 s10 hp hR hf => ?_⟩
      have bd := hR.bounds o0 hNat
      rw [hoN] at bd
      have nr := near_int b0 o0 hNat hR
      refine ⟨p, _, rfl, .inl (.inl hp), rfl, _, _, rfl, _, _, rfl, rfl, ?_⟩
      -- least <= d < least * other
      refine ⟨_, rfl, _, rfl, _, _, rfl, rfl, _, rfl, ?_⟩
      rw [decide_eq_true bd.1]
      refine iteT ⟨_, rfl, _, rfl, _, _, rfl, rfl, sL.ok (l := 7) (by unfold Sz; omega) (by decide) (by decide), _, _, rfl, rfl, _, rfl, ?_⟩
      refine iteNS (c := d < o ^ (N.toNat - 1) * o) bd.2 ?_
      -- a, b, p, q
      have sd : Sz 148 d := by
        have h1 : Sz 148 (o ^ N.toNat) := (Sz.pow (by omega) (by omega) _).le (by omega)
        rw [hoN] at h1
        exact h1.of (by omega) (by omega)
      have sA : Sz 281 (b ^ e.toNat) := (Sz.pow (by omega) (by omega) _).le (by omega)
      have sB : Sz 281 (b ^ (-e).toNat) := (Sz.pow (by omega) (by omega) _).le (by omega)
      have sP : Sz 28001 (o ^ f.toNat) := (Sz.pow (by omega) (by omega) _).le (by omega)
      have sQ : Sz 28001 (o ^ (-f).toNat) := (Sz.pow (by omega) (by omega) _).le (by omega)
      refine ⟨_, rfl, _, rfl, b, e, rfl, by omega, by omega, by omega, by omega, fun p1 H11 s11 hp1 => ?_⟩
      refine ⟨_, rfl, _, rfl, o, f, rfl, by omega, by omega, by omega, by omega, fun p2 H12 s12 hp2 => ?_⟩
      refine ⟨by show 2 ≤ sizeLine; decide, fun t3 n3 => ?_⟩
      have s13 := same_upd (o := .tup [.ref p1, .ref p2]) n3
      refine ⟨t3, _, rfl, .inl (.inl upd_same), rfl, _, _, rfl, p1, _, rfl, .inl (.inl (s13 _ _ (s12 _ _ hp1))), rfl, _, _, rfl, _, _, rfl, rfl, _, _, rfl, p2, _, rfl, .inl (.inl (s13 _ _ hp2)), rfl, _, _, rfl, _, _, rfl, rfl, rfl, ?_⟩
      -- near
      have g1 := sl.ok sA (by decide) (by decide)
      have g2 := (sl.mul sA).ok sQ (by decide) (by decide)
      have g3 := sd.ok sP (by decide) (by decide)
      have g4 := (sd.mul sP).ok sB (by decide) (by decide)
      have g5 := sP.ok sB (by decide) (by decide)
      refine ⟨_, rfl, _, rfl, _, _, rfl, rfl, g1, _, rfl, _, _, rfl, rfl, g2, _, rfl, _, rfl, _, _, rfl, rfl, g3, _, rfl, _, _, rfl, rfl, g4, _, _, rfl, rfl, _, rfl, _, _, rfl, rfl, mulOkL (by decide) (by decide), ?_⟩
      refine ⟨_, rfl, _, rfl, _, _, rfl, rfl, g5, _, _, rfl, rfl, _, rfl, ?_⟩
      refine ite2 (fun h => absurd (of_decide_eq_true h) (Int.not_lt.mpr nr)) (fun _ => ?_)
      exact ⟨(s9.trans s10).trans ((s11.trans s12).trans s13), _, _, _, _, _, _, _, rfl⟩
    · rintro σ H9 ⟨s9, y8, y9, y10, y11, y12, y13, y14, rfl⟩
      have D9 := D8.same s9
      clear D8 ht8 s9
      -- in order
      refine ⟨_, rfl, _, rfl, _, rfl, _, rfl, _, rfl, b, M, e, o, N, rfl, b0, by omega, by omega, by omega, by omega, by omega, o0, by omega, N0, by omega, fun p d1 f1 H10 s10 hp hR _ => ?_⟩
      have D10 := D9.same s10
      refine ⟨_, rfl, _, rfl, _, rfl, dr, sc, 99, ns, rfl, D10, by decide, fun r11 H11 r110 r111 K11 D11 => ?_⟩
      have ndr : p ≠ dr := by
        rintro rfl
        obtain ⟨k, hk, _⟩ := D10
        rw [hp] at hk
        cases hk
      have hp11 := K11 _ _ ndr hp
      refine ⟨_, _, rfl, rfl, _, rfl, _, rfl, _, rfl, b, M + r11, e, o, N, rfl, b0, by omega, by omega, by omega, by omega, by omega, o0, by omega, N0, by omega, fun p2 d2 f2 H12 s12 hp2 hR2 _ => ?_⟩
      have D12 := D11.same s12
      have hp12 := s12 _ _ hp11
      clear hp11 hp D9 D10 D11 K11 s10
      refine ⟨by show 2 ≤ sizeLine; decide, fun t3 n3 => ?_⟩
      have s13 := same_upd (o := .tup [.ref p, .ref p2]) n3
      refine ⟨t3, _, rfl, .inl (.inl upd_same), rfl, _, _, rfl, p, _, rfl, .inl (.inl (s13 _ _ hp12)), rfl, _, _, rfl, _, _, rfl, rfl, _, _, rfl, p2, _, rfl, .inl (.inl (s13 _ _ hp2)), rfl, _, _, rfl, _, _, rfl, rfl, rfl, ?_⟩
      have D13 := D12.same s13
      clear D12 hp12 hp2 s12
      have ord := hR.mono o0 hNat (pz_le_mul (by omega) (show M ≤ M + r11 by omega)) hR2
      refine ⟨_, rfl, _, rfl, by show 2 ≤ sizeLine; decide, fun t4 n4 => ?_⟩
      have s14 := same_upd (o := .tup [.int f1, .int d1]) n4
      refine ⟨_, rfl, _, rfl, by show 2 ≤ sizeLine; decide, fun t5 n5 => ?_⟩
      have s15 := same_upd (o := .tup [.int f2, .int d2]) n5
      refine ⟨t4, t5, f1, d1, f2, d2, rfl, rfl, .inl (.inl (s15 _ _ upd_same)), .inl (.inl upd_same), _, rfl, ?_⟩
      refine ite2 (fun h => ?_) (fun _ => ?_)
      · exfalso
        rcases ord with g | ⟨rfl, g⟩
        · rw [if_neg (by omega)] at h
          have := of_decide_eq_true h
          omega
        · rw [if_pos rfl] at h
          have := of_decide_eq_true h
          omega
      have D15 := (D13.same s14).same s15
      clear s13 s14 s15 n3 n4 n5 D13 hR hR2
      -- the exact ones
      have mul1 := sL.ok (l := 7) (j := o - 1) (by unfold Sz; omega) (by decide) (by decide)
      have pos1 : 0 < o ^ (N.toNat - 1) * (o - 1) := Int.mul_pos pL (by omega)
      refine ⟨_, rfl, _, rfl, _, rfl, _, rfl, _, _, rfl, rfl, _, _, rfl, rfl, mul1, dr, sc, _, ns, rfl, D15, pos1, fun r16 H16 r160 r161 K16 D16 => ?_⟩
      refine ⟨_, _, rfl, rfl, _, rfl, dr, sc, 61, ns, rfl, D16, by decide, fun r17 H17 r170 r171 K17 D17 => ?_⟩
      refine ⟨_, _, rfl, rfl, _, _, rfl, ?_⟩
      have hd0 : o ^ (N.toNat - 1) ≤ o ^ (N.toNat - 1) + r16 := by omega
      have hd1 : o ^ (N.toNat - 1) + r16 < o ^ N.toNat := by
        rw [hoN]
        have : o ^ (N.toNat - 1) * (o - 1) = o ^ (N.toNat - 1) * o - o ^ (N.toNat - 1) := by rw [Int.mul_sub, Int.mul_one]
        omega
      have pd : 1 ≤ o ^ (N.toNat - 1) + r16 := by omega
      have sd : Sz 141 (o ^ (N.toNat - 1) + r16) := by
        have h1 : Sz 141 (o ^ N.toNat) := (Sz.pow (by omega) (by omega) _).le (by omega)
        exact h1.of (by omega) (by omega)
      have bd : o ^ (N.toNat - 1) + r16 ≤ 10 ^ 120 := by
        have z : (2 : Nat) ^ 141 < 10 ^ 120 := by decide +kernel
        unfold Sz at sd
        omega
      have N2 : (N + 2).toNat = N.toNat - 1 + 1 + 1 + 1 := by omega
      have hoo : o ^ (N.toNat - 1 + 1 + 1) ≤ (o ^ (N.toNat - 1) + r16) * o * o ∧ (o ^ (N.toNat - 1) + r16) * o * o < o ^ (N.toNat - 1 + 1 + 1 + 1) := by
        have e1 : o ^ (N.toNat - 1 + 1) = o ^ N.toNat := by congr 1; omega
        rw [Int.pow_succ, Int.pow_succ, Int.pow_succ _ (N.toNat - 1 + 1 + 1), Int.pow_succ _ (N.toNat - 1 + 1), e1]
        constructor
        · exact Int.mul_le_mul_of_nonneg_right (Int.mul_le_mul_of_nonneg_right hd0 (by omega)) (by omega)
        · exact Int.mul_lt_mul_of_pos_right (Int.mul_lt_mul_of_pos_right hd1 (by omega)) (by omega)
      refine ⟨_, rfl, _, rfl, _, rfl, _, rfl, _, rfl, o, o ^ (N.toNat - 1) + r16, r17 - 30, o, N, rfl, o0, by omega, pd, bd, by omega, by omega, o0, by omega, N0, by omega, fun p d1 f1 H18 s18 hp hR _ => ?_⟩
      obtain ⟨rfl, rfl⟩ := hR.exact o0 hNat hd0 hd1
      refine ⟨_, rfl, _, rfl, by show 2 ≤ sizeLine; decide, fun t3 n3 => ?_⟩
      refine ⟨_, _, dp_pair (.inl (.inl (same_upd n3 _ _ hp))), dp_pair (.inl (.inl upd_same)), rfl, rfl, true, congrArg V.bl (eqv_pair _ _), iteT ?_⟩
      refine ⟨_, rfl, _, rfl, _, rfl, _, rfl, _, rfl, _, _, rfl, rfl, o, o ^ (N.toNat - 1) + r16, r17 - 30, o, N + 2, rfl, o0, by omega, pd, bd, by omega, by omega, o0, by omega, by omega, by omega, fun p2 d2 f2 H19 s19 hp2 hR2 _ => ?_⟩
      rw [pz_two (by omega), N2] at hR2
      obtain ⟨rfl, rfl⟩ := hR2.exact o0 (by omega) hoo.1 hoo.2
      have m1 : OkMul (o ^ (N.toNat - 1) + r16) o := mulOkR (by omega) (by omega)
      have m2 : OkMul ((o ^ (N.toNat - 1) + r16) * o) o := mulOkR (by omega) (by omega)
      refine ⟨_, rfl, _, rfl, _, _, rfl, rfl, m1, _, rfl, _, _, rfl, rfl, m2, _, rfl, _, _, rfl, rfl, by show 2 ≤ sizeLine; decide, fun t4 n4 => ?_⟩
      refine ⟨_, _, dp_pair (.inl (.inl (same_upd n4 _ _ hp2))), dp_pair (.inl (.inl upd_same)), rfl, rfl, ?_⟩
      show Q (.bl (PyData.eqv _ _)) _
      rw [eqv_pair]
      exact qq _
end
end K53

namespace K53
open PySem PySem.Spec PyProof.Rows L2 My
/-! ### what the top has written -/
theorem all_mk {l : PySem.W.OpenLaw} {w : World} {K : PySem.W.Frag} {h : Heap} {mg : Str → Option Value} {fa : Addr} (X : K.In h) (G : h.Ns mainGlobals mg) (hfa : mg "law" = some (.ref fa))
    {f_is_number : Addr} {od_is_number an_is_number : Option Addr} {sl_is_number : Array (Option Value)} {oc_is_number kV_is_number dc_is_number pm_is_number cd_is_number ct_is_number : Value}
    (a_is_number : PySem.W.nsIn K mainGlobals "is_number" = some (some (.ref f_is_number))) (l_is_number : K.lookup f_is_number = some ⟨oc_is_number, od_is_number, .func (PySem.W.fnOf "is_number" "is_number" (defArgs s_is_number) (defBody s_is_number) (defScope s_is_number) .none kV_is_number dc_is_number pm_is_number an_is_number cd_is_number ct_is_number), sl_is_number⟩) (c_is_number : PySem.W.codeIn K cd_is_number "is_number" = true) (k_is_number : PySem.W.keepIn K (.ref f_is_number) = true)
    {f_is_between : Addr} {od_is_between an_is_between : Option Addr} {sl_is_between : Array (Option Value)} {oc_is_between kV_is_between dc_is_between pm_is_between cd_is_between ct_is_between : Value}
    (a_is_between : PySem.W.nsIn K mainGlobals "is_between" = some (some (.ref f_is_between))) (l_is_between : K.lookup f_is_between = some ⟨oc_is_between, od_is_between, .func (PySem.W.fnOf "is_between" "is_between" (defArgs s_is_between) (defBody s_is_between) (defScope s_is_between) .none kV_is_between dc_is_between pm_is_between an_is_between cd_is_between ct_is_between), sl_is_between⟩) (c_is_between : PySem.W.codeIn K cd_is_between "is_between" = true) (k_is_between : PySem.W.keepIn K (.ref f_is_between) = true)
    {f_check_between : Addr} {od_check_between an_check_between : Option Addr} {sl_check_between : Array (Option Value)} {oc_check_between kV_check_between dc_check_between pm_check_between cd_check_between ct_check_between : Value}
    (a_check_between : PySem.W.nsIn K mainGlobals "check_between" = some (some (.ref f_check_between))) (l_check_between : K.lookup f_check_between = some ⟨oc_check_between, od_check_between, .func (PySem.W.fnOf "check_between" "check_between" (defArgs s_check_between) (defBody s_check_between) (defScope s_check_between) .none kV_check_between dc_check_between pm_check_between an_check_between cd_check_between ct_check_between), sl_check_between⟩) (c_check_between : PySem.W.codeIn K cd_check_between "check_between" = true) (k_check_between : PySem.W.keepIn K (.ref f_check_between) = true)
    {f_power : Addr} {od_power an_power : Option Addr} {sl_power : Array (Option Value)} {oc_power kV_power dc_power pm_power cd_power ct_power : Value}
    (a_power : PySem.W.nsIn K mainGlobals "power" = some (some (.ref f_power))) (l_power : K.lookup f_power = some ⟨oc_power, od_power, .func (PySem.W.fnOf "power" "power" (defArgs s_power) (defBody s_power) (defScope s_power) .none kV_power dc_power pm_power an_power cd_power ct_power), sl_power⟩) (c_power : PySem.W.codeIn K cd_power "power" = true) (k_power : PySem.W.keepIn K (.ref f_power) = true)
    {f_check_base : Addr} {od_check_base an_check_base : Option Addr} {sl_check_base : Array (Option Value)} {oc_check_base kV_check_base dc_check_base pm_check_base cd_check_base ct_check_base : Value}
    (a_check_base : PySem.W.nsIn K mainGlobals "check_base" = some (some (.ref f_check_base))) (l_check_base : K.lookup f_check_base = some ⟨oc_check_base, od_check_base, .func (PySem.W.fnOf "check_base" "check_base" (defArgs s_check_base) (defBody s_check_base) (defScope s_check_base) .none kV_check_base dc_check_base pm_check_base an_check_base cd_check_base ct_check_base), sl_check_base⟩) (c_check_base : PySem.W.codeIn K cd_check_base "check_base" = true) (k_check_base : PySem.W.keepIn K (.ref f_check_base) = true)
    {f_scaled_by : Addr} {od_scaled_by an_scaled_by : Option Addr} {sl_scaled_by : Array (Option Value)} {oc_scaled_by kV_scaled_by dc_scaled_by pm_scaled_by cd_scaled_by ct_scaled_by : Value}
    (a_scaled_by : PySem.W.nsIn K mainGlobals "scaled_by" = some (some (.ref f_scaled_by))) (l_scaled_by : K.lookup f_scaled_by = some ⟨oc_scaled_by, od_scaled_by, .func (PySem.W.fnOf "scaled_by" "scaled_by" (defArgs s_scaled_by) (defBody s_scaled_by) (defScope s_scaled_by) .none kV_scaled_by dc_scaled_by pm_scaled_by an_scaled_by cd_scaled_by ct_scaled_by), sl_scaled_by⟩) (c_scaled_by : PySem.W.codeIn K cd_scaled_by "scaled_by" = true) (k_scaled_by : PySem.W.keepIn K (.ref f_scaled_by) = true)
    {f_figures_in : Addr} {od_figures_in an_figures_in : Option Addr} {sl_figures_in : Array (Option Value)} {oc_figures_in kV_figures_in dc_figures_in pm_figures_in cd_figures_in ct_figures_in : Value}
    (a_figures_in : PySem.W.nsIn K mainGlobals "figures_in" = some (some (.ref f_figures_in))) (l_figures_in : K.lookup f_figures_in = some ⟨oc_figures_in, od_figures_in, .func (PySem.W.fnOf "figures_in" "figures_in" (defArgs s_figures_in) (defBody s_figures_in) (defScope s_figures_in) .none kV_figures_in dc_figures_in pm_figures_in an_figures_in cd_figures_in ct_figures_in), sl_figures_in⟩) (c_figures_in : PySem.W.codeIn K cd_figures_in "figures_in" = true) (k_figures_in : PySem.W.keepIn K (.ref f_figures_in) = true)
    {f_order_of : Addr} {od_order_of an_order_of : Option Addr} {sl_order_of : Array (Option Value)} {oc_order_of kV_order_of dc_order_of pm_order_of cd_order_of ct_order_of : Value}
    (a_order_of : PySem.W.nsIn K mainGlobals "order_of" = some (some (.ref f_order_of))) (l_order_of : K.lookup f_order_of = some ⟨oc_order_of, od_order_of, .func (PySem.W.fnOf "order_of" "order_of" (defArgs s_order_of) (defBody s_order_of) (defScope s_order_of) .none kV_order_of dc_order_of pm_order_of an_order_of cd_order_of ct_order_of), sl_order_of⟩) (c_order_of : PySem.W.codeIn K cd_order_of "order_of" = true) (k_order_of : PySem.W.keepIn K (.ref f_order_of) = true)
    {f_rounded : Addr} {od_rounded an_rounded : Option Addr} {sl_rounded : Array (Option Value)} {oc_rounded kV_rounded dc_rounded pm_rounded cd_rounded ct_rounded : Value}
    (a_rounded : PySem.W.nsIn K mainGlobals "rounded" = some (some (.ref f_rounded))) (l_rounded : K.lookup f_rounded = some ⟨oc_rounded, od_rounded, .func (PySem.W.fnOf "rounded" "rounded" (defArgs s_rounded) (defBody s_rounded) (defScope s_rounded) .none kV_rounded dc_rounded pm_rounded an_rounded cd_rounded ct_rounded), sl_rounded⟩) (c_rounded : PySem.W.codeIn K cd_rounded "rounded" = true) (k_rounded : PySem.W.keepIn K (.ref f_rounded) = true)
    {f_written : Addr} {od_written an_written : Option Addr} {sl_written : Array (Option Value)} {oc_written kV_written dc_written pm_written cd_written ct_written : Value}
    (a_written : PySem.W.nsIn K mainGlobals "written" = some (some (.ref f_written))) (l_written : K.lookup f_written = some ⟨oc_written, od_written, .func (PySem.W.fnOf "written" "written" (defArgs s_written) (defBody s_written) (defScope s_written) .none kV_written dc_written pm_written an_written cd_written ct_written), sl_written⟩) (c_written : PySem.W.codeIn K cd_written "written" = true) (k_written : PySem.W.keepIn K (.ref f_written) = true)
    {f__law_number : Addr} {od__law_number an__law_number : Option Addr} {sl__law_number : Array (Option Value)} {oc__law_number kV__law_number dc__law_number pm__law_number cd__law_number ct__law_number : Value}
    (a__law_number : PySem.W.nsIn K mainGlobals "_law_number" = some (some (.ref f__law_number))) (l__law_number : K.lookup f__law_number = some ⟨oc__law_number, od__law_number, .func (PySem.W.fnOf "_law_number" "_law_number" (defArgs s__law_number) (defBody s__law_number) (defScope s__law_number) .none kV__law_number dc__law_number pm__law_number an__law_number cd__law_number ct__law_number), sl__law_number⟩) (c__law_number : PySem.W.codeIn K cd__law_number "_law_number" = true) (k__law_number : PySem.W.keepIn K (.ref f__law_number) = true)
    {f__law_take : Addr} {od__law_take an__law_take : Option Addr} {sl__law_take : Array (Option Value)} {oc__law_take kV__law_take dc__law_take pm__law_take cd__law_take ct__law_take : Value}
    (a__law_take : PySem.W.nsIn K mainGlobals "_law_take" = some (some (.ref f__law_take))) (l__law_take : K.lookup f__law_take = some ⟨oc__law_take, od__law_take, .func (PySem.W.fnOf "_law_take" "_law_take" (defArgs s__law_take) (defBody s__law_take) (defScope s__law_take) .none kV__law_take dc__law_take pm__law_take an__law_take cd__law_take ct__law_take), sl__law_take⟩) (c__law_take : PySem.W.codeIn K cd__law_take "_law_take" = true) (k__law_take : PySem.W.keepIn K (.ref f__law_take) = true)
    {f__law_pick : Addr} {od__law_pick an__law_pick : Option Addr} {sl__law_pick : Array (Option Value)} {oc__law_pick kV__law_pick dc__law_pick pm__law_pick cd__law_pick ct__law_pick : Value}
    (a__law_pick : PySem.W.nsIn K mainGlobals "_law_pick" = some (some (.ref f__law_pick))) (l__law_pick : K.lookup f__law_pick = some ⟨oc__law_pick, od__law_pick, .func (PySem.W.fnOf "_law_pick" "_law_pick" (defArgs s__law_pick) (defBody s__law_pick) (defScope s__law_pick) .none kV__law_pick dc__law_pick pm__law_pick an__law_pick cd__law_pick ct__law_pick), sl__law_pick⟩) (c__law_pick : PySem.W.codeIn K cd__law_pick "_law_pick" = true) (k__law_pick : PySem.W.keepIn K (.ref f__law_pick) = true)
    {f__law_long : Addr} {od__law_long an__law_long : Option Addr} {sl__law_long : Array (Option Value)} {oc__law_long kV__law_long dc__law_long pm__law_long cd__law_long ct__law_long : Value}
    (a__law_long : PySem.W.nsIn K mainGlobals "_law_long" = some (some (.ref f__law_long))) (l__law_long : K.lookup f__law_long = some ⟨oc__law_long, od__law_long, .func (PySem.W.fnOf "_law_long" "_law_long" (defArgs s__law_long) (defBody s__law_long) (defScope s__law_long) .none kV__law_long dc__law_long pm__law_long an__law_long cd__law_long ct__law_long), sl__law_long⟩) (c__law_long : PySem.W.codeIn K cd__law_long "_law_long" = true) (k__law_long : PySem.W.keepIn K (.ref f__law_long) = true)
    {f__law_pair : Addr} {od__law_pair an__law_pair : Option Addr} {sl__law_pair : Array (Option Value)} {oc__law_pair kV__law_pair dc__law_pair pm__law_pair cd__law_pair ct__law_pair : Value}
    (a__law_pair : PySem.W.nsIn K mainGlobals "_law_pair" = some (some (.ref f__law_pair))) (l__law_pair : K.lookup f__law_pair = some ⟨oc__law_pair, od__law_pair, .func (PySem.W.fnOf "_law_pair" "_law_pair" (defArgs s__law_pair) (defBody s__law_pair) (defScope s__law_pair) .none kV__law_pair dc__law_pair pm__law_pair an__law_pair cd__law_pair ct__law_pair), sl__law_pair⟩) (c__law_pair : PySem.W.codeIn K cd__law_pair "_law_pair" = true) (k__law_pair : PySem.W.keepIn K (.ref f__law_pair) = true)
    {f_law : Addr} {od_law an_law : Option Addr} {sl_law : Array (Option Value)} {oc_law kV_law dc_law pm_law cd_law ct_law : Value}
    (a_law : PySem.W.nsIn K mainGlobals "law" = some (some (.ref f_law))) (l_law : K.lookup f_law = some ⟨oc_law, od_law, .func (PySem.W.fnOf "law" "law" (defArgs s_law) (defBody s_law) (defScope s_law) .none kV_law dc_law pm_law an_law cd_law ct_law), sl_law⟩) (c_law : PySem.W.codeIn K cd_law "law" = true) (k_law : PySem.W.keepIn K (.ref f_law) = true)
    (z_len : PySem.W.nsIn K mainGlobals "len" = some none)
    (z_range : PySem.W.nsIn K mainGlobals "range" = some none)
    (z_int : PySem.W.nsIn K mainGlobals "int" = some none)
    (z_bool : PySem.W.nsIn K mainGlobals "bool" = some none)
    (z_isinstance : PySem.W.nsIn K mainGlobals "isinstance" = some none)
    (z_abs : PySem.W.nsIn K mainGlobals "abs" = some none)
    {t_LEAST_BASE : Tok} (z_LEAST_BASE : PySem.W.nsIn K mainGlobals "LEAST_BASE" = some (some (.int 2 t_LEAST_BASE)))
    {t_MOST_BASE : Tok} (z_MOST_BASE : PySem.W.nsIn K mainGlobals "MOST_BASE" = some (some (.int 100 t_MOST_BASE)))
    {t_MOST_FIGURES : Tok} (z_MOST_FIGURES : PySem.W.nsIn K mainGlobals "MOST_FIGURES" = some (some (.int 60 t_MOST_FIGURES)))
    {t_MOST_EXPONENT : Tok} (z_MOST_EXPONENT : PySem.W.nsIn K mainGlobals "MOST_EXPONENT" = some (some (.int 200 t_MOST_EXPONENT)))
    {t_MOST_NUMBER : Tok} (z_MOST_NUMBER : PySem.W.nsIn K mainGlobals "MOST_NUMBER" = some (some (.int 1000000000000000000000000000000000000000000000000000000000000000000000000000000000000000000000000000000000000000000000000 t_MOST_NUMBER)))
    : ∃ fd : FuncData, (∀ (s : Shared) (v : Value), BindsTo s fd ⟨[v], []⟩ [("script", v)]) ∧ ∀ base : Heap, K.In base → base.Ns mainGlobals mg → FnOk l.prog w K mg base CX0 6 fa fd ["script"] (spLaw K) := by
  have e := hfa.symm.trans (PySem.W.mg_of X G a_law)
  cases e
  have F_is_number := fun_mk (st := s_is_number) l_is_number c_is_number k_is_number
  have b_is_number := F_is_number.binds (ps := ["value"]) fun _ _ _ _ _ _ us hl => match us, hl with | [_], _ => rfl
  have g_is_number := PySem.W.mg_of X G a_is_number
  have F_is_between := fun_mk (st := s_is_between) l_is_between c_is_between k_is_between
  have b_is_between := F_is_between.binds (ps := ["least", "most", "value"]) fun _ _ _ _ _ _ us hl => match us, hl with | [_, _, _], _ => rfl
  have g_is_between := PySem.W.mg_of X G a_is_between
  have F_check_between := fun_mk (st := s_check_between) l_check_between c_check_between k_check_between
  have b_check_between := F_check_between.binds (ps := ["least", "most", "value"]) fun _ _ _ _ _ _ us hl => match us, hl with | [_, _, _], _ => rfl
  have g_check_between := PySem.W.mg_of X G a_check_between
  have F_power := fun_mk (st := s_power) l_power c_power k_power
  have b_power := F_power.binds (ps := ["base", "exponent"]) fun _ _ _ _ _ _ us hl => match us, hl with | [_, _], _ => rfl
  have g_power := PySem.W.mg_of X G a_power
  have F_check_base := fun_mk (st := s_check_base) l_check_base c_check_base k_check_base
  have b_check_base := F_check_base.binds (ps := ["base"]) fun _ _ _ _ _ _ us hl => match us, hl with | [_], _ => rfl
  have g_check_base := PySem.W.mg_of X G a_check_base
  have F_scaled_by := fun_mk (st := s_scaled_by) l_scaled_by c_scaled_by k_scaled_by
  have b_scaled_by := F_scaled_by.binds (ps := ["number", "base", "exponent"]) fun _ _ _ _ _ _ us hl => match us, hl with | [_, _, _], _ => rfl
  have g_scaled_by := PySem.W.mg_of X G a_scaled_by
  have F_figures_in := fun_mk (st := s_figures_in) l_figures_in c_figures_in k_figures_in
  have b_figures_in := F_figures_in.binds (ps := ["base", "number"]) fun _ _ _ _ _ _ us hl => match us, hl with | [_, _], _ => rfl
  have g_figures_in := PySem.W.mg_of X G a_figures_in
  have F_order_of := fun_mk (st := s_order_of) l_order_of c_order_of k_order_of
  have b_order_of := F_order_of.binds (ps := ["fraction", "base"]) fun _ _ _ _ _ _ us hl => match us, hl with | [_, _], _ => rfl
  have g_order_of := PySem.W.mg_of X G a_order_of
  have F_rounded := fun_mk (st := s_rounded) l_rounded c_rounded k_rounded
  have b_rounded := F_rounded.binds (ps := ["fraction", "base", "figures"]) fun _ _ _ _ _ _ us hl => match us, hl with | [_, _, _], _ => rfl
  have g_rounded := PySem.W.mg_of X G a_rounded
  have F_written := fun_mk (st := s_written) l_written c_written k_written
  have b_written := F_written.binds (ps := ["base", "m", "e", "other", "figures"]) fun _ _ _ _ _ _ us hl => match us, hl with | [_, _, _, _, _], _ => rfl
  have g_written := PySem.W.mg_of X G a_written
  have F__law_number := fun_mk (st := s__law_number) l__law_number c__law_number k__law_number
  have b__law_number := F__law_number.binds (ps := ["script", "index"]) fun _ _ _ _ _ _ us hl => match us, hl with | [_, _], _ => rfl
  have g__law_number := PySem.W.mg_of X G a__law_number
  have F__law_take := fun_mk (st := s__law_take) l__law_take c__law_take k__law_take
  have b__law_take := F__law_take.binds (ps := ["draw", "many"]) fun _ _ _ _ _ _ us hl => match us, hl with | [_, _], _ => rfl
  have g__law_take := PySem.W.mg_of X G a__law_take
  have F__law_pick := fun_mk (st := s__law_pick) l__law_pick c__law_pick k__law_pick
  have b__law_pick := F__law_pick.binds (ps := ["draw", "items"]) fun _ _ _ _ _ _ us hl => match us, hl with | [_, _], _ => rfl
  have g__law_pick := PySem.W.mg_of X G a__law_pick
  have F__law_long := fun_mk (st := s__law_long) l__law_long c__law_long k__law_long
  have b__law_long := F__law_long.binds (ps := ["draw", "figures"]) fun _ _ _ _ _ _ us hl => match us, hl with | [_, _], _ => rfl
  have g__law_long := PySem.W.mg_of X G a__law_long
  have F__law_pair := fun_mk (st := s__law_pair) l__law_pair c__law_pair k__law_pair
  have b__law_pair := F__law_pair.binds (ps := ["base", "exponent"]) fun _ _ _ _ _ _ us hl => match us, hl with | [_, _], _ => rfl
  have g__law_pair := PySem.W.mg_of X G a__law_pair
  have F_law := fun_mk (st := s_law) l_law c_law k_law
  have T : Nm mg := { len := PySem.W.mg_none_of X G z_len, range := PySem.W.mg_none_of X G z_range, int := PySem.W.mg_none_of X G z_int, bool := PySem.W.mg_none_of X G z_bool, isinstance := PySem.W.mg_none_of X G z_isinstance, abs := PySem.W.mg_none_of X G z_abs, LEAST_BASE := ⟨_, PySem.W.mg_of X G z_LEAST_BASE⟩, MOST_BASE := ⟨_, PySem.W.mg_of X G z_MOST_BASE⟩, MOST_FIGURES := ⟨_, PySem.W.mg_of X G z_MOST_FIGURES⟩, MOST_EXPONENT := ⟨_, PySem.W.mg_of X G z_MOST_EXPONENT⟩, MOST_NUMBER := ⟨_, PySem.W.mg_of X G z_MOST_NUMBER⟩ }
  refine ⟨PySem.W.fnOf "law" "law" (defArgs s_law) (defBody s_law) (defScope s_law) .none kV_law dc_law pm_law an_law cd_law ct_law, fun s v => .of_eq rfl, fun base _ _ => ?_⟩
  have C_is_number : Has l.prog w K mg base "is_number" 1 ["value"] spIsN _ _ := ⟨ok_is_number T F_is_number, g_is_number, F_is_number.kp, b_is_number⟩
  have C_is_between : Has l.prog w K mg base "is_between" 2 ["least", "most", "value"] spBetween _ _ := ⟨ok_is_between C_is_number F_is_between, g_is_between, F_is_between.kp, b_is_between⟩
  have C_check_between : Has l.prog w K mg base "check_between" 3 ["least", "most", "value"] spCheckB _ _ := ⟨ok_check_between C_is_between F_check_between, g_check_between, F_check_between.kp, b_check_between⟩
  have C_power : Has l.prog w K mg base "power" 1 ["base", "exponent"] spPow _ _ := ⟨ok_power F_power, g_power, F_power.kp, b_power⟩
  have C_check_base : Has l.prog w K mg base "check_base" 4 ["base"] spBase _ _ := ⟨ok_check_base T C_check_between F_check_base, g_check_base, F_check_base.kp, b_check_base⟩
  have C_scaled_by : Has l.prog w K mg base "scaled_by" 2 ["number", "base", "exponent"] (spScaled K) _ _ := ⟨ok_scaled_by C_power F_scaled_by, g_scaled_by, F_scaled_by.kp, b_scaled_by⟩
  have C_figures_in : Has l.prog w K mg base "figures_in" 1 ["base", "number"] spFigIn _ _ := ⟨ok_figures_in F_figures_in, g_figures_in, F_figures_in.kp, b_figures_in⟩
  have C_order_of : Has l.prog w K mg base "order_of" 2 ["fraction", "base"] (spOrder K) _ _ := ⟨ok_order_of C_figures_in F_order_of, g_order_of, F_order_of.kp, b_order_of⟩
  have C_rounded : Has l.prog w K mg base "rounded" 3 ["fraction", "base", "figures"] (spRounded K) _ _ := ⟨ok_rounded C_power C_scaled_by C_order_of F_rounded, g_rounded, F_rounded.kp, b_rounded⟩
  have C_written : Has l.prog w K mg base "written" 5 ["base", "m", "e", "other", "figures"] (spWritten K) _ _ := ⟨ok_written T C_check_base C_check_between C_scaled_by C_rounded F_written, g_written, F_written.kp, b_written⟩
  have C__law_number : Has l.prog w K mg base "_law_number" 1 ["script", "index"] (spNumber K) _ _ := ⟨ok__law_number T F__law_number, g__law_number, F__law_number.kp, b__law_number⟩
  have C__law_take : Has l.prog w K mg base "_law_take" 2 ["draw", "many"] (spTake K) _ _ := ⟨ok__law_take T C__law_number F__law_take, g__law_take, F__law_take.kp, b__law_take⟩
  have C__law_pick : Has l.prog w K mg base "_law_pick" 3 ["draw", "items"] (spPick K) _ _ := ⟨ok__law_pick T C__law_take F__law_pick, g__law_pick, F__law_pick.kp, b__law_pick⟩
  have C__law_long : Has l.prog w K mg base "_law_long" 3 ["draw", "figures"] (spLong K) _ _ := ⟨ok__law_long T C__law_take F__law_long, g__law_long, F__law_long.kp, b__law_long⟩
  have C__law_pair : Has l.prog w K mg base "_law_pair" 1 ["base", "exponent"] (spPair K) _ _ := ⟨ok__law_pair T F__law_pair, g__law_pair, F__law_pair.kp, b__law_pair⟩
  exact ok_law T C_written C__law_take C__law_pick C__law_long C__law_pair F_law
end K53
open PySem PySem.W PyProof.Rows
set_option maxHeartbeats 0 in
theorem PySem.Challenge.cw_pointorstrip_k53_words_of_formats_holds : PySem.Challenge.rw_pointorstrip_k53_words_of_formats.Holds := by
  w_on; o_law; k_head; (case hw => w_witness2)
  k_fill
  refine L2.walk_of (l := PySem.Challenge.rw_pointorstrip_k53_words_of_formats) (n := 63) (k := 6) (x := "script") (CX := fun _ => L2.CX0) (sp := fun w => K53.spLaw _) rfl (by decide) rfl ⟨rfl, by decide, by decide⟩ (fun w h Y => PySem.W.kIn_of Y) ?F (fun _ _ a ns hl _ hS => ⟨a, ns, rfl, hS, hl, fun _ => rfl⟩) (fun _ _ _ _ _ h => h)
  case F =>
    intro w mg fa h KX G hmg
    refine' K53.all_mk KX G hmg ?a_is_number ?l_is_number ?c_is_number ?k_is_number ?a_is_between ?l_is_between ?c_is_between ?k_is_between ?a_check_between ?l_check_between ?c_check_between ?k_check_between ?a_power ?l_power ?c_power ?k_power ?a_check_base ?l_check_base ?c_check_base ?k_check_base ?a_scaled_by ?l_scaled_by ?c_scaled_by ?k_scaled_by ?a_figures_in ?l_figures_in ?c_figures_in ?k_figures_in ?a_order_of ?l_order_of ?c_order_of ?k_order_of ?a_rounded ?l_rounded ?c_rounded ?k_rounded ?a_written ?l_written ?c_written ?k_written ?a__law_number ?l__law_number ?c__law_number ?k__law_number ?a__law_take ?l__law_take ?c__law_take ?k__law_take ?a__law_pick ?l__law_pick ?c__law_pick ?k__law_pick ?a__law_long ?l__law_long ?c__law_long ?k__law_long ?a__law_pair ?l__law_pair ?c__law_pair ?k__law_pair ?a_law ?l_law ?c_law ?k_law ?z_len ?z_range ?z_int ?z_bool ?z_isinstance ?z_abs ?z_LEAST_BASE ?z_MOST_BASE ?z_MOST_FIGURES ?z_MOST_EXPONENT ?z_MOST_NUMBER
    (case a_is_number => k_is)
    (case l_is_number => k_is)
    (case c_is_number => k_is)
    (case k_is_number => k_is)
    (case a_is_between => k_is)
    (case l_is_between => k_is)
    (case c_is_between => k_is)
    (case k_is_between => k_is)
    (case a_check_between => k_is)
    (case l_check_between => k_is)
    (case c_check_between => k_is)
    (case k_check_between => k_is)
    (case a_power => k_is)
    (case l_power => k_is)
    (case c_power => k_is)
    (case k_power => k_is)
    (case a_check_base => k_is)
    (case l_check_base => k_is)
    (case c_check_base => k_is)
    (case k_check_base => k_is)
    (case a_scaled_by => k_is)
    (case l_scaled_by => k_is)
    (case c_scaled_by => k_is)
    (case k_scaled_by => k_is)
    (case a_figures_in => k_is)
    (case l_figures_in => k_is)
    (case c_figures_in => k_is)
    (case k_figures_in => k_is)
    (case a_order_of => k_is)
    (case l_order_of => k_is)
    (case c_order_of => k_is)
    (case k_order_of => k_is)
    (case a_rounded => k_is)
    (case l_rounded => k_is)
    (case c_rounded => k_is)
    (case k_rounded => k_is)
    (case a_written => k_is)
    (case l_written => k_is)
    (case c_written => k_is)
    (case k_written => k_is)
    (case a__law_number => k_is)
    (case l__law_number => k_is)
    (case c__law_number => k_is)
    (case k__law_number => k_is)
    (case a__law_take => k_is)
    (case l__law_take => k_is)
    (case c__law_take => k_is)
    (case k__law_take => k_is)
    (case a__law_pick => k_is)
    (case l__law_pick => k_is)
    (case c__law_pick => k_is)
    (case k__law_pick => k_is)
    (case a__law_long => k_is)
    (case l__law_long => k_is)
    (case c__law_long => k_is)
    (case k__law_long => k_is)
    (case a__law_pair => k_is)
    (case l__law_pair => k_is)
    (case c__law_pair => k_is)
    (case k__law_pair => k_is)
    (case a_law => k_is)
    (case l_law => k_is)
    (case c_law => k_is)
    (case k_law => k_is)
    (case z_len => k_is)
    (case z_range => k_is)
    (case z_int => k_is)
    (case z_bool => k_is)
    (case z_isinstance => k_is)
    (case z_abs => k_is)
    (case z_LEAST_BASE => k_is)
    (case z_MOST_BASE => k_is)
    (case z_MOST_FIGURES => k_is)
    (case z_MOST_EXPONENT => k_is)
    (case z_MOST_NUMBER => k_is)
