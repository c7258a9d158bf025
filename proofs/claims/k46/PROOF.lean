import PyProof.Rows.All
import Wide.All
import OpenK.AllK
import Wide.FinOn
import PySem.Challenge.RW_pointorstrip_k46_sums_by_division
import HandS.ForMost
import HandS.Wide
import HandS.IsInst
import HandS.Style
set_option Elab.async false
set_option linter.all false
set_option maxRecDepth 100000
set_option maxHeartbeats 0
/-! sums of rounded lines: the mathematics -/
namespace M46
def rsum (f : Nat → Int) : Nat → Int
  | 0 => 0
  | n + 1 => rsum f n + f n
theorem rsum_zero (f : Nat → Int) : rsum f 0 = 0 := rfl
theorem rsum_succ (f : Nat → Int) (n : Nat) : rsum f (n + 1) = rsum f n + f n := rfl
theorem rsum_congr {f g : Nat → Int} : ∀ n : Nat, (∀ i, i < n → f i = g i) → rsum f n = rsum g n
  | 0, _ => rfl
  | n + 1, h => by
    rw [rsum_succ, rsum_succ, rsum_congr n fun i hi => h i (by omega), h n (by omega)]
theorem rsum_add (f g : Nat → Int) : ∀ n, rsum (fun i => f i + g i) n = rsum f n + rsum g n
  | 0 => rfl
  | n + 1 => by rw [rsum_succ, rsum_succ, rsum_succ, rsum_add f g n]; omega
theorem rsum_const (c : Int) : ∀ n : Nat, rsum (fun _ => c) n = c * n
  | 0 => by rw [rsum_zero]; simp
  | n + 1 => by rw [rsum_succ, rsum_const c n, Int.natCast_succ, Int.mul_add, Int.mul_one]
theorem rsum_smul (c : Int) (f : Nat → Int) : ∀ n : Nat, rsum (fun i => c * f i) n = c * rsum f n
  | 0 => by rw [rsum_zero, rsum_zero, Int.mul_zero]
  | n + 1 => by rw [rsum_succ, rsum_succ, rsum_smul c f n, Int.mul_add]
theorem rsum_front (f : Nat → Int) : ∀ n, rsum f (n + 1) = f 0 + rsum (fun i => f (i + 1)) n
  | 0 => by rw [rsum_succ, rsum_zero, rsum_zero]; omega
  | n + 1 => by rw [rsum_succ, rsum_front f n, rsum_succ]; omega
theorem rsum_rev (f : Nat → Int) : ∀ n, rsum (fun i => f (n - 1 - i)) n = rsum f n
  | 0 => rfl
  | n + 1 => by
    rw [rsum_front, rsum_succ]
    have e : rsum (fun i => f (n + 1 - 1 - (i + 1))) n = rsum (fun i => f (n - 1 - i)) n := rsum_congr n fun i _ => by
      congr 1; omega
    rw [e, rsum_rev f n]
    show f (n + 1 - 1 - 0) + _ = _
    rw [show n + 1 - 1 - 0 = n by omega]; omega
theorem rsum_more (f : Nat → Int) (n : Nat) : ∀ k, rsum f (n + k) = rsum f n + rsum (fun i => f (n + i)) k
  | 0 => by rw [rsum_zero]; simp
  | k + 1 => by
    show rsum f ((n + k) + 1) = _
    rw [rsum_succ, rsum_succ, rsum_more f n k]; omega
theorem rsum_blocks (f : Nat → Int) (p : Nat) : ∀ n, rsum (fun r => rsum (fun i => f (p * i + r)) n) p = rsum f (n * p)
  | 0 => by
    rw [Nat.zero_mul, rsum_zero]
    show rsum (fun _ => (0 : Int)) p = 0
    rw [rsum_const]; simp
  | n + 1 => by
    rw [Nat.add_mul, Nat.one_mul, rsum_more, ← rsum_blocks f p n]
    rw [← rsum_add]
    refine rsum_congr p fun i _ => ?_
    show rsum _ (n + 1) = _
    rw [rsum_succ]
    show _ + f (p * n + i) = _ + f (n * p + i)
    rw [Nat.mul_comm n p]
/-- the sum of (a i + b) // m -/
def fsum (a b m : Int) (n : Nat) : Int := rsum (fun i => (a * (i : Int) + b) / m) n
theorem fsum_zero (a b m : Int) : fsum a b m 0 = 0 := rfl
theorem fsum_succ (a b m : Int) (n : Nat) : fsum a b m (n + 1) = fsum a b m n + (a * (n : Int) + b) / m := rfl
/-- 0 + 1 + .. below n -/
def tri (n : Nat) : Int := rsum (fun i => (i : Int)) n
theorem tri_two : ∀ n : Nat, 2 * tri n = (n : Int) * ((n : Int) - 1)
  | 0 => by simp [tri, rsum_zero]
  | n + 1 => by
    have h := tri_two n
    have e : tri (n + 1) = tri n + n := rfl
    rw [e, Int.mul_add, h]
    have x : ((n + 1 : Nat) : Int) = (n : Int) + 1 := by omega
    rw [x]
    have y : ((n : Int) + 1) * ((n : Int) + 1 - 1) = (n : Int) * ((n : Int) - 1) + 2 * n := by
      rw [show (n : Int) + 1 - 1 = n by omega, Int.add_mul, Int.mul_sub, Int.mul_one, Int.one_mul]; omega
    rw [y]
theorem tri_eq (n : Nat) : (n : Int) * ((n : Int) - 1) / 2 = tri n := by
  rw [← tri_two]; omega
theorem fsum_shift {m : Int} (hm : 0 < m) (a b p q : Int) (n : Nat) : fsum a b m n = fsum (a - p * m) (b - q * m) m n + p * tri n + q * n := by
  unfold fsum tri
  rw [← rsum_smul, ← rsum_const, ← rsum_add, ← rsum_add]
  refine rsum_congr n fun i _ => ?_
  have e : a * (i : Int) + b = ((a - p * m) * i + (b - q * m)) + (p * i + q) * m := by
    rw [Int.sub_mul, Int.add_mul, Int.mul_right_comm p m i]; omega
  rw [e, Int.add_mul_ediv_right _ _ (by omega)]; omega
theorem fsum_mod {m : Int} (hm : 0 < m) (a b : Int) (n : Nat) : fsum a b m n = tri n * (a / m) + n * (b / m) + fsum (a % m) (b % m) m n := by
  have h := fsum_shift hm a b (a / m) (b / m) n
  have e1 : a - a / m * m = a % m := by rw [Int.emod_def, Int.mul_comm]
  have e2 : b - b / m * m = b % m := by rw [Int.emod_def, Int.mul_comm]
  rw [e1, e2] at h
  rw [h, Int.mul_comm (a / m), Int.mul_comm (b / m)]; omega
/-- the sum over the numbers -/
def hsum (a b m : Int) (n : Nat) (K : Nat) : Int := rsum (fun j => (n : Int) + (b - m * ((j : Int) + 1)) / a) K
theorem hsum_next (a b m : Int) (n K : Nat) : hsum a b m (n + 1) K = hsum a b m n K + K := by
  unfold hsum
  have h : (K : Int) = rsum (fun _ => 1) K := by rw [rsum_const]; omega
  rw [h, ← rsum_add]
  refine rsum_congr K fun i _ => ?_
  omega
theorem fsum_hsum {a b m : Int} (ha : 0 < a) (ham : a < m) (hb : 0 ≤ b) (hbm : b < m) : ∀ n : Nat, fsum a b m n = hsum a b m n ((a * n + b) / m).toNat
  | 0 => by
    have : (a * ((0 : Nat) : Int) + b) / m = 0 := by
      rw [Int.natCast_zero, Int.mul_zero, Int.zero_add]; exact Int.ediv_eq_zero_of_lt hb hbm
    rw [this, fsum_zero]; rfl
  | n + 1 => by
    have ih := fsum_hsum ha ham hb hbm n
    have hm : 0 < m := by omega
    have hn : 0 ≤ a * (n : Int) := Int.mul_nonneg (by omega) (by omega)
    have e : a * ((n + 1 : Nat) : Int) + b = (a * n + b) + a := by
      rw [Int.natCast_succ, Int.mul_add, Int.mul_one]; omega
    rw [fsum_succ, ih, e]
    generalize hK : (a * (n : Int) + b) / m = K
    have k0 : 0 ≤ K := by rw [← hK]; exact Int.ediv_nonneg (by omega) (by omega)
    have k1 : m * K ≤ a * n + b := by rw [← hK]; exact Int.mul_ediv_self_le (by omega)
    have k2 : a * n + b < m * K + m := by
      have := Int.lt_mul_ediv_self_add (x := a * (n : Int) + b) hm
      rw [hK] at this; exact this
    by_cases h : a * n + b + a < m * K + m
    · have eK : (a * (n : Int) + b + a) / m = K := by
        rw [Int.ediv_eq_iff_of_pos hm]
        constructor
        · rw [Int.mul_comm]; omega
        · rw [Int.mul_comm K m]; omega
      rw [eK, hsum_next]; omega
    · have eK : (a * (n : Int) + b + a) / m = K + 1 := by
        rw [Int.ediv_eq_iff_of_pos hm]
        constructor
        · rw [Int.add_mul, Int.mul_comm K m]; omega
        · rw [Int.add_mul, Int.mul_comm K m]; omega
      rw [eK, show (K + 1).toNat = K.toNat + 1 by omega, hsum_next]
      show hsum a b m n K.toNat + K = hsum a b m n (K.toNat + 1) + ((K.toNat + 1 : Nat) : Int)
      have es : hsum a b m n (K.toNat + 1) = hsum a b m n K.toNat + ((n : Int) + (b - m * ((K.toNat : Int) + 1)) / a) := rfl
      rw [es]
      have eq : (b - m * ((K.toNat : Int) + 1)) / a = - ((n : Int) + 1) := by
        rw [show ((K.toNat : Int)) = K by omega, Int.ediv_eq_iff_of_pos ha]
        rw [Int.mul_add, Int.mul_one, Int.neg_mul, Int.add_mul, Int.mul_comm (n : Int) a]
        constructor <;> omega
      omega
/-- the places and the numbers exchanged -/
theorem fsum_swap {a b m : Int} (ha : 0 < a) (ham : a < m) (hb : 0 ≤ b) (hbm : b < m) (n : Nat) : fsum a b m n = fsum m ((a * n + b) % m) a ((a * n + b) / m).toNat := by
  rw [fsum_hsum ha ham hb hbm]
  have hm : 0 < m := by omega
  have hn : 0 ≤ a * (n : Int) := Int.mul_nonneg (by omega) (by omega)
  have k0 : 0 ≤ (a * (n : Int) + b) / m := Int.ediv_nonneg (by omega) (by omega)
  rw [Int.emod_def]
  generalize (a * (n : Int) + b) / m = K at k0
  unfold hsum fsum
  rw [← rsum_rev]
  refine rsum_congr _ fun i hi => ?_
  have e1 : ((K.toNat - 1 - i : Nat) : Int) + 1 = K - i := by omega
  rw [e1]
  have e2 : m * (i : Int) + (a * n + b - m * K) = (b - m * (K - i)) + n * a := by
    rw [Int.mul_sub, Int.mul_comm (n : Int) a]; omega
  rw [e2, Int.add_mul_ediv_right _ _ (by omega)]; omega
/-- a line that stays at 0 -/
theorem fsum_flat {b m : Int} (hb : 0 ≤ b) (hbm : b < m) (n : Nat) : fsum 0 b m n = 0 := by
  unfold fsum
  have e : rsum (fun i => (0 * (i : Int) + b) / m) n = rsum (fun _ => (0 : Int)) n := rsum_congr n fun i _ => by
    rw [Int.zero_mul, Int.zero_add]; exact Int.ediv_eq_zero_of_lt hb hbm
  rw [e, rsum_const]; omega
theorem fsum_back (a b m : Int) (n : Nat) : fsum (0 - a) (b + a * ((n : Int) - 1)) m n = fsum a b m n := by
  unfold fsum
  rw [← rsum_rev (fun i => (a * (i : Int) + b) / m)]
  refine rsum_congr n fun i hi => ?_
  have e : ((n - 1 - i : Nat) : Int) = (n : Int) - 1 - i := by omega
  show _ = (a * ((n - 1 - i : Nat) : Int) + b) / m
  rw [e]
  congr 1
  rw [Int.sub_mul, Int.zero_mul, Int.mul_sub a _ (i : Int)]; omega
theorem fsum_times {m t r : Int} (hm : 0 < m) (ht : 0 < t) (h0 : 0 ≤ r) (hr : r < t) (a b : Int) (n : Nat) : fsum (a * t) (b * t + r) (m * t) n = fsum a b m n := by
  unfold fsum
  refine rsum_congr n fun i hi => ?_
  have e : a * t * (i : Int) + (b * t + r) = r + (a * i + b) * t := by
    rw [Int.add_mul, Int.mul_right_comm]; omega
  rw [e, Int.mul_comm m t, ← Int.ediv_ediv_of_nonneg (by omega), Int.add_mul_ediv_right _ _ (by omega), Int.ediv_eq_zero_of_lt h0 hr, Int.zero_add]
theorem fsum_parts (a b m : Int) (p n : Nat) : rsum (fun r => fsum (a * (p : Int)) (a * (r : Int) + b) m n) p = fsum a b m (n * p) := by
  unfold fsum
  rw [← rsum_blocks]
  refine rsum_congr p fun r _ => rsum_congr n fun i _ => ?_
  congr 1
  rw [Int.natCast_add, Int.natCast_mul, Int.mul_add, Int.mul_assoc]; omega
theorem ediv_turn {m : Int} (hm : 0 < m) (x : Int) : x / m + (0 - x - 1) / m = -1 := by
  have h : (0 - x - 1) / m = -(x / m) - 1 := by
    rw [Int.ediv_eq_iff_of_pos hm]
    have k1 : m * (x / m) ≤ x := Int.mul_ediv_self_le (by omega)
    have k2 : x < m * (x / m) + m := Int.lt_mul_ediv_self_add hm
    generalize x / m = K at k1 k2
    rw [Int.sub_mul, Int.neg_mul, Int.mul_comm K m]
    constructor <;> omega
  omega
theorem fsum_turn {m : Int} (hm : 0 < m) (a b : Int) (n : Nat) : fsum a b m n + fsum (0 - a) (0 - b - 1) m n = 0 - (n : Int) := by
  unfold fsum
  rw [← rsum_add]
  have e : rsum (fun i => (a * (i : Int) + b) / m + ((0 - a) * (i : Int) + (0 - b - 1)) / m) n = rsum (fun _ => (-1 : Int)) n := rsum_congr n fun i _ => by
    have h := ediv_turn hm (a * (i : Int) + b)
    have x : (0 - a) * (i : Int) + (0 - b - 1) = 0 - (a * (i : Int) + b) - 1 := by
      rw [Int.sub_mul, Int.zero_mul]; omega
    rw [x]; exact h
  rw [e, rsum_const]; omega
/-- one turn of the loop -/
theorem turn_ok {m : Int} (hm : 0 < m) (a b : Int) (n : Nat) : fsum a b m n = (n : Int) * ((n : Int) - 1) / 2 * (a / m) + n * (b / m) + fsum m ((a % m * n + b % m) % m) (a % m) ((a % m * n + b % m) / m).toNat := by
  rw [fsum_mod hm, tri_eq]
  have a0 := Int.emod_nonneg a (show m ≠ 0 by omega)
  have a1 := Int.emod_lt_of_pos a hm
  have b0 := Int.emod_nonneg b (show m ≠ 0 by omega)
  have b1 := Int.emod_lt_of_pos b hm
  by_cases h : 0 < a % m
  · rw [fsum_swap h a1 b0 b1]
  · have z : a % m = 0 := by omega
    rw [z, fsum_flat b0 b1, Int.zero_mul, Int.zero_add, Int.ediv_eq_zero_of_lt b0 b1]
    rfl
end M46
/-! ### rules and heaps of our own -/
namespace My
open PySem PySem.Spec PyProof.Rows L2
theorem asm {p : Prop} (h : p) : p := h
/-- what the operators ask, closed up so that nothing unfolds it -/
structure OkMul (i j : Int) : Prop where
  ok : IntMulOk i j
structure OkDiv (i j : Int) : Prop where
  ok : CDivW i j
structure OkMod (i j : Int) : Prop where
  ok : 0 < j
theorem op_mulA {X : Cx} : OpR X (binaryOp .Mult) (rI OkMul fun i j => .int (i * j)) := opI fun _ _ _ _ _ _ _ hc q => mul_int q hc.ok
theorem op_fdivA {X : Cx} : OpR X (binaryOp .FloorDiv) (rI OkDiv fun i j => .int (i / j)) := opI fun i j _ _ _ _ _ hc q => by
  have h1 : (0 : Int) < j := hc.ok.1
  exact floordiv_int (by omega) (by rw [Int.fdiv_eq_ediv_of_nonneg i (by omega)]; exact q) (.inl (PyProof.noPylong_of_log2 hc.ok.2))
theorem op_modA {X : Cx} : OpR X (binaryOp .Mod) (rI OkMod fun i j => .int (i % j)) := opI fun i j _ _ _ _ _ hc q => by
  have h1 : (0 : Int) < j := hc.ok
  exact mod_int' (by omega) (by rw [Int.fmod_eq_emod_of_nonneg i (by omega)]; exact q)
theorem pget_list {X : Cx} : PGet X (rIxL X.K) := by
  intro pins s σ H x y v u Q I rx ry h
  obtain ⟨p, xs, i, z, rfl, rfl, hq, he, q⟩ := h
  cases rx
  obtain ⟨t, rfl⟩ := ry
  obtain ⟨its, r, pl, hz⟩ := I.list hq
  obtain ⟨j, h1, h2, h3, h4, h5⟩ := atI_get he
  obtain ⟨w, ew, rw'⟩ := r.get h2
  have hl := r.length
  have hn := line63
  have fin : EP X pins σ Q w s := ⟨z, H, I, rw', q⟩
  by_cases h0 : 0 ≤ i
  · have hj : i.toNat = j := by
      rw [seqIndex_of h0 h5] at h1
      exact Option.some.inj h1
    exact wpAny_getItem_list pl.isList h0 (by omega) (by rw [hj]; simpa using ew) fin
  · have hj : (i + (its.toArray.size : Int)).toNat = j := by
      rw [seqIndex_neg (by omega) h4] at h1
      rw [List.size_toArray, ← hl]
      exact Option.some.inj h1
    exact wpAny_getItem_list_neg pl.isList (by omega) (by rw [List.size_toArray] <;> omega) (by omega) (by rw [hj]; simpa using ew) fin
theorem same_upd {H : Hp} {p : Addr} {o : HO} (h : H p = none) : Same H (upd H p o) := fun b x e => by
  rw [upd_ne (ne_of_none e h)]
  exact e
/-- all but one object as it was -/
def Keep (d : Addr) (H H' : Hp) : Prop := ∀ b o, b ≠ d → H b = some o → H' b = some o
theorem Keep.refl (d : Addr) (H : Hp) : Keep d H H := fun _ _ _ h => h
theorem Keep.trans {d : Addr} {H H1 H2 : Hp} (a : Keep d H H1) (b : Keep d H1 H2) : Keep d H H2 := fun c o n h => b c o n (a c o n h)
theorem Keep.of {d : Addr} {H H1 : Hp} (a : Same H H1) : Keep d H H1 := fun c o _ h => a c o h
theorem Keep.upd (d : Addr) (H : Hp) (o : HO) : Keep d H (upd H d o) := fun b x n e => by
  rw [upd_ne n]
  exact e
theorem Keep.seq {K : PySem.W.Frag} {d : Addr} {H H' : Hp} {a : Addr} {xs : List V} (e : Keep d H H') (n : a ≠ d) (h : SqL K H a xs) : SqL K H' a xs := by
  rcases h with (h | ⟨o, h⟩) | h
  · exact .inl (.inl (e _ _ n h))
  · exact .inl (.inr ⟨o, e _ _ n h⟩)
  · exact .inr h
theorem Keep.tup {K : PySem.W.Frag} {d : Addr} {H H' : Hp} {a : Addr} {xs : List V} (e : Keep d H H') (n : a ≠ d) (h : SqT K H a xs) : SqT K H' a xs := by
  rcases h with (h | ⟨o, h⟩) | h
  · exact .inl (.inl (e _ _ n h))
  · exact .inl (.inr ⟨o, e _ _ n h⟩)
  · exact .inr h
theorem Same.tup {K : PySem.W.Frag} {H H' : Hp} {a : Addr} {xs : List V} (e : Same H H') (h : SqT K H a xs) : SqT K H' a xs := by
  rcases h with (h | ⟨o, h⟩) | h
  · exact .inl (.inl (e _ _ h))
  · exact .inl (.inr ⟨o, e _ _ h⟩)
  · exact .inr h
theorem Keep.seqS {K : PySem.W.Frag} {d s : Addr} {H H' : Hp} {r : List V} {ns : List Int} (e : Keep d H H') (hd : H d = some (.lst (.ref s :: r))) (h : SqL K H s (ns.map V.int)) : SqL K H' s (ns.map V.int) := by
  rcases h with (h | ⟨o, h⟩) | h
  · refine .inl (.inl (e _ _ ?_ h))
    rintro rfl
    rw [hd] at h
    cases ns with
    | nil => cases h
    | cons n ns => cases h
  · refine .inl (.inr ⟨o, e _ _ ?_ h⟩)
    rintro rfl
    rw [hd] at h
    cases h
  · exact .inr h
/-- the list that draws: the script, how many were drawn -/
def DrawAt (K : PySem.W.Frag) (H : Hp) (d s : Addr) (ns : List Int) : Prop := ∃ k : Int, H d = some (.lst [.ref s, .int k]) ∧ SqL K H s (ns.map V.int) ∧ ns.length ≤ 63
theorem DrawAt.same {K : PySem.W.Frag} {H H' : Hp} {d s : Addr} {ns : List Int} (e : Same H H') (h : DrawAt K H d s ns) : DrawAt K H' d s ns := by
  obtain ⟨k, h1, h3, h4⟩ := h
  exact ⟨k, e _ _ h1, e.seq h3, h4⟩
theorem DrawAt.set {K : PySem.W.Frag} {H : Hp} {d s : Addr} {ns : List Int} {k : Int} (h : DrawAt K H d s ns) : DrawAt K (upd H d (.lst [.ref s, .int k])) d s ns := by
  obtain ⟨k0, h1, h3, h4⟩ := h
  exact ⟨k, upd_same, (Keep.upd d H _).seqS h1 h3, h4⟩
theorem mulOk {i j : Int} {a b : Nat} (ha : i.natAbs < 2 ^ a) (hb : j.natAbs < 2 ^ b) (h0 : 0 < a) (h1 : 0 < b) (h : a + b ≤ 1000000) : OkMul i j := ⟨(wide_mul ha hb h0 h1 h).ok⟩
theorem mulOkL {i j : Int} (h1 : -(2 ^ 64) < i) (h2 : i < 2 ^ 64) : OkMul i j := ⟨CMul.ok (.inl ⟨h1, h2⟩)⟩
theorem mulOkR {i j : Int} (h1 : -(2 ^ 64) < j) (h2 : j < 2 ^ 64) : OkMul i j := ⟨CMul.ok (.inr ⟨h1, h2⟩)⟩
theorem divOk {i j : Int} (h : 0 < j) (hb : j < 2 ^ 64) : OkDiv i j := ⟨wide_div (b := 64) h (by omega) (by decide) (by decide)⟩
theorem call_absN {X : Cx} : CallR X (.builtin "abs") (fun xs H Q => ∃ i : Int, xs = [.int i] ∧ Q (.int (i.natAbs : Int)) H) := fun pins s σ H xs us Q I r ⟨i, e, q⟩ => call_abs pins s σ H xs us Q I r ⟨i, e, by
  have h : (if i < 0 then -i else i) = (i.natAbs : Int) := by split <;> omega
  rw [h]
  exact q⟩
theorem call_minN {X : Cx} (hc : X.calm = true) : CallR X (.builtin "min") (fun xs H Q => ∃ i j : Int, xs = [.int i, .int j] ∧ Q (.int (min i j)) H) := fun pins s σ H xs us Q I r ⟨i, j, e, q⟩ => call_min2 hc pins s σ H xs us Q I r ⟨i, j, e, by
  have h : (if j < i then j else i) = min i j := by split <;> omega
  rw [h]
  exact q⟩
/-- the ways of a conditional expression joined -/
theorem tIf_via {t : TT} {ta tb : TE} {σ : L2.St} {H : Hp} {Q : VK} (R : V → Hp → Prop) (h : ∀ Q' : VK, (∀ v H', R v H' → Q' v H') → tIf t ta tb σ H Q') (k : ∀ v H', R v H' → Q v H') : tIf t ta tb σ H Q := h Q k
/-- name = a if t else b, more -/
theorem sIf_via {t : TT} {ta tb : TE} {g : TG} {u : TS} {D : Ends} {σ : L2.St} {H : Hp} (R : V → Hp → Prop) (h : ∀ Q' : VK, (∀ v H', R v H' → Q' v H') → tIf t ta tb σ H Q') (k : ∀ v H', R v H' → g v σ H' fun σ' H'' => u D σ' H'') : tSeq (tAsg (tIf t ta tb) g) u D σ H := h _ k
theorem call_intI {X : Cx} : CallR X (.type "int") (fun xs H Q => ∃ i, xs = [.int i] ∧ Q (.int i) H) := fun pins s σ H xs us Q I r h => call_int1 pins s σ H xs us Q I r (.inl h)
theorem call_lenL {X : Cx} : CallR X (.builtin "len") (fun xs H Q => ∃ p ys, xs = [.ref p] ∧ SqL X.K H p ys ∧ Q (.int ys.length) H) := fun pins s σ H xs us Q I r ⟨p, ys, e, h, q⟩ => call_len_seq pins s σ H xs us Q I r ⟨p, ys, e, .inl h, q⟩
theorem pe_ty {X : Cx} {x : Str} {n : String} {pos : Pos} (hg : Gl X x) (hm : X.mg x = none) (hv : bootBuiltins x = some (.type n)) (hn : x ≠ Str.ofString "__name__" := by decide) (hd : (x == Str.ofString "__debug__") = false := by decide) : PE X (.Name x pos) (tC (.ty n)) := pe_bltn hg hm hv rfl (hn := hn) (hd := hd)
section
variable {P : Program} {w : World} {K : PySem.W.Frag} {mg : Str → Option Value} {base : Heap}
/-- a def that stands at its name and keeps its promise -/
structure Has (P : Program) (w : World) (K : PySem.W.Frag) (mg : Str → Option Value) (base : Heap) (x : Str) (k : Nat) (ps : List Str) (sp : Sp) (f : Addr) (fd : FuncData) : Prop where
  G : FnOk P w K mg base CX0 k f fd ps sp
  g : mg x = some (.ref f)
  k : PySem.W.keepIn K (.ref f) = true
  b : Binds K fd ps []
/-- the def as the top left it -/
structure Def (K : PySem.W.Frag) (mg : Str → Option Value) (x : Str) (st : Stmt) (ps : List Str) (f : Addr) (fd : FuncData) : Prop where
  F : Fun K x x st f fd
  g : mg x = some (.ref f)
  b : Binds K fd ps []
theorem Def.has {x : Str} {st : Stmt} {ps : List Str} {k : Nat} {sp : Sp} {f : Addr} {fd : FuncData} (D : Def K mg x st ps f fd) (G : FnOk P w K mg base CX0 k f fd ps sp) : Has P w K mg base x k ps sp f fd := ⟨G, D.g, D.F.kp, D.b⟩
end
end My
namespace K46
open PySem PySem.Spec PyProof.Rows L2 My M46
local macro_rules | `(tactic| walk_at "side") => `(tactic| (first
  | assumption
  | (refine OkMod.mk ?_; omega)
  | (refine mulOkL ?_ ?_ <;> omega)
  | (refine mulOkR ?_ ?_ <;> omega)
  | (refine divOk ?_ ?_ <;> omega)))
local macro_rules | `(tactic| walk_at "rd") => `(tactic| (first
  | with_reducible refine ⟨_, rfl, ?_⟩
  | refine ⟨_, rfl, ?_⟩
  | refine ⟨_, _, rfl, rfl, ?_⟩
  | refine And.intro (by walk_at "side") ?_
  | refine ⟨_, _, rfl, asm (by assumption), ?_⟩
  | refine ⟨_, _, rfl, asm ?_⟩))
/-! ### the text -/
def topS (i : Nat) : Stmt := PySem.Challenge.pw_pointorstrip_k46_sums_by_division.main.body.getD i (.Pass ⟨0, 0, 0, 0⟩)
abbrev s_is_number : Stmt := topS 4
theorem sc_is_number : FnScope ["value"] ["value"] (defScope s_is_number) := ⟨rfl, rfl, rfl, by decide +kernel, rfl, by decide +kernel, by decide +kernel⟩
abbrev s_check_numbers : Stmt := topS 5
theorem sc_check_numbers : FnScope ["values", "value"] ["values"] (defScope s_check_numbers) := ⟨rfl, rfl, rfl, by decide +kernel, rfl, by decide +kernel, by decide +kernel⟩
abbrev s_check_from : Stmt := topS 6
theorem sc_check_from : FnScope ["least", "value"] ["least", "value"] (defScope s_check_from) := ⟨rfl, rfl, rfl, by decide +kernel, rfl, by decide +kernel, by decide +kernel⟩
abbrev s_total : Stmt := topS 8
theorem sc_total : FnScope ["a", "b", "m", "many", "found", "end"] ["a", "b", "m", "many"] (defScope s_total) := ⟨rfl, rfl, rfl, by decide +kernel, rfl, by decide +kernel, by decide +kernel⟩
abbrev s__law_number : Stmt := topS 10
theorem sc__law_number : FnScope ["script", "index", "cell", "turn", "rest", "step", "blend"] ["script", "index"] (defScope s__law_number) := ⟨rfl, rfl, rfl, by decide +kernel, rfl, by decide +kernel, by decide +kernel⟩
abbrev s__law_take : Stmt := topS 11
theorem sc__law_take : FnScope ["draw", "many"] ["draw", "many"] (defScope s__law_take) := ⟨rfl, rfl, rfl, by decide +kernel, rfl, by decide +kernel, by decide +kernel⟩
abbrev s__law_pick : Stmt := topS 12
theorem sc__law_pick : FnScope ["draw", "items"] ["draw", "items"] (defScope s__law_pick) := ⟨rfl, rfl, rfl, by decide +kernel, rfl, by decide +kernel, by decide +kernel⟩
abbrev s__law_long : Stmt := topS 13
theorem sc__law_long : FnScope ["draw", "figures", "found", "turn"] ["draw", "figures"] (defScope s__law_long) := ⟨rfl, rfl, rfl, by decide +kernel, rfl, by decide +kernel, by decide +kernel⟩
abbrev s_law : Stmt := topS 14
theorem sc_law : FnScope ["script", "draw", "again", "a", "b", "m", "many", "found", "p", "q", "times", "parts", "at"] ["script"] (defScope s_law) := ⟨rfl, rfl, rfl, by decide +kernel, rfl, by decide +kernel, by decide +kernel⟩
/-- the built-in names that are still built-in -/
structure Nm (mg : Str → Option Value) : Prop where
  len : mg "len" = none
  range : mg "range" = none
  int : mg "int" = none
  bool : mg "bool" = none
  isinstance : mg "isinstance" = none
  abs : mg "abs" = none
  min : mg "min" = none
  sum : mg "sum" = none
section
variable {P : Program} {w : World} {K : PySem.W.Frag} {mg : Str → Option Value} {base : Heap}
/-! ### is_number, check_numbers, check_from -/
def spIsN : Sp := fun vs H Q _ => ∃ i : Int, vs = [.int i] ∧ Q (.bl true) H
theorem ok_is_number {f : Addr} {fd : FuncData} (T : Nm mg) (F : Fun K "is_number" "is_number" s_is_number f fd) : FnOk P w K mg base CX0 1 f fd ["value"] spIsN := by
  refine F.ok sc_is_number (fun vs H Q E h => ?_) (fun cdv A outer s H vs Q E hr h => ?_)
  · obtain ⟨i, rfl, _⟩ := h
    rfl
  · obtain ⟨i, rfl, q⟩ := h
    refine ⟨_, (pss_one (ps_ret (pe_and (pe_callB call_isi (by rfl) T.isinstance (by decide +kernel) (pa_cons (pv 0) (pa_cons (pe_ty (n := "int") (by rfl) T.int (by decide +kernel)) pa_nil))) (pe_one (pe_not (pe_callB call_isi (by rfl) T.isinstance (by decide +kernel) (pa_cons (pv 0) (pa_cons (pe_ty (n := "bool") (by rfl) T.bool (by decide +kernel)) pa_nil)))))))), ?_⟩
    refine ⟨_, rfl, _, _, _, _, _, rfl, .ty _, .base (.int _), kit_ty (by decide +kernel), true, rfl, iteT ?_⟩
    exact ⟨_, rfl, _, _, _, _, _, rfl, .ty _, .base (.int _), kit_ty (by decide +kernel), false, rfl, q⟩
def spCheckNums (K : PySem.W.Frag) : Sp := fun vs H Q _ => ∃ (a : Addr) (ns : List Int), vs = [.ref a] ∧ SqL K H a (ns.map V.int) ∧ Q .non H
theorem ok_check_numbers {f fN : Addr} {fd fdN : FuncData} (T : Nm mg) (C_is_number : Has P w K mg base "is_number" 1 ["value"] spIsN fN fdN) (F : Fun K "check_numbers" "check_numbers" s_check_numbers f fd) : FnOk P w K mg base CX0 2 f fd ["values"] (spCheckNums K) := by
  refine F.ok sc_check_numbers (fun vs H Q E h => ?_) (fun cdv A outer s H vs Q E hr h => ?_)
  · obtain ⟨a, ns, rfl, _⟩ := h
    rfl
  · obtain ⟨a, ns, rfl, hS, q⟩ := h
    refine ⟨_, (pss_one (ps_for PassesOwn.never rfl (pi_list (pv 0)) (pg_name (i := 1) sc_check_numbers.nd rfl (Or.inl rfl))
      (pss_one (ps_if (pt_not (pt_val (pe_call C_is_number.G (hr.mono (by decide)) (by rfl) C_is_number.g C_is_number.k C_is_number.b .nil pass0 (pa_cons (pv 1) pa_nil))))
      (pss_one ps_never)
      pss_nil)))), ?_⟩
    refine ⟨_, rfl, a, rfl, ⟨_, hS⟩, for_list (K := K) (a := a) (xs := ns.map V.int) (fun i σ H' => ∃ y, σ = [some (.ref a), y] ∧ H' = H) ⟨none, rfl, rfl⟩ (fun i σ H' _ ⟨_, _, e⟩ => e ▸ hS) ?_ ?_⟩
    · rintro i x σ H' hi ⟨y, rfl, rfl⟩
      obtain ⟨z, _, rfl⟩ := List.mem_map.mp (List.mem_of_getElem? hi)
      exact ⟨_, rfl, z, rfl, true, rfl, iteF ⟨_, rfl, rfl⟩⟩
    · rintro σ H' ⟨y, rfl, rfl⟩
      exact q
def spCheckFrom : Sp := fun vs H Q _ => ∃ l i : Int, vs = [.int l, .int i] ∧ l ≤ i ∧ Q .non H
theorem ok_check_from {f fN : Addr} {fd fdN : FuncData} (T : Nm mg) (C_is_number : Has P w K mg base "is_number" 1 ["value"] spIsN fN fdN) (F : Fun K "check_from" "check_from" s_check_from f fd) : FnOk P w K mg base CX0 2 f fd ["least", "value"] spCheckFrom := by
  refine F.ok sc_check_from (fun vs H Q E h => ?_) (fun cdv A outer s H vs Q E hr h => ?_)
  · obtain ⟨l, i, rfl, _⟩ := h
    rfl
  · obtain ⟨l, i, rfl, hl, q⟩ := h
    refine ⟨_, (pss_one (ps_if (PW.pt (pw_or (pt_not (pt_val (pe_call C_is_number.G (hr.mono (by decide)) (by rfl) C_is_number.g C_is_number.k C_is_number.b .nil pass0 (pa_cons (pv 1) pa_nil)))) (pw_or1 (pt_cmpR op_lt (pv 1) (pv 0) (nomark _)))))
      (pss_one ps_never)
      pss_nil)), ?_⟩
    refine ⟨_, rfl, i, rfl, true, rfl, iteF ?_⟩
    refine ⟨_, rfl, _, rfl, _, _, rfl, rfl, _, rfl, ?_⟩
    rw [decide_eq_false (show ¬ i < l by omega)]
    exact iteF q
/-! ### total -/
def Bd (i : Int) : Prop := i.natAbs < 2 ^ 1000
def spTotal : Sp := fun vs H Q _ => ∃ a b m n : Int, vs = [.int a, .int b, .int m, .int n] ∧ Bd a ∧ Bd b ∧ Bd m ∧ Bd n ∧ 0 < m ∧ 0 ≤ n ∧ ∀ H', Same H H' → Q (.int (fsum a b m n.toNat)) H'
theorem Bd.of {i : Int} (h0 : 0 ≤ i) {j : Int} (hj : Bd j) (h : i ≤ j) : Bd i := by
  unfold Bd at *
  omega
theorem Bd.div {j i : Int} (h : 0 < j) (hb : Bd j) : OkDiv i j := ⟨wide_div (b := 1000) h hb (by decide) (by decide)⟩
theorem Bd.mul {i j : Int} (hi : i.natAbs < 2 ^ 3000) (hj : j.natAbs < 2 ^ 3000) : OkMul i j := mulOk hi hj (by decide) (by decide) (by decide)
theorem Bd.up {i : Int} (h : Bd i) : i.natAbs < 2 ^ 3000 := Nat.lt_trans h (by decide +kernel)
theorem natAbs_div_le {x m : Int} (hm : 0 < m) : (x / m).natAbs ≤ x.natAbs + 1 := by
  have k1 : m * (x / m) ≤ x := Int.mul_ediv_self_le (by omega)
  have k2 : x < m * (x / m) + m := Int.lt_mul_ediv_self_add hm
  by_cases h : 0 ≤ x
  · have h1 := Int.ediv_le_self m h
    have h2 : 0 ≤ x / m := Int.ediv_nonneg h (by omega)
    omega
  · have h1 : x ≤ x / m := by
      by_cases hh : x ≤ x / m
      · exact hh
      · exfalso
        have w2 : m * (x / m) ≤ m * (x - 1) := Int.mul_le_mul_of_nonneg_left (by omega) (by omega)
        have w3 : m * (x - 1) = m * x - m := by rw [Int.mul_sub, Int.mul_one]
        have w4 : m * x ≤ 1 * x := Int.mul_le_mul_of_nonpos_right (by omega) (by omega)
        omega
    have : x / m < 0 := Int.ediv_neg_of_neg_of_pos (by omega) hm
    omega
theorem Bd.divw {x m : Int} (hm : 0 < m) (hx : Bd x) : (x / m).natAbs < 2 ^ 3000 := by
  have h := natAbs_div_le (x := x) hm
  have h2 : x.natAbs < 2 ^ 1000 := hx
  have h3 : (2 : Nat) ^ 1000 + 1 < 2 ^ 3000 := by decide +kernel
  omega
theorem ok_total {f f1 f2 : Addr} {fd fd1 fd2 : FuncData} (C_check_numbers : Has P w K mg base "check_numbers" 2 ["values"] (spCheckNums K) f1 fd1) (C_check_from : Has P w K mg base "check_from" 2 ["least", "value"] spCheckFrom f2 fd2) (F : Fun K "total" "total" s_total f fd) : FnOk P w K mg base CX0 3 f fd ["a", "b", "m", "many"] spTotal := by
  refine F.ok sc_total (fun vs H Q E h => ?_) (fun cdv A outer s H vs Q E hr h => ?_)
  · obtain ⟨a, b, m, n, rfl, _⟩ := h
    rfl
  · obtain ⟨a, b, m, n, rfl, ba, bb, bm, bn, hm, hn, q⟩ := h
    refine ⟨_, (pss_cons (ps_expr (pe_call C_check_numbers.G (hr.mono (by decide)) (by rfl) C_check_numbers.g C_check_numbers.k C_check_numbers.b .nil pass0 (pa_cons (pe_lst (pa_cons (pv 0) (pa_cons (pv 1) (pa_cons (pv 2) (pa_cons (pv 3) pa_nil))))) pa_nil)))
    (pss_cons (ps_expr (pe_call C_check_from.G (hr.mono (by decide)) (by rfl) C_check_from.g C_check_from.k C_check_from.b .nil pass0 (pa_cons pe_int (pa_cons (pv 2) pa_nil))))
    (pss_cons (ps_expr (pe_call C_check_from.G (hr.mono (by decide)) (by rfl) C_check_from.g C_check_from.k C_check_from.b .nil pass0 (pa_cons pe_int (pa_cons (pv 3) pa_nil))))
    (pss_cons (ps_set (i := 4) sc_total.nd rfl (Or.inl rfl) pe_int)
    (pss_cons (ps_while PassesOwn.never (pt_cmpR op_gt (pv 3) pe_int (nomark _))
      (pss_cons (ps_set (i := 4) sc_total.nd rfl (Or.inl rfl) (pe_op op_add (pe_op op_add (pv 4) (pe_op op_mulA (pe_op op_fdivA (pe_op op_mulA (pv 3) (pe_op op_sub (pv 3) pe_int)) pe_int) (pe_op op_fdivA (pv 0) (pv 2)))) (pe_op op_mulA (pv 3) (pe_op op_fdivA (pv 1) (pv 2)))))
    (pss_cons (ps_set (i := 0) sc_total.nd rfl (Or.inl rfl) (pe_op op_modA (pv 0) (pv 2)))
    (pss_cons (ps_set (i := 1) sc_total.nd rfl (Or.inl rfl) (pe_op op_modA (pv 1) (pv 2)))
    (pss_cons (ps_set (i := 5) sc_total.nd rfl (Or.inl rfl) (pe_op op_add (pe_op op_mulA (pv 0) (pv 3)) (pv 1)))
    (pss_cons (ps_set (i := 3) sc_total.nd rfl (Or.inl rfl) (pe_op op_fdivA (pv 5) (pv 2)))
    (pss_cons (ps_set (i := 1) sc_total.nd rfl (Or.inl rfl) (pe_op op_modA (pv 5) (pv 2)))
    (pss_one (ps_par (i := 0) (j := 2) (by rfl) sc_total.nd rfl rfl (by decide) rfl rfl (pa_cons (pv 2) (pa_cons (pv 0) pa_nil)) (by rfl))))))))))
    (pss_one (ps_ret (pv 4)))))))), ?_⟩
    refine ⟨_, rfl, _, rfl, _, rfl, _, rfl, (by show 4 ≤ sizeLine; decide), fun p np => ?_⟩
    refine ⟨p, [a, b, m, n], rfl, .inl (.inl upd_same), ?_⟩
    refine ⟨_, rfl, 1, m, rfl, by omega, _, rfl, 0, n, rfl, hn, ?_⟩
    have sm : Same H (upd H p (.lst [.int a, .int b, .int m, .int n])) := same_upd np
    generalize hT : fsum a b m n.toNat = T at q
    refine ⟨fun μ σ H' => ∃ a b m n found : Int, ∃ e, σ = [some (.int a), some (.int b), some (.int m), some (.int n), some (.int found), e] ∧ Same H H' ∧ Bd a ∧ Bd b ∧ Bd m ∧ Bd n ∧ 0 ≤ m ∧ (0 < n → 0 < m) ∧ 0 ≤ n ∧ found + fsum a b m n.toNat = T ∧ μ = m.toNat,
      ⟨m.toNat, a, b, m, n, 0, none, rfl, sm, ba, bb, bm, bn, by omega, fun _ => hm, hn, by omega, rfl⟩, ?_⟩
    clear hT ba bb bm bn hm hn sm np
    rintro μ σ H1 ⟨a, b, m, n, found, e, rfl, sm, ba, bb, bm, bn, m0, mn, n0, ht, rfl⟩
    refine ⟨_, rfl, _, _, rfl, rfl, _, rfl, ?_⟩
    by_cases hp : n > 0
    · rw [decide_eq_true hp]
      refine iteT ?_
      have hm : 0 < m := mn hp
      have mo : ∀ x, OkMod x m := fun _ => ⟨hm⟩
      have mo1 := mo a
      have mo2 := mo b
      have mo3 := mo (a % m * n + b % m)
      have d1 : OkDiv a m := Bd.div hm bm
      have d2 : OkDiv b m := Bd.div hm bm
      have d3 : OkDiv (n * (n - 1)) 2 := divOk (by omega) (by omega)
      have bn1 : (n - 1).natAbs < 2 ^ 1000 := by
        have : n.natAbs < 2 ^ 1000 := bn
        omega
      have u1 : OkMul n (n - 1) := mulOk bn bn1 (by decide) (by decide) (by decide)
      have bnn : (n * (n - 1)).natAbs < 2 ^ 2000 := wide_lt bn bn1
      have bnn2 : (n * (n - 1) / 2).natAbs < 2 ^ 3000 := by
        have h := natAbs_div_le (x := n * (n - 1)) (m := 2) (by omega)
        have h3 : (2 : Nat) ^ 2000 + 1 < 2 ^ 3000 := by decide +kernel
        omega
      have u2 : OkMul (n * (n - 1) / 2) (a / m) := Bd.mul bnn2 (Bd.divw hm ba)
      have u3 : OkMul n (b / m) := Bd.mul bn.up (Bd.divw hm bb)
      have a0 := Int.emod_nonneg a (show m ≠ 0 by omega)
      have a1 := Int.emod_lt_of_pos a hm
      have b0 := Int.emod_nonneg b (show m ≠ 0 by omega)
      have b1 := Int.emod_lt_of_pos b hm
      have ba' : Bd (a % m) := Bd.of a0 bm (by omega)
      have bb' : Bd (b % m) := Bd.of b0 bm (by omega)
      have u4 : OkMul (a % m) n := Bd.mul ba'.up bn.up
      have d4 : OkDiv (a % m * n + b % m) m := Bd.div hm bm
      have e0 : 0 ≤ a % m * n := Int.mul_nonneg a0 n0
      have e1 : 0 ≤ (a % m * n + b % m) / m := Int.ediv_nonneg (by omega) (by omega)
      have e2 : (a % m * n + b % m) / m ≤ n := by
        have h : a % m * n ≤ (m - 1) * n := Int.mul_le_mul_of_nonneg_right (by omega) n0
        rw [Int.sub_mul, Int.one_mul] at h
        have h2 : a % m * n + b % m < m * n + m := by omega
        have h3 : (a % m * n + b % m) / m < n + 1 := Int.ediv_lt_of_lt_mul hm (by rw [Int.add_mul, Int.mul_comm n m]; omega)
        omega
      have f0 := Int.emod_nonneg (a % m * n + b % m) (show m ≠ 0 by omega)
      have f1 := Int.emod_lt_of_pos (a % m * n + b % m) hm
      refine ⟨fun σ' H' => ∃ a' b' m' n' found' : Int, ∃ e', σ' = [some (.int a'), some (.int b'), some (.int m'), some (.int n'), some (.int found'), e'] ∧ Same H H' ∧ Bd a' ∧ Bd b' ∧ Bd m' ∧ Bd n' ∧ 0 ≤ m' ∧ (0 < n' → 0 < m') ∧ 0 ≤ n' ∧ found' + fsum a' b' m' n'.toNat = T ∧ m'.toNat < m.toNat, ?_, ?_⟩
      · rintro σ' H' ⟨a', b', m', n', found', e', h1, h2, h3, h4, h5, h6, h7, h8, h9, h10, h11⟩
        exact ⟨_, h11, a', b', m', n', found', e', h1, h2, h3, h4, h5, h6, h7, h8, h9, h10, rfl⟩
      · repeat (walk_at "rd")
        refine ⟨m, (a % m * n + b % m) % m, a % m, (a % m * n + b % m) / m, found + n * (n - 1) / 2 * (a / m) + n * (b / m), _, rfl, sm, bm, Bd.of f0 bm (by omega), ba', Bd.of e1 bn e2, a0, fun h => ?_, e1, ?_, by omega⟩
        · by_cases z : a % m = 0
          · rw [z, Int.zero_mul, Int.zero_add, Int.ediv_eq_zero_of_lt b0 b1] at h
            omega
          · omega
        · have k := turn_ok hm a b n.toNat
          rw [show ((n.toNat : Nat) : Int) = n by omega] at k
          omega
    · rw [decide_eq_false hp]
      refine iteF ?_
      have z : n.toNat = 0 := by omega
      rw [z, fsum_zero] at ht
      refine ⟨_, rfl, ?_⟩
      rw [show found = T by omega]
      exact q _ sm
end
end K46
namespace K46
open PySem PySem.Spec PyProof.Rows L2 My M46
local macro_rules | `(tactic| walk_at "side") => `(tactic| (first
  | assumption
  | (refine OkMod.mk ?_; omega)
  | (refine mulOkL ?_ ?_ <;> omega)
  | (refine mulOkR ?_ ?_ <;> omega)
  | (refine divOk ?_ ?_ <;> omega)))
local macro_rules | `(tactic| walk_at "rd") => `(tactic| (first
  | with_reducible refine ⟨_, rfl, ?_⟩
  | refine ⟨_, rfl, ?_⟩
  | refine ⟨_, _, rfl, rfl, ?_⟩
  | refine And.intro (by walk_at "side") ?_
  | refine ⟨_, _, rfl, asm (by assumption), ?_⟩
  | refine ⟨_, _, rfl, asm ?_⟩))
section
variable {P : Program} {w : World} {K : PySem.W.Frag} {mg : Str → Option Value} {base : Heap}
/-! ### the draws -/
def spNumber (K : PySem.W.Frag) : Sp := fun vs H Q _ => ∃ (s : Addr) (i : Int) (ns : List Int), vs = [.ref s, .int i] ∧ SqL K H s (ns.map V.int) ∧ ns.length ≤ 63 ∧ ∀ (v : Int) H', Same H H' → Q (.int v) H'
theorem dpAll_ints {K : PySem.W.Frag} {H : Hp} : ∀ ns : List Int, DpAll K H (ns.map V.int) (ns.map PyData.int)
  | [] => .nil
  | n :: r => .cons (.int n) (dpAll_ints r)
theorem atI_mod {ns : List Int} (i : Int) (h : 0 < ns.length) : ∃ c : Int, atI (ns.map V.int) (i % ((ns.map V.int).length : Int)) = some (.int c) := by
  rw [List.length_map]
  have h0 := Int.emod_nonneg i (show ((ns.length : Nat) : Int) ≠ 0 by omega)
  have h1 := Int.emod_lt_of_pos i (show (0 : Int) < ((ns.length : Nat) : Int) by omega)
  generalize i % ((ns.length : Nat) : Int) = k at h0 h1
  obtain ⟨j, rfl⟩ := Int.eq_ofNat_of_zero_le h0
  have hj : j < ns.length := by omega
  refine ⟨ns[j], atI_nat ?_⟩
  rw [List.getElem?_map, List.getElem?_eq_getElem hj]
  rfl
theorem ok__law_number {f : Addr} {fd : FuncData} (T : Nm mg) (F : Fun K "_law_number" "_law_number" s__law_number f fd) : FnOk P w K mg base CX0 1 f fd ["script", "index"] (spNumber K) := by
  refine F.ok sc__law_number (fun vs H Q E h => ?_) (fun cdv A outer s H vs Q E hr h => ?_)
  · obtain ⟨s, i, ns, rfl, _⟩ := h
    rfl
  · obtain ⟨a, i, ns, rfl, hS, hl, q⟩ := h
    refine ⟨_, (pss_cons (ps_asg (pe_ifExp (pt_cmpR (op_neD hr.units) (pv 0) (pe_lst pa_nil) (nomark _)) (pe_tup (pa_cons (pe_ix ix_list (pv 0) (pe_op op_modA (pv 1) (pe_callB call_lenL (by rfl) T.len (by decide +kernel) (pa_cons (pv 0) pa_nil))) (fun _ _ => rfl)) (pa_cons (pe_op op_fdivA (pv 1) (pe_callB call_lenL (by rfl) T.len (by decide +kernel) (pa_cons (pv 0) pa_nil))) pa_nil))) (pe_tup (pa_cons pe_int (pa_cons pe_int pa_nil)))) (pg_tup rfl (pgs_cons (pg_name (i := 2) sc__law_number.nd rfl (Or.inl rfl)) (pgs_cons (pg_name (i := 3) sc__law_number.nd rfl (Or.inl rfl)) pgs_nil))))
    (pss_cons (ps_set (i := 4) sc__law_number.nd rfl (Or.inl rfl) (pe_ifExp (pt_cmpR op_lt (pv 3) pe_int (nomark _)) (pe_op op_sub (pv 2) (pe_op op_pow pe_int pe_int)) pe_int))
    (pss_cons (ps_for PassesOwn.never rfl (pi_range1 rfl T.range (pa_cons (pe_op op_modA (pe_callTy call_intI (by rfl) T.int (by decide +kernel) (pa_cons (pv 3) pa_nil)) pe_int) pa_nil)) (pg_name (i := 5) sc__law_number.nd rfl (Or.inl rfl))
      (pss_one (ps_set (i := 4) sc__law_number.nd rfl (Or.inl rfl) (pe_op op_fdivA (pv 4) pe_int))))
    (pss_cons (ps_if (pt_cmpR op_gt (pv 4) pe_int (nomark _))
      (pss_one (ps_ret (pe_op op_modA (pe_callTy call_intI (by rfl) T.int (by decide +kernel) (pa_cons (pv 4) pa_nil)) pe_int)))
      pss_nil)
    (pss_cons (ps_set (i := 6) sc__law_number.nd rfl (Or.inl rfl) (pe_op op_modA (pe_op op_add (pe_op op_mulA (pe_callTy call_intI (by rfl) T.int (by decide +kernel) (pa_cons (pe_op op_add (pv 2) (pe_op op_mulA pe_int (pv 1))) pa_nil)) pe_int) (pe_op op_mulA pe_int (pe_callB call_lenL (by rfl) T.len (by decide +kernel) (pa_cons (pv 0) pa_nil)))) pe_int))
    (pss_cons (ps_set (i := 6) sc__law_number.nd rfl (Or.inl rfl) (pe_op op_modA (pe_op op_add (pe_op op_mulA (pv 6) (pv 6)) (pe_op op_mulA pe_int (pv 1))) pe_int))
    (pss_one (ps_ret (pe_callTy call_intI (by rfl) T.int (by decide +kernel) (pa_cons (pe_op op_modA (pe_op op_add (pe_op op_mulA (pv 6) pe_int) (pe_op op_fdivA (pv 6) pe_int)) pe_int) pa_nil)))))))))), ?_⟩
    refine tIf_via (fun v H1 => ∃ p, ∃ c t : Int, v = .ref p ∧ Same H H1 ∧ H1 p = some (.tup [.int c, .int t])) (fun Q' h' => ?_) ?_
    · replace h' : ∀ p (c t : Int) H1, Same H H1 → H1 p = some (.tup [.int c, .int t]) → Q' (.ref p) H1 := fun p c t H1 a b => h' _ _ ⟨p, c, t, rfl, a, b⟩
      refine ⟨_, rfl, Nat.zero_le _, fun p np => ?_⟩
      have s1 : Same H (upd H p (.lst [])) := same_upd np
      have hS1 := s1.seq hS
      refine ⟨.list (ns.map PyData.int), .list [], .lst hS1 (dpAll_ints ns), .lst (.inl (.inl upd_same)) .nil, PySem.W.ke_shaped_ints ns, rfl, _, rfl, ?_⟩
      by_cases hn : ns = []
      · subst hn
        refine iteF ?_
        refine ⟨by show 2 ≤ sizeLine; decide, fun t nt => h' t _ _ _ (s1.trans (same_upd nt)) upd_same⟩
      · have e : (PyData.list (ns.map PyData.int)).eqv (PyData.list []) = false := by
          cases ns with
          | nil => exact absurd rfl hn
          | cons n r => rfl
        rw [e]
        refine iteT ?_
        have l0 : 0 < ns.length := List.length_pos_iff.mpr hn
        have l1 : (0 : Int) < ((ns.map V.int).length : Int) := by
          rw [List.length_map]
          omega
        have l2 : OkDiv i ((ns.map V.int).length : Int) := divOk l1 (by rw [List.length_map]; omega)
        obtain ⟨c, hc⟩ := atI_mod i l0
        have l3 : OkMod i ((ns.map V.int).length : Int) := ⟨l1⟩
        repeat (walk_at "rd")
        refine ⟨_, _, _, _, rfl, rfl, hS1, hc, ?_⟩
        repeat (walk_at "rd")
        exact ⟨by show 2 ≤ sizeLine; decide, fun t nt => h' t _ _ _ (s1.trans (same_upd nt)) upd_same⟩
    rintro _ H1 ⟨p, c, t, rfl, s1, hp⟩
    have hS1 := s1.seq hS
    refine ⟨p, _, rfl, .inl (.inl hp), rfl, _, _, rfl, _, _, rfl, rfl, ?_⟩
    -- rest = cell - 10 ** 18 if turn < 60 else 0
    dsimp only
    refine sIf_via (fun v H' => ∃ r : Int, v = .int r ∧ H1 = H') (fun Q' h' => ?_) ?_
    · replace h' : ∀ r : Int, Q' (.int r) H1 := fun r => h' _ _ ⟨r, rfl, rfl⟩
      refine ⟨_, rfl, _, _, rfl, rfl, _, rfl, ite2 (fun _ => ?_) (fun _ => h' 0)⟩
      exact ⟨_, rfl, _, _, rfl, rfl, ⟨by decide, by decide, by decide⟩, _, _, rfl, rfl, h' _⟩
    -- the loop
    rintro _ _ ⟨r, rfl, rfl⟩
    have c60 : OkMod t 60 := ⟨by omega⟩
    have t0 := Int.emod_nonneg t (show (60 : Int) ≠ 0 by decide)
    have t1 := Int.emod_lt_of_pos t (show (0 : Int) < 60 by decide)
    repeat (walk_at "rd")
    refine ⟨(by omega), (by omega), for_range (n := (t % 60).toNat) (fun i' σ H' => ∃ (r : Int), ∃ y, σ = [some (.ref a), some (.int i), some (.int c), some (.int t), some (.int r), y, none] ∧ H' = H1) ⟨r, none, rfl, rfl⟩ ?_ ?_⟩
    · rintro j σ H' hj ⟨r, y, rfl, rfl⟩
      have d : OkDiv r 1009 := divOk (by omega) (by omega)
      repeat (walk_at "rd")
      rfl
    rintro σ H' ⟨r, y, rfl, rfl⟩
    have c9 : OkMod r 1009 := ⟨by omega⟩
    refine ⟨_, rfl, _, _, rfl, rfl, _, rfl, ite2 (fun _ => ?_) (fun _ => ?_)⟩
    · repeat (walk_at "rd")
      exact q _ _ s1
    repeat (walk_at "rd")
    exact q _ _ s1
def spTake (K : PySem.W.Frag) : Sp := fun vs H Q _ => ∃ (d s : Addr) (m : Int) (ns : List Int), vs = [.ref d, .int m] ∧ DrawAt K H d s ns ∧ 0 < m ∧ ∀ (r : Int) H', 0 ≤ r → r < m → Keep d H H' → DrawAt K H' d s ns → Q (.int r) H'
theorem ok__law_take {f f1 : Addr} {fd fd1 : FuncData} (T : Nm mg) (C__law_number : Has P w K mg base "_law_number" 1 ["script", "index"] (spNumber K) f1 fd1) (F : Fun K "_law_take" "_law_take" s__law_take f fd) : FnOk P w K mg base CX0 2 f fd ["draw", "many"] (spTake K) := by
  refine F.ok sc__law_take (fun vs H Q E h => ?_) (fun cdv A outer s H vs Q E hr h => ?_)
  · obtain ⟨d, s, m, ns, rfl, _⟩ := h
    rfl
  · obtain ⟨d, s, m, ns, rfl, hD, hm, q⟩ := h
    obtain ⟨k, h1, h3, h4⟩ := id hD
    refine ⟨_, (pss_cons (ps_augS (pv 0) pe_int pget_list pe_int ip_add set_list)
    (pss_one (ps_ret (pe_op op_modA (pe_callTy call_intI (by rfl) T.int (by decide +kernel) (pa_cons (pe_call C__law_number.G (hr.mono (by decide)) (by rfl) C__law_number.g C__law_number.k C__law_number.b .nil pass0 (pa_cons (pe_ix ix_list (pv 0) pe_int (fun _ _ => rfl)) (pa_cons (pe_callTy call_intI (by rfl) T.int (by decide +kernel) (pa_cons (pe_ix ix_list (pv 0) pe_int (fun _ _ => rfl)) pa_nil)) pa_nil))) pa_nil)) (pv 1))))), ?_⟩
    refine ⟨_, rfl, d, _, _, _, rfl, rfl, .inl (.inl h1), rfl, _, _, rfl, rfl, d, _, _, 1, rfl, rfl, h1, rfl, ?_⟩
    have D1 : DrawAt K (upd H d (.lst [.ref s, .int (k + 1)])) d s ns := hD.set
    have K1 : Keep d H (upd H d (.lst [.ref s, .int (k + 1)])) := Keep.upd d H _
    refine ⟨_, rfl, d, _, _, _, rfl, rfl, .inl (.inl upd_same), rfl, _, rfl, d, _, _, _, rfl, rfl, .inl (.inl upd_same), rfl, _, rfl, ?_⟩
    refine ⟨s, k + 1, ns, rfl, K1.seqS h1 h3, h4, fun v H' sm => ?_⟩
    refine ⟨_, rfl, _, rfl, _, _, rfl, rfl, ⟨hm⟩, ?_⟩
    exact q _ _ (Int.emod_nonneg _ (by omega)) (Int.emod_lt_of_pos _ hm) (K1.trans (Keep.of sm)) (D1.same sm)
def spPick (K : PySem.W.Frag) : Sp := fun vs H Q _ => ∃ (d s l : Addr) (ns : List Int) (xs : List V), vs = [.ref d, .ref l] ∧ DrawAt K H d s ns ∧ l ≠ d ∧ SqL K H l xs ∧ 0 < xs.length ∧ ∀ v H', v ∈ xs → Keep d H H' → DrawAt K H' d s ns → Q v H'
theorem atI_in {α : Type} {xs : List α} {r : Int} (h0 : 0 ≤ r) (h1 : r < xs.length) : ∃ v, atI xs r = some v ∧ v ∈ xs := by
  obtain ⟨j, rfl⟩ := Int.eq_ofNat_of_zero_le h0
  have hj : j < xs.length := by omega
  exact ⟨xs[j], atI_nat (List.getElem?_eq_getElem hj), List.getElem_mem hj⟩
theorem ok__law_pick {f f1 : Addr} {fd fd1 : FuncData} (T : Nm mg) (C__law_take : Has P w K mg base "_law_take" 2 ["draw", "many"] (spTake K) f1 fd1) (F : Fun K "_law_pick" "_law_pick" s__law_pick f fd) : FnOk P w K mg base CX0 3 f fd ["draw", "items"] (spPick K) := by
  refine F.ok sc__law_pick (fun vs H Q E h => ?_) (fun cdv A outer s H vs Q E hr h => ?_)
  · obtain ⟨d, s, l, ns, xs, rfl, _⟩ := h
    rfl
  · obtain ⟨d, s, l, ns, xs, rfl, hD, hl, hX, h0, q⟩ := h
    refine ⟨_, (pss_one (ps_ret (pe_ix ix_list (pv 1) (pe_call C__law_take.G (hr.mono (by decide)) (by rfl) C__law_take.g C__law_take.k C__law_take.b .nil pass0 (pa_cons (pv 0) (pa_cons (pe_callB call_lenL (by rfl) T.len (by decide +kernel) (pa_cons (pv 1) pa_nil)) pa_nil))) (fun _ _ => rfl)))), ?_⟩
    refine ⟨_, rfl, _, rfl, _, rfl, l, xs, rfl, hX, ?_⟩
    refine ⟨d, s, _, ns, rfl, hD, by omega, fun r H' r0 r1 kp D' => ?_⟩
    obtain ⟨v, hv, hm⟩ := atI_in r0 r1
    exact ⟨l, xs, r, v, rfl, rfl, kp.seq hl hX, hv, q v H' hm kp D'⟩
def spLong (K : PySem.W.Frag) : Sp := fun vs H Q _ => ∃ (d s : Addr) (n : Int) (ns : List Int), vs = [.ref d, .int n] ∧ DrawAt K H d s ns ∧ 0 ≤ n ∧ n ≤ 1000 ∧ ∀ (r : Int) H', r.natAbs < 10 ^ n.toNat → Keep d H H' → DrawAt K H' d s ns → Q (.int r) H'
theorem ok__law_long {f f1 : Addr} {fd fd1 : FuncData} (T : Nm mg) (C__law_take : Has P w K mg base "_law_take" 2 ["draw", "many"] (spTake K) f1 fd1) (F : Fun K "_law_long" "_law_long" s__law_long f fd) : FnOk P w K mg base CX0 3 f fd ["draw", "figures"] (spLong K) := by
  refine F.ok sc__law_long (fun vs H Q E h => ?_) (fun cdv A outer s H vs Q E hr h => ?_)
  · obtain ⟨d, s, n, ns, rfl, _⟩ := h
    rfl
  · obtain ⟨d, s, n, ns, rfl, hD, n0, n1, q⟩ := h
    refine ⟨_, (pss_cons (ps_set (i := 2) sc__law_long.nd rfl (Or.inl rfl) pe_int)
    (pss_cons (ps_for PassesOwn.never rfl (pi_range1 rfl T.range (pa_cons (pe_call C__law_take.G (hr.mono (by decide)) (by rfl) C__law_take.g C__law_take.k C__law_take.b .nil pass0 (pa_cons (pv 0) (pa_cons (pe_op op_add (pv 1) pe_int) pa_nil))) pa_nil)) (pg_name (i := 3) sc__law_long.nd rfl (Or.inl rfl))
      (pss_one (ps_set (i := 2) sc__law_long.nd rfl (Or.inl rfl) (pe_op op_add (pe_op op_mulA pe_int (pv 2)) (pe_call C__law_take.G (hr.mono (by decide)) (by rfl) C__law_take.g C__law_take.k C__law_take.b .nil pass0 (pa_cons (pv 0) (pa_cons pe_int pa_nil)))))))
    (pss_one (ps_ret (pe_ifExp (pt_cmpR op_eq (pe_call C__law_take.G (hr.mono (by decide)) (by rfl) C__law_take.g C__law_take.k C__law_take.b .nil pass0 (pa_cons (pv 0) (pa_cons pe_int pa_nil))) pe_int (nomark _)) (pv 2) (pe_op op_sub pe_int (pv 2))))))), ?_⟩
    refine ⟨_, rfl, _, rfl, _, _, rfl, rfl, d, s, n + 1, ns, rfl, hD, by omega, fun many H1 m0 m1 K1 D1 => ?_⟩
    refine ⟨_, rfl, by omega, by omega, for_range (n := many.toNat) (fun i σ H' => ∃ (r : Int), ∃ y, σ = [some (.ref d), some (.int n), some (.int r), y] ∧ 0 ≤ r ∧ r.natAbs < 10 ^ i ∧ Keep d H H' ∧ DrawAt K H' d s ns) ⟨0, none, rfl, by omega, by decide, K1, D1⟩ ?_ ?_⟩
    · rintro i σ H2 hi ⟨r, y, rfl, r0, rb, K2, D2⟩
      refine ⟨_, rfl, _, _, rfl, rfl, mulOkL (by omega) (by omega), _, rfl, d, s, 10, ns, rfl, D2, by omega, fun c H3 c0 c1 K3 D3 => ?_⟩
      refine ⟨_, _, rfl, rfl, 10 * r + c, _, rfl, by omega, ?_, K2.trans K3, D3⟩
      rw [Nat.pow_succ]
      omega
    · rintro σ H2 ⟨r, y, rfl, r0, rb, K2, D2⟩
      refine ⟨_, rfl, d, s, 2, ns, rfl, D2, by omega, fun c H3 c0 c1 K3 D3 => ?_⟩
      have hb : r.natAbs < 10 ^ n.toNat := Nat.lt_of_lt_of_le rb (Nat.pow_le_pow_right (by omega) (by omega))
      refine ⟨rfl, _, rfl, ite2 (fun _ => ?_) (fun _ => ?_)⟩
      · exact ⟨_, rfl, q _ _ hb (K2.trans K3) D3⟩
      · exact ⟨_, rfl, _, _, rfl, rfl, q _ _ (by omega) (K2.trans K3) D3⟩
end
end K46
namespace K46
open PySem PySem.Spec PyProof.Rows L2 My M46
local macro_rules | `(tactic| walk_at "side") => `(tactic| (first
  | assumption
  | (refine OkMod.mk ?_; omega)
  | (refine mulOkL ?_ ?_ <;> omega)
  | (refine mulOkR ?_ ?_ <;> omega)
  | (refine divOk ?_ ?_ <;> omega)))
local macro_rules | `(tactic| walk_at "rd") => `(tactic| (first
  | with_reducible refine ⟨_, rfl, ?_⟩
  | refine ⟨_, rfl, ?_⟩
  | refine ⟨_, _, rfl, rfl, ?_⟩
  | refine And.intro (by walk_at "side") ?_
  | refine ⟨_, _, rfl, asm (by assumption), ?_⟩
  | refine ⟨_, _, rfl, asm ?_⟩))
section
variable {P : Program} {w : World} {K : PySem.W.Frag} {mg : Str → Option Value} {base : Heap}
/-! ### sizes -/
def Sz (k : Nat) (i : Int) : Prop := i.natAbs < 2 ^ k
theorem Sz.le {k l : Nat} {i : Int} (h : Sz k i) (hl : k ≤ l) : Sz l i := Nat.lt_of_lt_of_le h (Nat.pow_le_pow_right (by decide) hl)
theorem Sz.add {k : Nat} {i j : Int} (h : Sz k i) (g : Sz k j) : Sz (k + 1) (i + j) := by
  unfold Sz at *
  rw [Nat.pow_succ]
  omega
theorem Sz.sub {k : Nat} {i j : Int} (h : Sz k i) (g : Sz k j) : Sz (k + 1) (i - j) := by
  unfold Sz at *
  rw [Nat.pow_succ]
  omega
theorem Sz.mul {k l : Nat} {i j : Int} (h : Sz k i) (g : Sz l j) : Sz (k + l) (i * j) := wide_lt h g
theorem Sz.div {k : Nat} {i m : Int} (hm : 0 < m) (h : Sz k i) : Sz (k + 1) (i / m) := by
  unfold Sz at *
  have := natAbs_div_le (x := i) hm
  rw [Nat.pow_succ]
  omega
theorem Sz.bd {k : Nat} {i : Int} (h : Sz k i) (hk : k ≤ 1000) : Bd i := h.le hk
theorem Sz.ok {k l : Nat} {i j : Int} (h : Sz k i) (g : Sz l j) (hk : k ≤ 400000) (hl : l ≤ 400000) : OkMul i j := mulOk (h.le (Nat.le_succ k)) (g.le (Nat.le_succ l)) (Nat.succ_pos k) (Nat.succ_pos l) (by omega)
theorem Sz.dv {k : Nat} {i j : Int} (hj : 0 < j) (h : Sz k j) (hk : k ≤ 8000) : OkDiv i j := ⟨wide_div hj (h.le (Nat.le_succ k)) (Nat.succ_pos k) (by omega)⟩
theorem sz30 {i : Int} (h : i.natAbs < 10 ^ 30) : Sz 100 i := Nat.lt_trans h (by decide +kernel)
theorem sz1 : Sz 100 1 := show (1 : Int).natAbs < 2 ^ 100 by decide +kernel
theorem sum_range (f : Nat → Int) : ∀ p : Nat, ((List.range p).map f).sum = rsum f p
  | 0 => rfl
  | p + 1 => by
    rw [List.range_succ, List.map_append, List.sum_append, sum_range f p, rsum_succ]
    simp
theorem tYes_in {A B : Hp → Prop} {σ : L2.St} {H : Hp} (h : A H) : tYes σ H (fun b H3 => if b = true then A H3 else B H3) := by
  show if true = true then A H else B H
  rw [if_pos rfl]
  exact h
/-! ### the law -/
def spLaw (K : PySem.W.Frag) : Sp := fun vs H Q _ => ∃ (a : Addr) (ns : List Int), vs = [.ref a] ∧ SqL K H a (ns.map V.int) ∧ ns.length ≤ 63 ∧ ∀ H', Q (.bl true) H'
def Slots (s d : Addr) (σ : L2.St) : Prop := ∃ y2 y3 y4 y5 y6 y7 y8 y9 y10 y11 y12, σ = [some (.ref s), some (.ref d), y2, y3, y4, y5, y6, y7, y8, y9, y10, y11, y12]
theorem ok_law {f f1 f2 f3 f4 : Addr} {fd fd1 fd2 fd3 fd4 : FuncData} (T : Nm mg) (C_total : Has P w K mg base "total" 3 ["a", "b", "m", "many"] spTotal f1 fd1) (C__law_take : Has P w K mg base "_law_take" 2 ["draw", "many"] (spTake K) f2 fd2) (C__law_pick : Has P w K mg base "_law_pick" 3 ["draw", "items"] (spPick K) f3 fd3) (C__law_long : Has P w K mg base "_law_long" 3 ["draw", "figures"] (spLong K) f4 fd4) (F : Fun K "law" "law" s_law f fd) : FnOk P w K mg base CX0 4 f fd ["script"] (spLaw K) := by
  refine F.ok sc_law (fun vs H Q E h => ?_) (fun cdv A outer s H vs Q E hr h => ?_)
  · obtain ⟨a, ns, rfl, _⟩ := h
    rfl
  · obtain ⟨sc, ns, rfl, hS, hl, q⟩ := h
    refine ⟨_, (pss_cons (ps_set (i := 1) sc_law.nd rfl (Or.inl rfl) (pe_lst (pa_cons (pv 0) (pa_cons pe_int pa_nil))))
    (pss_cons (ps_for PassesOwn.never rfl (pi_range1 rfl T.range (pa_cons pe_int pa_nil)) (pg_name (i := 2) sc_law.nd rfl (Or.inl rfl))
      (pss_cons (ps_asg (pe_tup (pa_cons (pe_call C__law_long.G (hr.mono (by decide)) (by rfl) C__law_long.g C__law_long.k C__law_long.b .nil pass0 (pa_cons (pv 1) (pa_cons pe_int pa_nil))) (pa_cons (pe_call C__law_long.G (hr.mono (by decide)) (by rfl) C__law_long.g C__law_long.k C__law_long.b .nil pass0 (pa_cons (pv 1) (pa_cons pe_int pa_nil))) (pa_cons (pe_op op_add pe_int (pe_callB call_absN (by rfl) T.abs (by decide +kernel) (pa_cons (pe_call C__law_long.G (hr.mono (by decide)) (by rfl) C__law_long.g C__law_long.k C__law_long.b .nil pass0 (pa_cons (pv 1) (pa_cons pe_int pa_nil))) pa_nil))) pa_nil)))) (pg_tup rfl (pgs_cons (pg_name (i := 3) sc_law.nd rfl (Or.inr rfl)) (pgs_cons (pg_name (i := 4) sc_law.nd rfl (Or.inr rfl)) (pgs_cons (pg_name (i := 5) sc_law.nd rfl (Or.inr rfl)) pgs_nil)))))
    (pss_cons (ps_set (i := 6) sc_law.nd rfl (Or.inr rfl) (pe_callB call_absN (by rfl) T.abs (by decide +kernel) (pa_cons (pe_call C__law_long.G (hr.mono (by decide)) (by rfl) C__law_long.g C__law_long.k C__law_long.b .nil pass0 (pa_cons (pv 1) (pa_cons (pe_call C__law_pick.G (hr.mono (by decide)) (by rfl) C__law_pick.g C__law_pick.k C__law_pick.b .nil pass0 (pa_cons (pv 1) (pa_cons (pe_lst (pa_cons pe_int (pa_cons pe_int (pa_cons pe_int pa_nil)))) pa_nil))) pa_nil))) pa_nil)))
    (pss_cons (ps_par3 (i := 7) (j := 8) (l := 9) (by rfl) sc_law.nd rfl rfl rfl (by decide) (by decide) (by decide) rfl rfl rfl (pa_cons (pe_call C_total.G (hr.mono (by decide)) (by rfl) C_total.g C_total.k C_total.b .nil pass0 (pa_cons (pv 3) (pa_cons (pv 4) (pa_cons (pv 5) (pa_cons (pv 6) pa_nil))))) (pa_cons (pe_op op_fdivA (pv 3) (pv 5)) (pa_cons (pe_op op_fdivA (pv 4) (pv 5)) pa_nil))) (by rfl))
    (pss_cons (ps_if (pt_cmpR op_ne (pv 7) (pe_op op_add (pe_op op_add (pe_call C_total.G (hr.mono (by decide)) (by rfl) C_total.g C_total.k C_total.b .nil pass0 (pa_cons (pe_op op_sub (pv 3) (pe_op op_mulA (pv 8) (pv 5))) (pa_cons (pe_op op_sub (pv 4) (pe_op op_mulA (pv 9) (pv 5))) (pa_cons (pv 5) (pa_cons (pv 6) pa_nil))))) (pe_op op_mulA (pv 8) (pe_op op_fdivA (pe_op op_mulA (pv 6) (pe_op op_sub (pv 6) pe_int)) pe_int))) (pe_op op_mulA (pv 9) (pv 6))) (nomark _))
      (pss_one (ps_ret pe_bl))
      pss_nil)
    (pss_cons (ps_if (pt_cmpR op_ne (pe_call C_total.G (hr.mono (by decide)) (by rfl) C_total.g C_total.k C_total.b .nil pass0 (pa_cons (pe_op op_sub pe_int (pv 3)) (pa_cons (pe_op op_add (pv 4) (pe_op op_mulA (pv 3) (pe_op op_sub (pv 6) pe_int))) (pa_cons (pv 5) (pa_cons (pv 6) pa_nil))))) (pv 7) (nomark _))
      (pss_one (ps_ret pe_bl))
      pss_nil)
    (pss_cons (ps_set (i := 10) sc_law.nd rfl (Or.inl rfl) (pe_op op_add pe_int (pe_callB call_absN (by rfl) T.abs (by decide +kernel) (pa_cons (pe_call C__law_long.G (hr.mono (by decide)) (by rfl) C__law_long.g C__law_long.k C__law_long.b .nil pass0 (pa_cons (pv 1) (pa_cons pe_int pa_nil))) pa_nil))))
    (pss_cons (ps_if (pt_cmpR op_ne (pe_call C_total.G (hr.mono (by decide)) (by rfl) C_total.g C_total.k C_total.b .nil pass0 (pa_cons (pe_op op_mulA (pv 3) (pv 10)) (pa_cons (pe_op op_add (pe_op op_mulA (pv 4) (pv 10)) (pe_call C__law_take.G (hr.mono (by decide)) (by rfl) C__law_take.g C__law_take.k C__law_take.b .nil pass0 (pa_cons (pv 1) (pa_cons (pe_callB (call_minN rfl) (by rfl) T.min (by decide +kernel) (pa_cons (pv 10) (pa_cons pe_int pa_nil))) pa_nil)))) (pa_cons (pe_op op_mulA (pv 5) (pv 10)) (pa_cons (pv 6) pa_nil))))) (pv 7) (nomark _))
      (pss_one (ps_ret pe_bl))
      pss_nil)
    (pss_cons (ps_if (PW.pt (pw_or (pt_cmpR op_ne (pe_op op_sub (pe_call C_total.G (hr.mono (by decide)) (by rfl) C_total.g C_total.k C_total.b .nil pass0 (pa_cons (pv 3) (pa_cons (pv 4) (pa_cons (pv 5) (pa_cons (pe_op op_add (pv 6) pe_int) pa_nil))))) (pv 7)) (pe_op op_fdivA (pe_op op_add (pe_op op_mulA (pv 3) (pv 6)) (pv 4)) (pv 5)) (nomark _)) (pw_or1 (pt_cmpR op_ne (pe_call C_total.G (hr.mono (by decide)) (by rfl) C_total.g C_total.k C_total.b .nil pass0 (pa_cons (pv 3) (pa_cons (pv 4) (pa_cons (pv 5) (pa_cons pe_int pa_nil))))) pe_int (nomark _)))))
      (pss_one (ps_ret pe_bl))
      pss_nil)
    (pss_cons (ps_set (i := 11) sc_law.nd rfl (Or.inr rfl) (pe_op op_add pe_int (pe_call C__law_take.G (hr.mono (by decide)) (by rfl) C__law_take.g C__law_take.k C__law_take.b .nil pass0 (pa_cons (pv 1) (pa_cons pe_int pa_nil)))))
    (pss_cons (ps_if (pt_cmpR op_ne (pe_callB (cr_sum rfl) (by rfl) T.sum (by decide +kernel) (pa_cons (pe_lc (own := [("at", 12)]) (g := gName 12) (by rfl) sc_law.nd (pi_range1 rfl T.range (pa_cons (pv 11) pa_nil)) (by exact blkOk_by (N := ["script", "draw", "again", "a", "b", "m", "many", "found", "p", "q", "times", "parts", "at"]) (sc := defScope s_law) (by decide +kernel)) (fun _ _ _ _ _ => (pg_name (i := 12) sc_law.nd rfl (Or.inl rfl))) (fun _ _ _ _ _ => pts_nil) (fun _ _ _ _ _ => (pe_call C_total.G (hr.mono (by decide)) (by rfl) C_total.g C_total.k C_total.b .nil pass0 (pa_cons (pe_op op_mulA (pv 3) (pv 11)) (pa_cons (pe_op op_add (pe_op op_mulA (pv 3) (pv 12)) (pv 4)) (pa_cons (pv 5) (pa_cons (pv 6) pa_nil))))))) pa_nil)) (pe_call C_total.G (hr.mono (by decide)) (by rfl) C_total.g C_total.k C_total.b .nil pass0 (pa_cons (pv 3) (pa_cons (pv 4) (pa_cons (pv 5) (pa_cons (pe_op op_mulA (pv 6) (pv 11)) pa_nil))))) (nomark _))
      (pss_one (ps_ret pe_bl))
      pss_nil)
    (pss_one (ps_if (pt_cmpR op_ne (pe_op op_add (pe_call C_total.G (hr.mono (by decide)) (by rfl) C_total.g C_total.k C_total.b .nil pass0 (pa_cons (pv 3) (pa_cons (pv 4) (pa_cons (pv 5) (pa_cons (pv 6) pa_nil))))) (pe_call C_total.G (hr.mono (by decide)) (by rfl) C_total.g C_total.k C_total.b .nil pass0 (pa_cons (pe_op op_sub pe_int (pv 3)) (pa_cons (pe_op op_sub (pe_op op_sub pe_int (pv 4)) pe_int) (pa_cons (pv 5) (pa_cons (pv 6) pa_nil)))))) (pe_op op_sub pe_int (pv 6)) (nomark _))
      (pss_one (ps_ret pe_bl))
      pss_nil)))))))))))))
    (pss_one (ps_ret pe_bl)))), ?_⟩
    refine ⟨_, rfl, (by show 2 ≤ sizeLine; decide), fun d nd => ?_⟩
    have D0 : DrawAt K (upd H d (.lst [.ref sc, .int 0])) d sc ns := ⟨0, upd_same, (same_upd nd).seq hS, hl⟩
    refine ⟨3, rfl, by decide, by decide, for_range (n := 3) (fun i σ H' => Slots sc d σ ∧ DrawAt K H' d sc ns) ⟨⟨_, _, _, _, _, _, _, _, _, _, _, rfl⟩, D0⟩ ?_ (fun σ H' _ => q H')⟩
    rintro i σ H0 hi ⟨⟨y2, y3, y4, y5, y6, y7, y8, y9, y10, y11, y12, rfl⟩, D0⟩
    -- a, b, m
    refine ⟨_, rfl, d, sc, 30, ns, rfl, D0, by decide, by decide, fun a H1 (ha : a.natAbs < 10 ^ 30) K1 D1 => ?_⟩
    refine ⟨_, rfl, d, sc, 30, ns, rfl, D1, by decide, by decide, fun b H2 (hb : b.natAbs < 10 ^ 30) K2 D2 => ?_⟩
    refine ⟨_, rfl, d, sc, 30, ns, rfl, D2, by decide, by decide, fun m H3 (hm : m.natAbs < 10 ^ 30) K3 D3 => ?_⟩
    refine ⟨_, rfl, _, _, rfl, rfl, (by show 3 ≤ sizeLine; decide), fun p np => ?_⟩
    have S4 := same_upd (o := .tup [.int a, .int b, .int (1 + (m.natAbs : Int))]) np
    have D4 := D3.same S4
    have sa : Sz 100 a := sz30 ha
    have sb : Sz 100 b := sz30 hb
    have sm : Sz 101 (1 + (m.natAbs : Int)) := sz1.add (sz30 (by omega))
    have m0 : 0 < 1 + (m.natAbs : Int) := by omega
    refine ⟨p, [.int a, .int b, .int (1 + (m.natAbs : Int))], rfl, .inl (.inl upd_same), rfl, _, _, rfl, _, _, rfl, _, _, rfl, rfl, ?_⟩
    -- many
    refine ⟨_, rfl, _, rfl, (by show 3 ≤ sizeLine; decide), fun l nl => ?_⟩
    have S5 := same_upd (o := .lst [.int 1, .int 2, .int 30]) nl
    have D5 := D4.same S5
    refine ⟨d, sc, l, ns, [.int 1, .int 2, .int 30], rfl, D5, ?_, .inl (.inl upd_same), by decide, fun v H6 hv K6 D6 => ?_⟩
    · rintro rfl
      obtain ⟨k, hk, _⟩ := D4
      rw [nl] at hk
      cases hk
    obtain ⟨g, rfl, g0, g1⟩ : ∃ g : Int, v = .int g ∧ 0 ≤ g ∧ g ≤ 30 := by
      rcases List.mem_cons.mp hv with rfl | hv
      · exact ⟨1, rfl, by decide, by decide⟩
      rcases List.mem_cons.mp hv with rfl | hv
      · exact ⟨2, rfl, by decide, by decide⟩
      rcases List.mem_cons.mp hv with rfl | hv
      · exact ⟨30, rfl, by decide, by decide⟩
      · cases hv
    refine ⟨d, sc, g, ns, rfl, D6, g0, by omega, fun n H7 hn K7 D7 => ?_⟩
    have hn : n.natAbs < 10 ^ 30 := Nat.lt_of_lt_of_le hn (Nat.pow_le_pow_right (by decide) (by omega))
    have sn : Sz 100 (n.natAbs : Int) := sz30 (by omega)
    have n0 : (0 : Int) ≤ (n.natAbs : Int) := by omega
    refine ⟨_, rfl, ?_⟩
    dsimp only
    generalize 1 + (m.natAbs : Int) = M at *
    generalize (n.natAbs : Int) = N at *
    have eN : ((N.toNat : Nat) : Int) = N := by omega
    clear hm hn ha hb hv K1 K2 K3 K6 K7 D0 D1 D2 D3 D4 D5 D6 S4 S5 np nl
    -- found, p, q
    have sp : Sz 101 (a / M) := sa.div m0
    have sq : Sz 101 (b / M) := sb.div m0
    have g1 : OkDiv a M := sm.dv m0 (by decide)
    have g2 : OkDiv b M := sm.dv m0 (by decide)
    repeat (walk_at "rd")
    refine ⟨_, _, _, _, rfl, sa.bd (by decide), sb.bd (by decide), sm.bd (by decide), sn.bd (by decide), m0, n0, fun H8 S8 => ?_⟩
    have D8 := D7.same S8
    repeat (walk_at "rd")
    refine ⟨_, _, _, rfl, ?_⟩
    -- the whole parts out
    have g3 : OkMul (a / M) M := sp.ok sm (by decide) (by decide)
    have g4 : OkMul (b / M) M := sq.ok sm (by decide) (by decide)
    have sN1 : Sz 101 (N - 1) := sn.sub sz1
    have g5 : OkMul N (N - 1) := sn.ok sN1 (by decide) (by decide)
    have sNN : Sz 202 (N * (N - 1) / 2) := (sn.mul sN1).div (by decide)
    have g6 : OkMul (a / M) (N * (N - 1) / 2) := sp.ok sNN (by decide) (by decide)
    have g7 : OkMul (b / M) N := sq.ok sn (by decide) (by decide)
    repeat (walk_at "rd")
    refine ⟨_, _, _, _, rfl, ((sa.le (by decide : 100 ≤ 202)).sub (sp.mul sm)).bd (by decide), ((sb.le (by decide : 100 ≤ 202)).sub (sq.mul sm)).bd (by decide), sm.bd (by decide), sn.bd (by decide), m0, n0, fun H9 S9 => ?_⟩
    have D9 := D8.same S9
    repeat (walk_at "rd")
    have E1 := fsum_shift m0 a b (a / M) (b / M) N.toNat
    rw [← tri_eq, eN] at E1
    refine ⟨rfl, _, rfl, iteNS (congrArg V.int E1) ?_⟩
    -- turned about
    have g8 : OkMul a (N - 1) := sa.ok sN1 (by decide) (by decide)
    have sz0 : Sz 100 0 := show (0 : Int).natAbs < 2 ^ 100 by decide +kernel
    repeat (walk_at "rd")
    refine ⟨_, _, _, _, rfl, (sz0.sub sa).bd (by decide), ((sb.le (by decide : 100 ≤ 201)).add (sa.mul sN1)).bd (by decide), sm.bd (by decide), sn.bd (by decide), m0, n0, fun H10 S10 => ?_⟩
    have D10 := D9.same S10
    repeat (walk_at "rd")
    have E2 := fsum_back a b M N.toNat
    rw [eN] at E2
    refine ⟨rfl, _, rfl, iteNS (congrArg V.int E2) ?_⟩
    -- times
    repeat (walk_at "rd")
    refine ⟨d, sc, 5, ns, rfl, D10, by decide, by decide, fun t H11 (ht : t.natAbs < 10 ^ 5) K11 D11 => ?_⟩
    repeat (walk_at "rd")
    have t0 : 0 < 1 + (t.natAbs : Int) := by omega
    have st : Sz 100 (1 + (t.natAbs : Int)) := by
      have h : (10 : Nat) ^ 5 + 1 < 2 ^ 100 := by decide +kernel
      show (1 + (t.natAbs : Int)).natAbs < 2 ^ 100
      omega
    have g9 : OkMul a (1 + (t.natAbs : Int)) := sa.ok st (by decide) (by decide)
    have g10 : OkMul b (1 + (t.natAbs : Int)) := sb.ok st (by decide) (by decide)
    have g11 : OkMul M (1 + (t.natAbs : Int)) := sm.ok st (by decide) (by decide)
    repeat (walk_at "rd")
    refine ⟨d, sc, _, ns, rfl, D11, by omega, fun r H12 r0 r1 K12 D12 => ?_⟩
    have sr : Sz 100 r := by
      have h : (10 : Nat) ^ 5 + 1 < 2 ^ 100 := by decide +kernel
      show r.natAbs < 2 ^ 100
      omega
    repeat (walk_at "rd")
    refine ⟨_, _, _, _, rfl, (sa.mul st).bd (by decide), ((sb.mul st).add (sr.le (by decide))).bd (by decide), (sm.mul st).bd (by decide), sn.bd (by decide), Int.mul_pos m0 t0, n0, fun H13 S13 => ?_⟩
    have D13 := D12.same S13
    repeat (walk_at "rd")
    have E3 := fsum_times m0 t0 r0 (show r < 1 + (t.natAbs : Int) by omega) a b N.toNat
    refine ⟨rfl, _, rfl, iteNS (congrArg V.int E3) ?_⟩
    -- by steps
    have g12 : OkMul a N := sa.ok sn (by decide) (by decide)
    have g13 : OkDiv (a * N + b) M := sm.dv m0 (by decide)
    repeat (walk_at "rd")
    refine ⟨_, _, _, _, rfl, sa.bd (by decide), sb.bd (by decide), sm.bd (by decide), (sn.add sz1).bd (by decide), m0, by omega, fun H14 S14 => ?_⟩
    have D14 := D13.same S14
    repeat (walk_at "rd")
    have E4 : fsum a b M (N + 1).toNat - fsum a b M N.toNat = (a * N + b) / M := by
      rw [show (N + 1).toNat = N.toNat + 1 by omega, fsum_succ, eN]
      omega
    refine ⟨rfl, _, rfl, iteNS (congrArg V.int E4) ?_⟩
    repeat (walk_at "rd")
    refine ⟨_, _, _, _, rfl, sa.bd (by decide), sb.bd (by decide), sm.bd (by decide), sz0.bd (by decide), m0, by omega, fun H15 S15 => ?_⟩
    have D15 := D14.same S15
    refine ⟨rfl, _, rfl, iteNS (congrArg V.int (show fsum a b M (0 : Int).toNat = 0 from rfl)) ?_⟩
    -- parts
    repeat (walk_at "rd")
    refine ⟨d, sc, 5, ns, rfl, D15, by decide, fun p H16 p0 p1 K16 D16 => ?_⟩
    repeat (walk_at "rd")
    have eP : (((1 + p).toNat : Nat) : Int) = 1 + p := by omega
    have sP : Sz 100 (1 + p) := by
      have h : (6 : Nat) < 2 ^ 100 := by decide +kernel
      show (1 + p).natAbs < 2 ^ 100
      omega
    have g14 : OkMul a (1 + p) := sa.ok sP (by decide) (by decide)
    have g15 : OkMul N (1 + p) := sn.ok sP (by decide) (by decide)
    refine ⟨by omega, by omega, fun L nL => lc_range (lo := 0) (n := (1 + p).toNat) (fun j H' => Same H16 H' ∧ H' L = some (.lst (((List.range j).map fun r : Nat => fsum (a * (1 + p)) (a * (r : Int) + b) M N.toNat).map V.int))) ⟨same_upd nL, upd_same⟩ ?_ ?_⟩
    · rintro j H' hj ⟨sH, hL⟩
      have sj : Sz 100 (0 + (j : Int)) := by
        have h : (6 : Nat) < 2 ^ 100 := by decide +kernel
        show (0 + (j : Int)).natAbs < 2 ^ 100
        omega
      have g16 : OkMul a (0 + (j : Int)) := sa.ok sj (by decide) (by decide)
      refine ⟨rfl, ?_⟩
      refine tYes_in ?_
      repeat (walk_at "rd")
      refine ⟨_, _, _, _, rfl, (sa.mul sP).bd (by decide), ((sa.mul sj).add (sb.le (by decide))).bd (by decide), sm.bd (by decide), sn.bd (by decide), m0, n0, fun H'' S => ?_⟩
      refine ⟨_, S _ _ hL, ?_, ?_, ?_⟩
      · rw [List.length_map, List.length_map, List.length_range]
        exact small1000 (by omega)
      · intro c o e
        have n : c ≠ L := fun z => by
          subst z
          rw [nL] at e
          cases e
        rw [upd_ne n]
        exact S _ _ (sH _ _ e)
      · rw [upd_same, List.range_succ, List.map_append, List.map_append]
        have e : (0 : Int) + (j : Int) = j := Int.zero_add _
        rw [e]
        rfl
    rintro H17 ⟨S17, hL⟩
    have D17 := D16.same S17
    refine ⟨L, _, rfl, .inl (.inl hL), ?_⟩
    rw [sum_range]
    repeat (walk_at "rd")
    refine ⟨_, _, _, _, rfl, sa.bd (by decide), sb.bd (by decide), sm.bd (by decide), (sn.mul sP).bd (by decide), m0, Int.mul_nonneg n0 (by omega), fun H18 S18 => ?_⟩
    have D18 := D17.same S18
    have E5 : rsum (fun r : Nat => fsum (a * (1 + p)) (a * (r : Int) + b) M N.toNat) (1 + p).toNat = fsum a b M (N * (1 + p)).toNat := by
      have h := fsum_parts a b M (1 + p).toNat N.toNat
      rw [eP] at h
      rw [h]
      congr 1
      have e : (N * (1 + p)) = ((N.toNat * (1 + p).toNat : Nat) : Int) := by
        rw [Int.natCast_mul, eN, eP]
      rw [e]
      omega
    refine ⟨rfl, _, rfl, iteNS (congrArg V.int E5) ?_⟩
    -- both ways
    repeat (walk_at "rd")
    refine ⟨_, _, _, _, rfl, sa.bd (by decide), sb.bd (by decide), sm.bd (by decide), sn.bd (by decide), m0, n0, fun H19 S19 => ?_⟩
    have D19 := D18.same S19
    repeat (walk_at "rd")
    refine ⟨_, _, _, _, rfl, (sz0.sub sa).bd (by decide), ((sz0.sub sb).sub (sz1.le (by decide))).bd (by decide), sm.bd (by decide), sn.bd (by decide), m0, n0, fun H20 S20 => ?_⟩
    have D20 := D19.same S20
    repeat (walk_at "rd")
    have E6 := fsum_turn m0 a b N.toNat
    rw [eN] at E6
    refine ⟨rfl, _, rfl, iteNS (congrArg V.int E6) ?_⟩
    exact ⟨⟨_, _, _, _, _, _, _, _, _, _, _, rfl⟩, D20⟩
end
end K46
namespace K46
open PySem PySem.Spec PyProof.Rows L2 My
/-! ### what the top has written -/
theorem all_mk {l : PySem.W.OpenLaw} {w : World} {K : PySem.W.Frag} {h : Heap} {mg : Str → Option Value} {fa : Addr} (X : K.In h) (G : h.Ns mainGlobals mg) (hfa : mg "law" = some (.ref fa))
    {f_is_number : Addr} {od_is_number an_is_number : Option Addr} {sl_is_number : Array (Option Value)} {oc_is_number kV_is_number dc_is_number pm_is_number cd_is_number ct_is_number : Value}
    (a_is_number : PySem.W.nsIn K mainGlobals "is_number" = some (some (.ref f_is_number))) (l_is_number : K.lookup f_is_number = some ⟨oc_is_number, od_is_number, .func (PySem.W.fnOf "is_number" "is_number" (defArgs s_is_number) (defBody s_is_number) (defScope s_is_number) .none kV_is_number dc_is_number pm_is_number an_is_number cd_is_number ct_is_number), sl_is_number⟩) (c_is_number : PySem.W.codeIn K cd_is_number "is_number" = true) (k_is_number : PySem.W.keepIn K (.ref f_is_number) = true)
    {f_check_numbers : Addr} {od_check_numbers an_check_numbers : Option Addr} {sl_check_numbers : Array (Option Value)} {oc_check_numbers kV_check_numbers dc_check_numbers pm_check_numbers cd_check_numbers ct_check_numbers : Value}
    (a_check_numbers : PySem.W.nsIn K mainGlobals "check_numbers" = some (some (.ref f_check_numbers))) (l_check_numbers : K.lookup f_check_numbers = some ⟨oc_check_numbers, od_check_numbers, .func (PySem.W.fnOf "check_numbers" "check_numbers" (defArgs s_check_numbers) (defBody s_check_numbers) (defScope s_check_numbers) .none kV_check_numbers dc_check_numbers pm_check_numbers an_check_numbers cd_check_numbers ct_check_numbers), sl_check_numbers⟩) (c_check_numbers : PySem.W.codeIn K cd_check_numbers "check_numbers" = true) (k_check_numbers : PySem.W.keepIn K (.ref f_check_numbers) = true)
    {f_check_from : Addr} {od_check_from an_check_from : Option Addr} {sl_check_from : Array (Option Value)} {oc_check_from kV_check_from dc_check_from pm_check_from cd_check_from ct_check_from : Value}
    (a_check_from : PySem.W.nsIn K mainGlobals "check_from" = some (some (.ref f_check_from))) (l_check_from : K.lookup f_check_from = some ⟨oc_check_from, od_check_from, .func (PySem.W.fnOf "check_from" "check_from" (defArgs s_check_from) (defBody s_check_from) (defScope s_check_from) .none kV_check_from dc_check_from pm_check_from an_check_from cd_check_from ct_check_from), sl_check_from⟩) (c_check_from : PySem.W.codeIn K cd_check_from "check_from" = true) (k_check_from : PySem.W.keepIn K (.ref f_check_from) = true)
    {f_total : Addr} {od_total an_total : Option Addr} {sl_total : Array (Option Value)} {oc_total kV_total dc_total pm_total cd_total ct_total : Value}
    (a_total : PySem.W.nsIn K mainGlobals "total" = some (some (.ref f_total))) (l_total : K.lookup f_total = some ⟨oc_total, od_total, .func (PySem.W.fnOf "total" "total" (defArgs s_total) (defBody s_total) (defScope s_total) .none kV_total dc_total pm_total an_total cd_total ct_total), sl_total⟩) (c_total : PySem.W.codeIn K cd_total "total" = true) (k_total : PySem.W.keepIn K (.ref f_total) = true)
    {f__law_number : Addr} {od__law_number an__law_number : Option Addr} {sl__law_number : Array (Option Value)} {oc__law_number kV__law_number dc__law_number pm__law_number cd__law_number ct__law_number : Value}
    (a__law_number : PySem.W.nsIn K mainGlobals "_law_number" = some (some (.ref f__law_number))) (l__law_number : K.lookup f__law_number = some ⟨oc__law_number, od__law_number, .func (PySem.W.fnOf "_law_number" "_law_number" (defArgs s__law_number) (defBody s__law_number) (defScope s__law_number) .none kV__law_number dc__law_number pm__law_number an__law_number cd__law_number ct__law_number), sl__law_number⟩) (c__law_number : PySem.W.codeIn K cd__law_number "_law_number" = true) (k__law_number : PySem.W.keepIn K (.ref f__law_number) = true)
    {f__law_take : Addr} {od__law_take an__law_take : Option Addr} {sl__law_take : Array (Option Value)} {oc__law_take kV__law_take dc__law_take pm__law_take cd__law_take ct__law_take : Value}
    (a__law_take : PySem.W.nsIn K mainGlobals "_law_take" = some (some (.ref f__law_take))) (l__law_take : K.lookup f__law_take = some ⟨oc__law_take, od__law_take, .func (PySem.W.fnOf "_law_take" "_law_take" (defArgs s__law_take) (defBody s__law_take) (defScope s__law_take) .none kV__law_take dc__law_take pm__law_take an__law_take cd__law_take ct__law_take), sl__law_take⟩) (c__law_take : PySem.W.codeIn K cd__law_take "_law_take" = true) (k__law_take : PySem.W.keepIn K (.ref f__law_take) = true)
    {f__law_pick : Addr} {od__law_pick an__law_pick : Option Addr} {sl__law_pick : Array (Option Value)} {oc__law_pick kV__law_pick dc__law_pick pm__law_pick cd__law_pick ct__law_pick : Value}
    (a__law_pick : PySem.W.nsIn K mainGlobals "_law_pick" = some (some (.ref f__law_pick))) (l__law_pick : K.lookup f__law_pick = some ⟨oc__law_pick, od__law_pick, .func (PySem.W.fnOf "_law_pick" "_law_pick" (defArgs s__law_pick) (defBody s__law_pick) (defScope s__law_pick) .none kV__law_pick dc__law_pick pm__law_pick an__law_pick cd__law_pick ct__law_pick), sl__law_pick⟩) (c__law_pick : PySem.W.codeIn K cd__law_pick "_law_pick" = true) (k__law_pick : PySem.W.keepIn K (.ref f__law_pick) = true)
    {f__law_long : Addr} {od__law_long an__law_long : Option Addr} {sl__law_long : Array (Option Value)} {oc__law_long kV__law_long dc__law_long pm__law_long cd__law_long ct__law_long : Value}
    (a__law_long : PySem.W.nsIn K mainGlobals "_law_long" = some (some (.ref f__law_long))) (l__law_long : K.lookup f__law_long = some ⟨oc__law_long, od__law_long, .func (PySem.W.fnOf "_law_long" "_law_long" (defArgs s__law_long) (defBody s__law_long) (defScope s__law_long) .none kV__law_long dc__law_long pm__law_long an__law_long cd__law_long ct__law_long), sl__law_long⟩) (c__law_long : PySem.W.codeIn K cd__law_long "_law_long" = true) (k__law_long : PySem.W.keepIn K (.ref f__law_long) = true)
    {f_law : Addr} {od_law an_law : Option Addr} {sl_law : Array (Option Value)} {oc_law kV_law dc_law pm_law cd_law ct_law : Value}
    (a_law : PySem.W.nsIn K mainGlobals "law" = some (some (.ref f_law))) (l_law : K.lookup f_law = some ⟨oc_law, od_law, .func (PySem.W.fnOf "law" "law" (defArgs s_law) (defBody s_law) (defScope s_law) .none kV_law dc_law pm_law an_law cd_law ct_law), sl_law⟩) (c_law : PySem.W.codeIn K cd_law "law" = true) (k_law : PySem.W.keepIn K (.ref f_law) = true)
    (z_len : PySem.W.nsIn K mainGlobals "len" = some none)
    (z_range : PySem.W.nsIn K mainGlobals "range" = some none)
    (z_int : PySem.W.nsIn K mainGlobals "int" = some none)
    (z_bool : PySem.W.nsIn K mainGlobals "bool" = some none)
    (z_isinstance : PySem.W.nsIn K mainGlobals "isinstance" = some none)
    (z_abs : PySem.W.nsIn K mainGlobals "abs" = some none)
    (z_min : PySem.W.nsIn K mainGlobals "min" = some none)
    (z_sum : PySem.W.nsIn K mainGlobals "sum" = some none)
    : ∃ fd : FuncData, (∀ (s : Shared) (v : Value), BindsTo s fd ⟨[v], []⟩ [("script", v)]) ∧ ∀ base : Heap, K.In base → base.Ns mainGlobals mg → FnOk l.prog w K mg base CX0 4 fa fd ["script"] (spLaw K) := by
  have e := hfa.symm.trans (PySem.W.mg_of X G a_law)
  cases e
  have F_is_number := fun_mk (st := s_is_number) l_is_number c_is_number k_is_number
  have b_is_number := F_is_number.binds (ps := ["value"]) fun _ _ _ _ _ _ us hl => match us, hl with | [_], _ => rfl
  have g_is_number := PySem.W.mg_of X G a_is_number
  have F_check_numbers := fun_mk (st := s_check_numbers) l_check_numbers c_check_numbers k_check_numbers
  have b_check_numbers := F_check_numbers.binds (ps := ["values"]) fun _ _ _ _ _ _ us hl => match us, hl with | [_], _ => rfl
  have g_check_numbers := PySem.W.mg_of X G a_check_numbers
  have F_check_from := fun_mk (st := s_check_from) l_check_from c_check_from k_check_from
  have b_check_from := F_check_from.binds (ps := ["least", "value"]) fun _ _ _ _ _ _ us hl => match us, hl with | [_, _], _ => rfl
  have g_check_from := PySem.W.mg_of X G a_check_from
  have F_total := fun_mk (st := s_total) l_total c_total k_total
  have b_total := F_total.binds (ps := ["a", "b", "m", "many"]) fun _ _ _ _ _ _ us hl => match us, hl with | [_, _, _, _], _ => rfl
  have g_total := PySem.W.mg_of X G a_total
  have F__law_number := fun_mk (st := s__law_number) l__law_number c__law_number k__law_number
  have b__law_number := F__law_number.binds (ps := ["script", "index"]) fun _ _ _ _ _ _ us hl => match us, hl with | [_, _], _ => rfl
  have g__law_number := PySem.W.mg_of X G a__law_number
  have F__law_take := fun_mk (st := s__law_take) l__law_take c__law_take k__law_take
  have b__law_take := F__law_take.binds (ps := ["draw", "many"]) fun _ _ _ _ _ _ us hl => match us, hl with | [_, _], _ => rfl
  have g__law_take := PySem.W.mg_of X G a__law_take
  have F__law_pick := fun_mk (st := s__law_pick) l__law_pick c__law_pick k__law_pick
  have b__law_pick := F__law_pick.binds (ps := ["draw", "items"]) fun _ _ _ _ _ _ us hl => match us, hl with | [_, _], _ => rfl
  have g__law_pick := PySem.W.mg_of X G a__law_pick
  have F__law_long := fun_mk (st := s__law_long) l__law_long c__law_long k__law_long
  have b__law_long := F__law_long.binds (ps := ["draw", "figures"]) fun _ _ _ _ _ _ us hl => match us, hl with | [_, _], _ => rfl
  have g__law_long := PySem.W.mg_of X G a__law_long
  have F_law := fun_mk (st := s_law) l_law c_law k_law
  have T : Nm mg := { len := PySem.W.mg_none_of X G z_len, range := PySem.W.mg_none_of X G z_range, int := PySem.W.mg_none_of X G z_int, bool := PySem.W.mg_none_of X G z_bool, isinstance := PySem.W.mg_none_of X G z_isinstance, abs := PySem.W.mg_none_of X G z_abs, min := PySem.W.mg_none_of X G z_min, sum := PySem.W.mg_none_of X G z_sum }
  refine ⟨PySem.W.fnOf "law" "law" (defArgs s_law) (defBody s_law) (defScope s_law) .none kV_law dc_law pm_law an_law cd_law ct_law, fun s v => .of_eq rfl, fun base _ _ => ?_⟩
  have C_is_number : Has l.prog w K mg base "is_number" 1 ["value"] spIsN _ _ := ⟨ok_is_number T F_is_number, g_is_number, F_is_number.kp, b_is_number⟩
  have C_check_numbers : Has l.prog w K mg base "check_numbers" 2 ["values"] (spCheckNums K) _ _ := ⟨ok_check_numbers T C_is_number F_check_numbers, g_check_numbers, F_check_numbers.kp, b_check_numbers⟩
  have C_check_from : Has l.prog w K mg base "check_from" 2 ["least", "value"] spCheckFrom _ _ := ⟨ok_check_from T C_is_number F_check_from, g_check_from, F_check_from.kp, b_check_from⟩
  have C_total : Has l.prog w K mg base "total" 3 ["a", "b", "m", "many"] spTotal _ _ := ⟨ok_total C_check_numbers C_check_from F_total, g_total, F_total.kp, b_total⟩
  have C__law_number : Has l.prog w K mg base "_law_number" 1 ["script", "index"] (spNumber K) _ _ := ⟨ok__law_number T F__law_number, g__law_number, F__law_number.kp, b__law_number⟩
  have C__law_take : Has l.prog w K mg base "_law_take" 2 ["draw", "many"] (spTake K) _ _ := ⟨ok__law_take T C__law_number F__law_take, g__law_take, F__law_take.kp, b__law_take⟩
  have C__law_pick : Has l.prog w K mg base "_law_pick" 3 ["draw", "items"] (spPick K) _ _ := ⟨ok__law_pick T C__law_take F__law_pick, g__law_pick, F__law_pick.kp, b__law_pick⟩
  have C__law_long : Has l.prog w K mg base "_law_long" 3 ["draw", "figures"] (spLong K) _ _ := ⟨ok__law_long T C__law_take F__law_long, g__law_long, F__law_long.kp, b__law_long⟩
  exact ok_law T C_total C__law_take C__law_pick C__law_long F_law
end K46
open PySem PySem.W PyProof.Rows
set_option maxHeartbeats 0 in
theorem PySem.Challenge.cw_pointorstrip_k46_sums_by_division_holds : PySem.Challenge.rw_pointorstrip_k46_sums_by_division.Holds := by
  w_on; o_law; k_head; (case hw => w_witness2)
  k_fill
  refine L2.walk_of (l := PySem.Challenge.rw_pointorstrip_k46_sums_by_division) (n := 63) (k := 4) (x := "script") (CX := fun _ => L2.CX0) (sp := fun w => K46.spLaw _) rfl (by decide) rfl ⟨rfl, by decide, by decide⟩ (fun w h Y => PySem.W.kIn_of Y) ?F (fun _ _ a ns hl _ hS => ⟨a, ns, rfl, hS, hl, fun _ => rfl⟩) (fun _ _ _ _ _ h => h)
  case F =>
    intro w mg fa h KX G hmg
    refine' K46.all_mk KX G hmg ?a_is_number ?l_is_number ?c_is_number ?k_is_number ?a_check_numbers ?l_check_numbers ?c_check_numbers ?k_check_numbers ?a_check_from ?l_check_from ?c_check_from ?k_check_from ?a_total ?l_total ?c_total ?k_total ?a__law_number ?l__law_number ?c__law_number ?k__law_number ?a__law_take ?l__law_take ?c__law_take ?k__law_take ?a__law_pick ?l__law_pick ?c__law_pick ?k__law_pick ?a__law_long ?l__law_long ?c__law_long ?k__law_long ?a_law ?l_law ?c_law ?k_law ?z_len ?z_range ?z_int ?z_bool ?z_isinstance ?z_abs ?z_min ?z_sum
    (case a_is_number => k_is)
    (case l_is_number => k_is)
    (case c_is_number => k_is)
    (case k_is_number => k_is)
    (case a_check_numbers => k_is)
    (case l_check_numbers => k_is)
    (case c_check_numbers => k_is)
    (case k_check_numbers => k_is)
    (case a_check_from => k_is)
    (case l_check_from => k_is)
    (case c_check_from => k_is)
    (case k_check_from => k_is)
    (case a_total => k_is)
    (case l_total => k_is)
    (case c_total => k_is)
    (case k_total => k_is)
    (case a__law_number => k_is)
    (case l__law_number => k_is)
    (case c__law_number => k_is)
    (case k__law_number => k_is)
    (case a__law_take => k_is)
    (case l__law_take => k_is)
    (case c__law_take => k_is)
    (case k__law_take => k_is)
    (case a__law_pick => k_is)
    (case l__law_pick => k_is)
    (case c__law_pick => k_is)
    (case k__law_pick => k_is)
    (case a__law_long => k_is)
    (case l__law_long => k_is)
    (case c__law_long => k_is)
    (case k__law_long => k_is)
    (case a_law => k_is)
    (case l_law => k_is)
    (case c_law => k_is)
    (case k_law => k_is)
    (case z_len => k_is)
    (case z_range => k_is)
    (case z_int => k_is)
    (case z_bool => k_is)
    (case z_isinstance => k_is)
    (case z_abs => k_is)
    (case z_min => k_is)
    (case z_sum => k_is)
