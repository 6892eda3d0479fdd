import PyProof.Rows.All
import Wide.All
import OpenK.AllK
import Wide.FinOn
import PyProof.EqAt
import PyProof.EqKinds
import PyProof.TupleCall
import PyProof.ReprRoads
import PyProof.ReprLen
import PyProof.StrLawsRepr
import HandS.ForMost
import HandS.Wide
import HandS.WideBits
import HandS.IsInst
import HandS.Gcd
import HandS.Style
import HandS.Evl
import HandS.RaiseMore
import HandS.TupAny
import PySem.Challenge.RW_hourrings_k07_whole_sums_and_products
set_option Elab.async false
set_option linter.all false
set_option maxRecDepth 100000
set_option maxHeartbeats 4000000
/-! words of bits, added without carries -/
namespace Gf
theorem two_xor (a b : Nat) : 2 * (a ^^^ b) = 2 * a ^^^ 2 * b := by
  have h := Nat.shiftLeft_xor_distrib (a := a) (b := b) (i := 1)
  simpa [Nat.shiftLeft_eq, Nat.mul_comm] using h
/-- the product without carries -/
def mul (a b : Nat) : Nat := if h : b = 0 then 0 else (if b % 2 = 1 then a else 0) ^^^ 2 * mul a (b / 2)
termination_by b
decreasing_by omega
theorem mul_zero (a : Nat) : mul a 0 = 0 := by unfold mul; simp
theorem mul_step (a b : Nat) : mul a b = (if b % 2 = 1 then a else 0) ^^^ 2 * mul a (b / 2) := by
  by_cases h : b = 0
  · subst h; simp [mul_zero]
  · conv => lhs; unfold mul
    simp [h]
theorem zero_mul (b : Nat) : mul 0 b = 0 := by
  induction b using Nat.strongRecOn with
  | _ b ih =>
    by_cases h : b = 0
    · subst h; exact mul_zero 0
    · rw [mul_step, ih (b / 2) (by omega)]; simp
theorem mul_double (a b : Nat) : mul a (2 * b) = 2 * mul a b := by
  rw [mul_step]
  have h1 : (2 * b) % 2 = 0 := by omega
  have h2 : (2 * b) / 2 = b := by omega
  rw [h1, h2]; simp
theorem double_mul (a b : Nat) : mul (2 * a) b = 2 * mul a b := by
  induction b using Nat.strongRecOn with
  | _ b ih =>
    by_cases h : b = 0
    · subst h; simp [mul_zero]
    · rw [mul_step, mul_step a b, ih (b / 2) (by omega), two_xor]
      by_cases e : b % 2 = 1 <;> simp [e]
theorem mul_one (a : Nat) : mul a 1 = a := by
  rw [mul_step]; simp [mul_zero]
theorem one_mul (b : Nat) : mul 1 b = b := by
  induction b using Nat.strongRecOn with
  | _ b ih =>
    by_cases h : b = 0
    · subst h; exact mul_zero 1
    · rw [mul_step, ih (b / 2) (by omega)]
      have e2 : (b % 2) ^^^ 2 * (b / 2) = b := by
        apply Nat.eq_of_testBit_eq
        intro i
        rw [Nat.testBit_xor]
        cases i with
        | zero => 
          simp [Nat.testBit_zero]
        | succ i =>
          have e : Nat.testBit (b % 2) (i + 1) = false := by
            apply Nat.testBit_lt_two_pow
            have : b % 2 < 2 := Nat.mod_lt _ (by decide)
            have : 2 ≤ 2 ^ (i + 1) := by
              rw [Nat.pow_succ]; have := Nat.one_le_two_pow (n := i); omega
            omega
          rw [e, Nat.testBit_succ, Nat.testBit_succ]
          have : 2 * (b / 2) / 2 = b / 2 := by omega
          rw [this]; simp
      rcases Nat.mod_two_eq_zero_or_one b with e | e
      · rw [e] at e2 ⊢; simpa using e2
      · rw [e] at e2 ⊢; simpa using e2
/-- a number is its last bit and twice the rest -/
theorem split2 (b : Nat) : b = (b % 2) ^^^ 2 * (b / 2) := by
  have h := one_mul b
  rw [mul_step, one_mul] at h
  rcases Nat.mod_two_eq_zero_or_one b with e | e
  · rw [e] at h ⊢; simpa using h.symm
  · rw [e] at h ⊢; simpa using h.symm
theorem xor_half (b c : Nat) : (b ^^^ c) / 2 = b / 2 ^^^ c / 2 := by
  have h := Nat.shiftRight_xor_distrib (a := b) (b := c) (i := 1)
  simpa [Nat.shiftRight_eq_div_pow] using h
theorem xor_odd (b c : Nat) : (b ^^^ c) % 2 = (b % 2) ^^^ (c % 2) := by
  have h := Nat.xor_mod_two_pow (a := b) (b := c) (n := 1)
  simpa using h
theorem xor_mul (a a' b : Nat) : mul (a ^^^ a') b = mul a b ^^^ mul a' b := by
  induction b using Nat.strongRecOn with
  | _ b ih =>
    by_cases h : b = 0
    · subst h; simp [mul_zero]
    · rw [mul_step, mul_step a b, mul_step a' b, ih (b / 2) (by omega), two_xor]
      by_cases e : b % 2 = 1
      · simp only [e, if_true]; ac_rfl
      · simp only [e, if_false]; simp
theorem mul_xor (a b c : Nat) : mul a (b ^^^ c) = mul a b ^^^ mul a c := by
  induction b using Nat.strongRecOn generalizing c with
  | _ b ih =>
    by_cases h : b = 0
    · subst h; simp [mul_zero]
    · rw [mul_step, mul_step a b, mul_step a c, xor_half, ih (b / 2) (by omega), two_xor, xor_odd]
      rcases Nat.mod_two_eq_zero_or_one b with e | e <;> rcases Nat.mod_two_eq_zero_or_one c with f | f <;> simp only [e, f]
      · simp
      · simp only [Nat.zero_xor, if_true, show ¬ (0 : Nat) = 1 by decide, if_false]; ac_rfl
      · simp only [Nat.xor_zero, if_true, show ¬ (0 : Nat) = 1 by decide, if_false, Nat.zero_xor]; ac_rfl
      · have z : a ^^^ a = 0 := Nat.xor_self a
        simp only [Nat.xor_self, show ¬ (0 : Nat) = 1 by decide, if_false, if_true, Nat.zero_xor]
        have : a ^^^ 2 * mul a (b / 2) ^^^ (a ^^^ 2 * mul a (c / 2)) = (a ^^^ a) ^^^ (2 * mul a (b / 2) ^^^ 2 * mul a (c / 2)) := by ac_rfl
        rw [this, z]; simp
theorem mul_comm (a b : Nat) : mul a b = mul b a := by
  induction b using Nat.strongRecOn generalizing a with
  | _ b ih =>
    by_cases h : b = 0
    · subst h; rw [mul_zero, zero_mul]
    · rw [mul_step, ih (b / 2) (by omega)]
      conv => rhs; rw [split2 b]
      rw [xor_mul, double_mul]
      rcases Nat.mod_two_eq_zero_or_one b with e | e <;> simp [e, zero_mul, one_mul]
theorem mul_assoc (a b c : Nat) : mul (mul a b) c = mul a (mul b c) := by
  induction c using Nat.strongRecOn with
  | _ c ih =>
    by_cases h : c = 0
    · subst h; simp [mul_zero]
    · rw [mul_step, mul_step b c, mul_xor, mul_double, ih (c / 2) (by omega)]
      by_cases e : c % 2 = 1 <;> simp [e, mul_zero]
/-! ### sizes -/
/-- how many bits a number has -/
def bl (n : Nat) : Nat := if n = 0 then 0 else n.log2 + 1
theorem bl_zero : bl 0 = 0 := rfl
theorem bl_pos {n : Nat} (h : 0 < n) : 0 < bl n := by unfold bl; rw [if_neg (by omega)]; omega
theorem bl_le {n k : Nat} : bl n ≤ k ↔ n < 2 ^ k := by
  unfold bl
  by_cases h : n = 0
  · subst h; simp [Nat.two_pow_pos]
  · rw [if_neg h, Nat.succ_le_iff, Nat.log2_lt h]
theorem lt_bl {n k : Nat} : k < bl n ↔ 2 ^ k ≤ n := by
  have := @bl_le n k; omega
theorem bl_eq {n k : Nat} (h1 : 2 ^ k ≤ n) (h2 : n < 2 ^ (k + 1)) : bl n = k + 1 := by
  have a := lt_bl.mpr h1; have b := bl_le.mpr h2; omega
theorem bl_eq_zero {n : Nat} : bl n = 0 ↔ n = 0 := by
  constructor
  · intro h; have := (bl_le (n := n) (k := 0)).mp (by omega); simpa using this
  · rintro rfl; rfl
theorem top_bit {n k : Nat} (h1 : 2 ^ k ≤ n) (h2 : n < 2 ^ (k + 1)) : n.testBit k = true := by
  have e : n / 2 ^ k = 1 := by
    rw [Nat.pow_succ] at h2
    exact Nat.div_eq_of_lt_le (by omega) (by omega)
  rw [Nat.testBit_eq_decide_div_mod_eq, e]; rfl
theorem xor_lt_top {x y k : Nat} (hx : 2 ^ k ≤ x) (hx2 : x < 2 ^ (k + 1)) (hy : 2 ^ k ≤ y) (hy2 : y < 2 ^ (k + 1)) : x ^^^ y < 2 ^ k := by
  apply Nat.lt_pow_two_of_testBit
  intro i hi
  rw [Nat.testBit_xor]
  by_cases e : i = k
  · subst e; rw [top_bit hx hx2, top_bit hy hy2]; rfl
  · have l : 2 ^ (k + 1) ≤ 2 ^ i := Nat.pow_le_pow_right (by decide) (by omega)
    rw [Nat.testBit_lt_two_pow (Nat.lt_of_lt_of_le hx2 l), Nat.testBit_lt_two_pow (Nat.lt_of_lt_of_le hy2 l)]; rfl
theorem mul_span {i j a b : Nat} (ha : 2 ^ i ≤ a) (ha2 : a < 2 ^ (i + 1)) (hb : 2 ^ j ≤ b) (hb2 : b < 2 ^ (j + 1)) : 2 ^ (i + j) ≤ mul a b ∧ mul a b < 2 ^ (i + j + 1) := by
  induction j generalizing b with
  | zero =>
    have : b = 1 := by simp at hb hb2; omega
    subst this; rw [mul_one]; exact ⟨ha, ha2⟩
  | succ j ih =>
    have p : 2 ^ (j + 1) = 2 * 2 ^ j := by rw [Nat.pow_succ]; omega
    have p2 : 2 ^ (j + 1 + 1) = 2 * 2 ^ (j + 1) := by rw [Nat.pow_succ]; omega
    obtain ⟨l, u⟩ := ih (b := b / 2) (by omega) (by omega)
    rw [mul_step]
    have q : 2 ^ (i + (j + 1)) = 2 * 2 ^ (i + j) := by rw [← Nat.add_assoc, Nat.pow_succ]; omega
    have q2 : 2 ^ (i + (j + 1) + 1) = 2 * 2 ^ (i + j + 1) := by rw [← Nat.add_assoc, Nat.pow_succ]; omega
    have c : (if b % 2 = 1 then a else 0) < 2 ^ (i + (j + 1)) := by
      have : 2 ^ (i + 1) ≤ 2 ^ (i + (j + 1)) := Nat.pow_le_pow_right (by decide) (by omega)
      have := Nat.two_pow_pos (i + (j + 1))
      split <;> omega
    have u2 : 2 * mul a (b / 2) < 2 ^ (i + (j + 1) + 1) := by omega
    constructor
    · apply Nat.ge_two_pow_of_testBit
      rw [Nat.testBit_xor, Nat.testBit_lt_two_pow c, top_bit (by omega) u2]; rfl
    · apply Nat.xor_lt_two_pow _ u2
      have := Nat.pow_le_pow_right (n := 2) (by decide) (show i + (j + 1) ≤ i + (j + 1) + 1 by omega)
      omega
theorem span {n : Nat} (h : 0 < n) : 2 ^ (bl n - 1) ≤ n ∧ n < 2 ^ (bl n - 1 + 1) := by
  have p := bl_pos h
  exact ⟨lt_bl.mp (by omega), bl_le.mp (by omega)⟩
theorem bl_mul {a b : Nat} (ha : 0 < a) (hb : 0 < b) : bl (mul a b) = bl a + bl b - 1 := by
  obtain ⟨a1, a2⟩ := span ha
  obtain ⟨b1, b2⟩ := span hb
  obtain ⟨l, u⟩ := mul_span a1 a2 b1 b2
  have := bl_pos ha; have := bl_pos hb
  rw [bl_eq l u]; omega
theorem mul_pos {a b : Nat} (ha : 0 < a) (hb : 0 < b) : 0 < mul a b := by
  have := bl_mul ha hb; have := bl_pos ha; have := bl_pos hb
  have h : bl (mul a b) ≠ 0 := by omega
  have : mul a b ≠ 0 := fun e => h (bl_eq_zero.mpr e)
  omega
theorem mul_eq_zero {a b : Nat} : mul a b = 0 ↔ a = 0 ∨ b = 0 := by
  constructor
  · intro h
    by_cases ha : a = 0
    · exact .inl ha
    · by_cases hb : b = 0
      · exact .inr hb
      · have := mul_pos (a := a) (b := b) (by omega) (by omega); omega
  · rintro (rfl | rfl)
    · exact zero_mul b
    · exact mul_zero a
theorem xor_eq_zero {a b : Nat} : a ^^^ b = 0 ↔ a = b := by
  constructor
  · intro h
    have : a ^^^ b ^^^ b = 0 ^^^ b := by rw [h]
    rw [Nat.xor_assoc, Nat.xor_self, Nat.xor_zero, Nat.zero_xor] at this
    exact this
  · rintro rfl; exact Nat.xor_self a
theorem mul_cancel {a b c : Nat} (ha : 0 < a) (h : mul a b = mul a c) : b = c := by
  have : mul a (b ^^^ c) = 0 := by rw [mul_xor, h, Nat.xor_self]
  rcases mul_eq_zero.mp this with z | z
  · omega
  · exact xor_eq_zero.mp z
theorem mul_pow (a k : Nat) : mul a (2 ^ k) = a * 2 ^ k := by
  induction k with
  | zero => simp [mul_one]
  | succ k ih => rw [Nat.pow_succ, Nat.mul_comm (2 ^ k) 2, mul_double, ih]; ac_rfl
end Gf
/-! ### division -/
namespace Gf
theorem step_lt {n d : Nat} (hd : 0 < d) (h : bl d ≤ bl n) : n ^^^ d * 2 ^ (bl n - bl d) < 2 ^ (bl n - 1) := by
  have p := bl_pos hd
  have hn : 0 < n := by
    rcases Nat.eq_zero_or_pos n with e | e
    · subst e; rw [bl_zero] at h; omega
    · exact e
  obtain ⟨n1, n2⟩ := span hn
  obtain ⟨d1, d2⟩ := span hd
  have e1 : 2 ^ (bl n - 1) = 2 ^ (bl d - 1) * 2 ^ (bl n - bl d) := by
    rw [← Nat.pow_add]; congr 1; omega
  have e2 : 2 ^ (bl n - 1 + 1) = 2 ^ (bl d - 1 + 1) * 2 ^ (bl n - bl d) := by
    rw [← Nat.pow_add]; congr 1; omega
  refine xor_lt_top n1 n2 ?_ ?_
  · rw [e1]; exact Nat.mul_le_mul_right _ d1
  · rw [e2]; exact Nat.mul_lt_mul_of_pos_right d2 (Nat.two_pow_pos _)
theorem step_less {n d : Nat} (hd : 0 < d) (h : bl d ≤ bl n) : n ^^^ d * 2 ^ (bl n - bl d) < n := by
  have p := bl_pos hd
  have := step_lt hd h
  have := lt_bl.mp (show bl n - 1 < bl n by omega)
  omega
/-- the rest by d -/
def rem (n d : Nat) : Nat := if h : 0 < d ∧ bl d ≤ bl n then rem (n ^^^ d * 2 ^ (bl n - bl d)) d else n
termination_by n
decreasing_by exact step_less h.1 h.2
def quo (n d : Nat) : Nat := if h : 0 < d ∧ bl d ≤ bl n then 2 ^ (bl n - bl d) ^^^ quo (n ^^^ d * 2 ^ (bl n - bl d)) d else 0
termination_by n
decreasing_by exact step_less h.1 h.2
theorem rem_go {n d : Nat} (hd : 0 < d) (h : bl d ≤ bl n) : rem n d = rem (n ^^^ d * 2 ^ (bl n - bl d)) d := by
  conv => lhs; unfold rem
  rw [dif_pos ⟨hd, h⟩]
theorem rem_end {n d : Nat} (h : bl n < bl d) : rem n d = n := by
  unfold rem; rw [dif_neg (by omega)]
theorem rem_zero (n : Nat) : rem n 0 = n := by
  unfold rem; rw [dif_neg (by omega)]
theorem quo_go {n d : Nat} (hd : 0 < d) (h : bl d ≤ bl n) : quo n d = 2 ^ (bl n - bl d) ^^^ quo (n ^^^ d * 2 ^ (bl n - bl d)) d := by
  conv => lhs; unfold quo
  rw [dif_pos ⟨hd, h⟩]
theorem quo_end {n d : Nat} (h : bl n < bl d) : quo n d = 0 := by
  unfold quo; rw [dif_neg (by omega)]
theorem rem_spec {n d : Nat} (hd : 0 < d) : bl (rem n d) < bl d ∧ n = mul d (quo n d) ^^^ rem n d := by
  induction n using Nat.strongRecOn with
  | _ n ih =>
    by_cases h : bl d ≤ bl n
    · obtain ⟨a, b⟩ := ih _ (step_less hd h)
      rw [rem_go hd h, quo_go hd h, mul_xor, mul_pow]
      refine ⟨a, ?_⟩
      have e : d * 2 ^ (bl n - bl d) ^^^ mul d (quo (n ^^^ d * 2 ^ (bl n - bl d)) d) ^^^ rem (n ^^^ d * 2 ^ (bl n - bl d)) d = d * 2 ^ (bl n - bl d) ^^^ (mul d (quo (n ^^^ d * 2 ^ (bl n - bl d)) d) ^^^ rem (n ^^^ d * 2 ^ (bl n - bl d)) d) := by ac_rfl
      rw [e, ← b]
      have e3 : d * 2 ^ (bl n - bl d) ^^^ (n ^^^ d * 2 ^ (bl n - bl d)) = n ^^^ (d * 2 ^ (bl n - bl d) ^^^ d * 2 ^ (bl n - bl d)) := by ac_rfl
      rw [e3, Nat.xor_self, Nat.xor_zero]
    · rw [rem_end (by omega), quo_end (by omega), mul_zero, Nat.zero_xor]
      exact ⟨by omega, rfl⟩
theorem bl_xor_lt {a b k : Nat} (ha : bl a < k) (hb : bl b < k) : bl (a ^^^ b) < k := by
  obtain ⟨j, rfl⟩ : ∃ j, k = j + 1 := ⟨k - 1, by omega⟩
  have := Nat.xor_lt_two_pow (bl_le.mp (Nat.le_of_lt_succ ha)) (bl_le.mp (Nat.le_of_lt_succ hb))
  have := bl_le.mpr this; omega
theorem div_one {d q r q' r' : Nat} (hd : 0 < d) (hr : bl r < bl d) (hr' : bl r' < bl d) (h : mul d q ^^^ r = mul d q' ^^^ r') : q = q' ∧ r = r' := by
  have e : mul d (q ^^^ q') = r ^^^ r' := by
    rw [mul_xor]
    have : mul d q = mul d q' ^^^ r' ^^^ r := by
      rw [← h]; rw [Nat.xor_assoc, Nat.xor_self, Nat.xor_zero]
    rw [this]
    have e3 : mul d q' ^^^ r' ^^^ r ^^^ mul d q' = (mul d q' ^^^ mul d q') ^^^ (r ^^^ r') := by ac_rfl
    rw [e3, Nat.xor_self, Nat.zero_xor]
  have l := bl_xor_lt hr hr'
  by_cases z : q ^^^ q' = 0
  · rw [z, mul_zero] at e
    exact ⟨xor_eq_zero.mp z, xor_eq_zero.mp e.symm⟩
  · have := bl_mul hd (b := q ^^^ q') (by omega)
    have := bl_pos (n := q ^^^ q') (by omega)
    rw [e] at *
    omega
/-- d has n as a multiple -/
def Dv (d n : Nat) : Prop := ∃ q, n = mul d q
theorem dv_rem {n d : Nat} : rem n d = 0 ↔ Dv d n := by
  rcases Nat.eq_zero_or_pos d with e | hd
  · subst e
    rw [rem_zero]
    constructor
    · rintro rfl; exact ⟨0, by rw [mul_zero]⟩
    · rintro ⟨q, rfl⟩; exact zero_mul q
  · obtain ⟨a, b⟩ := rem_spec (n := n) hd
    constructor
    · intro h; rw [h, Nat.xor_zero] at b; exact ⟨_, b⟩
    · rintro ⟨q, hq⟩
      have p := bl_pos hd
      exact (div_one (q := q) (r := 0) (q' := quo n d) hd (by rw [bl_zero]; omega) a (by rw [Nat.xor_zero]; exact hq.symm.trans b)).2.symm
theorem quo_mul {d q : Nat} (hd : 0 < d) : quo (mul d q) d = q ∧ rem (mul d q) d = 0 := by
  obtain ⟨a, b⟩ := rem_spec (n := mul d q) hd
  have p := bl_pos hd
  have := div_one (q := q) (r := 0) (q' := quo (mul d q) d) hd (by rw [bl_zero]; omega) a (by rw [Nat.xor_zero]; exact b)
  exact ⟨this.1.symm, this.2.symm⟩
theorem Dv.refl (a : Nat) : Dv a a := ⟨1, (mul_one a).symm⟩
theorem Dv.zero (a : Nat) : Dv a 0 := ⟨0, (mul_zero a).symm⟩
theorem Dv.one (a : Nat) : Dv 1 a := ⟨a, (one_mul a).symm⟩
theorem Dv.trans {a b c : Nat} : Dv a b → Dv b c → Dv a c := by
  rintro ⟨q, rfl⟩ ⟨p, rfl⟩; exact ⟨mul q p, by rw [mul_assoc]⟩
theorem Dv.mul_right {a b : Nat} (c : Nat) : Dv a b → Dv a (mul b c) := by
  rintro ⟨q, rfl⟩; exact ⟨mul q c, by rw [mul_assoc]⟩
theorem Dv.xor {a b c : Nat} : Dv a b → Dv a c → Dv a (b ^^^ c) := by
  rintro ⟨q, rfl⟩ ⟨p, rfl⟩; exact ⟨q ^^^ p, by rw [mul_xor]⟩
theorem Dv.le {a b : Nat} (hb : 0 < b) : Dv a b → bl a ≤ bl b := by
  rintro ⟨q, rfl⟩
  have ha : 0 < a := by
    rcases Nat.eq_zero_or_pos a with e | e
    · subst e; rw [zero_mul] at hb; omega
    · exact e
  have hq : 0 < q := by
    rcases Nat.eq_zero_or_pos q with e | e
    · subst e; rw [mul_zero] at hb; omega
    · exact e
  have := bl_mul ha hq; have := bl_pos hq; omega
theorem Dv.antisymm {a b : Nat} : Dv a b → Dv b a → a = b := by
  rintro ⟨q, rfl⟩ ⟨p, hp⟩
  rcases Nat.eq_zero_or_pos a with e | ha
  · subst e; rw [zero_mul]
  · rw [mul_assoc] at hp
    have e1 : mul q p = 1 := mul_cancel ha (by rw [mul_one]; exact hp.symm)
    have hq : 0 < q := by
      rcases Nat.eq_zero_or_pos q with e | e
      · subst e; rw [zero_mul] at e1; omega
      · exact e
    have hp' : 0 < p := by
      rcases Nat.eq_zero_or_pos p with e | e
      · subst e; rw [mul_zero] at e1; omega
      · exact e
    have s := bl_mul hq hp'
    rw [e1] at s
    have b1 : bl 1 = 1 := by decide
    have := bl_pos hq; have := bl_pos hp'
    have : bl q ≤ 1 := by omega
    have := bl_le.mp this
    have : q = 1 := by omega
    rw [this, mul_one]
theorem dv_zero {a : Nat} : Dv 0 a → a = 0 := by rintro ⟨q, rfl⟩; exact zero_mul q
/-- Euclid -/
theorem rem_less {a b : Nat} (hb : 0 < b) : rem a b < b := by
  have := (rem_spec (n := a) hb).1
  have p := bl_pos hb
  have h1 := lt_bl.mp (show bl b - 1 < bl b by omega)
  have h2 := bl_le.mp (show bl (rem a b) ≤ bl b - 1 by omega)
  omega
def gcd (a b : Nat) : Nat := if h : 0 < b then gcd b (rem a b) else a
termination_by b
decreasing_by exact rem_less h
theorem gcd_zero (a : Nat) : gcd a 0 = a := by unfold gcd; simp
theorem gcd_step {a b : Nat} (h : 0 < b) : gcd a b = gcd b (rem a b) := by
  conv => lhs; unfold gcd
  rw [dif_pos h]
theorem gcd_dv (a b : Nat) : Dv (gcd a b) a ∧ Dv (gcd a b) b := by
  induction b using Nat.strongRecOn generalizing a with
  | _ b ih =>
    rcases Nat.eq_zero_or_pos b with e | hb
    · subst e; rw [gcd_zero]; exact ⟨.refl a, .zero a⟩
    · rw [gcd_step hb]
      obtain ⟨h1, h2⟩ := ih _ (rem_less (a := a) hb) b
      refine ⟨?_, h1⟩
      have e := (rem_spec (n := a) hb).2
      have := (h1.mul_right (quo a b)).xor h2
      rwa [← e] at this
theorem gcd_bez (a b : Nat) : ∃ x y, gcd a b = mul a x ^^^ mul b y := by
  induction b using Nat.strongRecOn generalizing a with
  | _ b ih =>
    rcases Nat.eq_zero_or_pos b with e | hb
    · subst e; exact ⟨1, 0, by rw [gcd_zero, mul_one, mul_zero, Nat.xor_zero]⟩
    · obtain ⟨x, y, h⟩ := ih _ (rem_less (a := a) hb) b
      have e := (rem_spec (n := a) hb).2
      have er : rem a b = a ^^^ mul b (quo a b) := by
        conv => rhs; rw [e]
        have : mul b (quo a b) ^^^ rem a b ^^^ mul b (quo a b) = (mul b (quo a b) ^^^ mul b (quo a b)) ^^^ rem a b := by ac_rfl
        rw [← e] at this ⊢
        rw [this, Nat.xor_self, Nat.zero_xor]
      refine ⟨y, x ^^^ mul (quo a b) y, ?_⟩
      rw [gcd_step hb, h, mul_xor, ← mul_assoc]
      conv => lhs; rw [er]
      rw [xor_mul]
      ac_rfl
theorem dv_gcd {c a b : Nat} (h1 : Dv c a) (h2 : Dv c b) : Dv c (gcd a b) := by
  obtain ⟨x, y, e⟩ := gcd_bez a b
  rw [e]; exact (h1.mul_right x).xor (h2.mul_right y)
theorem gcd_mul (m a b : Nat) : gcd (mul m a) (mul m b) = mul m (gcd a b) := by
  apply Dv.antisymm
  · obtain ⟨x, y, e⟩ := gcd_bez a b
    rw [e, mul_xor, ← mul_assoc, ← mul_assoc]
    obtain ⟨h1, h2⟩ := gcd_dv (mul m a) (mul m b)
    exact (h1.mul_right x).xor (h2.mul_right y)
  · obtain ⟨⟨p, hp⟩, ⟨q, hq⟩⟩ := gcd_dv a b
    exact dv_gcd ⟨p, by rw [mul_assoc, ← hp]⟩ ⟨q, by rw [mul_assoc, ← hq]⟩
theorem gcd_comm (a b : Nat) : gcd a b = gcd b a :=
  Dv.antisymm (dv_gcd (gcd_dv a b).2 (gcd_dv a b).1) (dv_gcd (gcd_dv b a).2 (gcd_dv b a).1)
theorem gcd_eq_zero {a b : Nat} : gcd a b = 0 ↔ a = 0 ∧ b = 0 := by
  constructor
  · intro h
    obtain ⟨h1, h2⟩ := gcd_dv a b
    rw [h] at h1 h2; exact ⟨dv_zero h1, dv_zero h2⟩
  · rintro ⟨rfl, rfl⟩; exact gcd_zero 0
end Gf
namespace Gf
theorem bl_double (a : Nat) : bl (2 * a) ≤ bl a + 1 := by
  rw [bl_le, Nat.pow_succ]
  have := bl_le.mp (Nat.le_refl (bl a)); omega
theorem bl_half {b : Nat} (h : 0 < b) : bl (b / 2) + 1 = bl b := by
  obtain ⟨l, u⟩ := span h
  have p := bl_pos h
  have e : 2 ^ (bl b - 1 + 1) = 2 * 2 ^ (bl b - 1) := by rw [Nat.pow_succ]; omega
  rcases Nat.eq_zero_or_pos (bl b - 1) with z | z
  · rw [z] at l u
    have : b = 1 := by simp at l u; omega
    subst this; decide
  · have e2 : 2 ^ (bl b - 1) = 2 * 2 ^ (bl b - 1 - 1) := by
      have : 2 ^ (bl b - 1 - 1 + 1) = 2 * 2 ^ (bl b - 1 - 1) := by rw [Nat.pow_succ]; omega
      rw [← this]; congr 1; omega
    have := bl_eq (n := b / 2) (k := bl b - 1 - 1) (by omega) (by rw [show bl b - 1 - 1 + 1 = bl b - 1 by omega]; omega)
    omega
theorem mul_odd {a b : Nat} (h : b % 2 = 1) : mul a b = a ^^^ mul (2 * a) (b / 2) := by rw [mul_step, if_pos h, double_mul]
theorem mul_even {a b : Nat} (h : ¬ b % 2 = 1) : mul a b = mul (2 * a) (b / 2) := by rw [mul_step, if_neg h, double_mul, Nat.zero_xor]
theorem bl_mul_le (a b : Nat) : bl (mul a b) ≤ bl a + bl b := by
  rcases Nat.eq_zero_or_pos a with e | ha
  · subst e; rw [zero_mul, bl_zero]; omega
  · rcases Nat.eq_zero_or_pos b with e | hb
    · subst e; rw [mul_zero, bl_zero]; omega
    · rw [bl_mul ha hb]; omega
theorem bl_xor (a b : Nat) {k : Nat} (ha : bl a ≤ k) (hb : bl b ≤ k) : bl (a ^^^ b) ≤ k := by
  have := bl_xor_lt (a := a) (b := b) (k := k + 1) (by omega) (by omega); omega
theorem bl_shl (a k : Nat) : bl (a * 2 ^ k) ≤ bl a + k := by
  rw [bl_le, Nat.pow_add]
  exact Nat.mul_lt_mul_of_pos_right (bl_le.mp (Nat.le_refl _)) (Nat.two_pow_pos _)
end Gf
namespace Hr
open PySem PySem.Spec PyProof.Rows L2
/-! ### defs whose run is promised where no text of an object is being written -/
/-- nothing is being shown, and there is room -/
structure Rm (k : Nat) (A : Around) : Prop where
  room : Room k A
  quiet : A.guards = some []
theorem Rm.mono {j k : Nat} {A : Around} (r : Rm k A) (h : j ≤ k) : Rm j A := ⟨r.room.mono h, r.quiet⟩
theorem Rm.deeper {k : Nat} {A : Around} (r : Rm (k + 1) A) (e : Env) : Rm k (A.deeper e) := ⟨r.room.deeper e, r.quiet⟩
structure Fq (P : Program) (w : World) (K : PySem.W.Frag) (mg : Str → Option Value) (base : Heap) (CX : CXT) (k : Nat) (f : Addr) (fd : FuncData) (ps : List Str) (sp : Sp) : Prop where
  len : ∀ vs H Q E, sp vs H Q E → vs.length = ps.length
  go : ∀ (A : Around) (out : List Env) (s : Shared) (H : Hp) (args : Args) (us : List Value) (vs : List V) (Q : VK) (E : XK),
    Rm k A → Env0 P w K mg base A out s H → BindsTo s fd args (ps.zip us) → Vals vs us → sp vs H Q E →
    codeAny (model P w) A (.call (.ref f) args) (CR CX out P w H s Q E) s
section
variable {P : Program} {w : World} {K : PySem.W.Frag} {mg : Str → Option Value} {base : Heap} {CX : CXT} {f : Addr} {fd : FuncData} {ps : List Str} {sp sp' : Sp} {j k : Nat}
theorem Fq.mono (F : Fq P w K mg base CX j f fd ps sp) (h : j ≤ k) : Fq P w K mg base CX k f fd ps sp :=
  { len := F.len, go := fun A out s H args us vs Q E r => F.go A out s H args us vs Q E (r.mono h) }
theorem Fq.imp (F : Fq P w K mg base CX k f fd ps sp) (h : ∀ vs H Q E, sp' vs H Q E → sp vs H Q E) : Fq P w K mg base CX k f fd ps sp' :=
  { len := fun vs H Q E q => F.len vs H Q E (h _ _ _ _ q)
    go := fun A out s H args us vs Q E r e b v q => F.go A out s H args us vs Q E r e b v (h _ _ _ _ q) }
end
section
variable {X : Cx} {CX : CXT} {k : Nat} {f : Addr} {fd : FuncData} {ps ks : List Str} {sp : Sp} {dvs : List V} {ds : List Value} {E : XK} {x : Str} {p pos : Pos} {e : Expr} {es : List Expr} {ta : TA} {kws : List Keyword} {tk : TA}
theorem end_of {pins : List (Addr × Obj)} {σ : L2.St} {H : Hp} {s : Shared} {Q : VK} (hx : Passes CX X E) (I : Inv X pins σ H s) :
    ∀ (r : Result) (s' : Shared), CR CX X.stack X.prog X.w H s Q E r s' → wants (EP X pins σ Q) X.xe r s' := by
  intro r s' hq
  cases r with
  | error z => exact hx pins σ H s z s' I hq
  | ok fl => cases fl <;> first | exact I.after hq | exact hq.elim
theorem fq_run {pins : List (Addr × Obj)} {σ : L2.St} {H : Hp} {s : Shared} {Q : VK} {us : List Value} {vs : List V} (F : Fq X.prog X.w X.K X.mg X.base CX k f fd ps sp)
    (hr : Rm k X.A) (hb : Binds X.K fd ps ds) (hd : Vals dvs ds) (hx : Passes CX X E) (I : Inv X pins σ H s) (r : Vals vs us) (h : sp (vs ++ dvs) H Q E) :
    wpAny (model X.prog X.w) X.A (call (.ref f) us) (EP X pins σ Q) X.xe s := by
  have rr := r.append hd
  have hl : (us ++ ds).length = ps.length := rr.length.symm.trans (F.len _ _ _ _ h)
  exact wpAny_call (codeAny_mono (F.go X.A X.stack s H _ _ _ Q E hr I.env0 (hb s us I.kIn hl) rr h) (end_of hx I))
theorem pe_q (F : Fq X.prog X.w X.K X.mg X.base CX k f fd ps sp) (hr : Rm k X.A) (hg : Gl X x) (hm : X.mg x = some (.ref f)) (hk : PySem.W.keepIn X.K (.ref f) = true)
    (hb : Binds X.K fd ps ds) (hd : Vals dvs ds) (hx : Passes CX X E) (ha : PA X (e :: es) ta) (hdb : (x == ("__debug__" : Str)) = false := by decide)
    (he : starEach (e :: es) X.env = (false, eval e X.env) :: starEach es X.env := by rfl) (hpl : (backTo pos (starEach es X.env)).any (·.1) = false := by rfl) :
    PE X (.Call (.Name x p) (e :: es) [] pos) (tCall sp dvs E ta) :=
  ⟨fun pins s σ H Q I h => wpAny_Call_Name_kw (ld_glob I hg hm (PySem.W.callWith_K (h₀ := X.base) I.ok.mod.kin hk
    (thn (ha.run pos pins s σ H _ I h) fun _ _ ⟨_, _, I1, r, q⟩ => ⟨I1.kIn, fq_run F hr hb hd hx I1 r q⟩) he hpl) hdb)⟩
theorem pe_q0 (F : Fq X.prog X.w X.K X.mg X.base CX k f fd ps sp) (hr : Rm k X.A) (hg : Gl X x) (hm : X.mg x = some (.ref f)) (hk : PySem.W.keepIn X.K (.ref f) = true)
    (hb : Binds X.K fd ps ds) (hd : Vals dvs ds) (hx : Passes CX X E) (hdb : (x == ("__debug__" : Str)) = false := by decide) :
    PE X (.Call (.Name x p) [] [] pos) (tCall sp dvs E tNil) :=
  ⟨fun pins s σ H Q I h => wpAny_Call_Name_kw (ld_glob I hg hm (PySem.W.callWith_K0 I.kIn hk (fq_run (us := []) F hr hb hd hx I .nil h)) hdb)⟩
end
/-! ### repr of plain data -/
mutual
def neat : PyData → Bool
  | .none => true
  | .bool _ => true
  | .int i => decide (i.natAbs.log2 < 1920)
  | .str x => x.cps.toList.all fun c => decide (c < 16 ^ 8)
  | .list xs => neats xs
  | .tuple xs => neats xs
  | .dict _ => false
def neats : List PyData → Bool
  | [] => true
  | x :: xs => neat x && neats xs
end
mutual
def cost : PyData → Nat
  | .none => 5
  | .bool _ => 5
  | .int _ => 1921
  | .str x => 10 * x.length + 2
  | .list xs => costs xs + 3
  | .tuple xs => costs xs + 3
  | .dict _ => 0
def costs : List PyData → Nat
  | [] => 0
  | x :: xs => cost x + 2 + costs xs
end
theorem sums_eq : ∀ xs : List PyData, PyData.shownAll xs = xs.map PyData.shown
  | [] => rfl
  | x :: xs => by rw [PyData.shownAll, sums_eq xs]; rfl
mutual
theorem neat_ok : ∀ d : PyData, neat d = true → d.showable = true ∧ d.hasDict = false ∧ d.shown.length ≤ cost d
  | .none, _ => ⟨rfl, rfl, by decide +kernel⟩
  | .bool b, _ => ⟨rfl, rfl, by cases b <;> decide +kernel⟩
  | .int i, h => by
    have h' : i.natAbs.log2 < 1920 := of_decide_eq_true h
    exact ⟨decide_eq_true h', rfl, PyProof.Rows.int_text_len_1921 h'⟩
  | .str x, h => by
    refine ⟨rfl, rfl, ?_⟩
    have h' : (x.cps.toList.all fun c => decide (c < 16 ^ 8)) = true := h
    exact StrLaws.reprText_len x fun c hc => of_decide_eq_true (List.all_eq_true.mp h' c hc)
  | .list xs, h => by
    obtain ⟨a, b, c⟩ := neats_ok xs h
    refine ⟨a, b, ?_⟩
    have l := listText_len_le (PyData.shownAll xs)
    show (listText (PyData.shownAll xs)).length ≤ costs xs + 3
    omega
  | .tuple xs, h => by
    obtain ⟨a, b, c⟩ := neats_ok xs h
    refine ⟨a, b, ?_⟩
    have l := tupleText_len_le (PyData.shownAll xs)
    show (tupleText (PyData.shownAll xs)).length ≤ costs xs + 3
    omega
  | .dict _, h => by cases h
theorem neats_ok : ∀ xs : List PyData, neats xs = true → PyData.showableAll xs = true ∧ PyData.hasDictAll xs = false ∧ ((PyData.shownAll xs).map (·.length)).sum + 2 * (PyData.shownAll xs).length ≤ costs xs
  | [], _ => ⟨rfl, rfl, Nat.le_refl _⟩
  | x :: xs, h => by
    have h' : (neat x && neats xs) = true := h
    rw [Bool.and_eq_true] at h'
    obtain ⟨a, b, c⟩ := neat_ok x h'.1
    obtain ⟨a2, b2, c2⟩ := neats_ok xs h'.2
    refine ⟨by rw [PyData.showableAll, a, a2]; rfl, by rw [PyData.hasDictAll, b, b2]; rfl, ?_⟩
    rw [PyData.shownAll, List.map_cons, List.sum_cons, List.length_cons, costs]
    omega
end
theorem repr_any {u : Value} {d : PyData} {as : List Addr} {A : Around} {E : Value → Shared → Prop} {s : Shared} {Q : Value → Shared → Prop} {P : Program} {w : World} (r : Reads s.heap u d as)
    (hn : neat d = true) (hc : cost d ≤ 10000000) (h4 : d.depth ≤ 50) (hg : A.guards = some []) (hu : A.units + 64 < cLine)
    (hQ : ∀ h' v tk, (∀ b o, s.heap.get? b = some o → h'.get? b = some o) → Q (.str d.shown v) { s with heap := h', toks := tk }) :
    wpAny (model P w) A (call (.builtin "repr") [u]) Q E s := by
  obtain ⟨h1, h2, h3⟩ := neat_ok d hn
  have h5 : d.shown.length ≤ sizeLine := by rw [sizeLine_eq]; omega
  cases u with
  | ref a => exact repr_of_reads' r h1 (fun h => by rw [h2] at h; cases h) hg (by omega) (fun _ _ e => e) hQ h5
  | none => cases r; exact PySem.P.repr_of_none (hQ _ _ _ fun _ _ e => e)
  | bool b => cases r; exact PySem.P.repr_of_bool (hQ _ _ _ fun _ _ e => e)
  | int i t => cases r; exact PySem.P.repr_of_int (of_decide_eq_true h1) (hQ _ _ _ fun _ _ e => e)
  | str x t => cases r; exact PySem.P.repr_of_str (hQ _ _ _ fun _ _ e => e) h5
  | _ => cases r
section
variable {X : Cx}
def rRepr (K : PySem.W.Frag) : List V → Hp → VK → Prop := fun xs H Q => ∃ (x : V) (d : PyData), xs = [x] ∧ Dp K H x d ∧ neat d = true ∧ cost d ≤ 10000000 ∧ d.depth ≤ 50 ∧ Q (.str d.shown) H
theorem cr_repr {k : Nat} (hr : Rm k X.A) : CallR X (.builtin "repr") (rRepr X.K) := by
  intro pins s σ H xs us Q I r h
  obtain ⟨x, d, rfl, hd, h1, h2, h3, q⟩ := h
  obtain ⟨u, rfl, rv⟩ := vals1 r
  obtain ⟨as, rd⟩ := Dp.reads I d x u hd rv
  exact repr_any rd h1 h2 h3 hr.quiet hr.room.units fun h' v tk k => ⟨.str d.shown, H, I.kept (t' := tk) k, ⟨v, rfl⟩, q⟩
end
/-! ### a def by its body -/
section
variable {P : Program} {w : World} {K : PySem.W.Frag} {mg : Str → Option Value} {base : Heap} {CX : CXT} {k : Nat} {f : Addr} {N ps : List Str} {sp : Sp}
theorem fq_of {name qual : Str} {params : Arguments} {body : List Stmt} {scope : Scope} {dV kV doc pm cdv ct oc : Value} {an od : Option Addr} {osl : Array (Option Value)}
    (lk : K.lookup f = some ⟨oc, od, .func (PySem.W.fnOf name qual params body scope dV kV doc pm an cdv ct), osl⟩) (hcd : PySem.W.codeIn K cdv qual = true) (S : FnScope N ps scope)
    (len : ∀ vs H Q E, sp vs H Q E → vs.length = ps.length)
    (hbody : ∀ (A : Around) (out : List Env) (s : Shared) (H : Hp) (vs : List V) (Q : VK) (E : XK), Rm k (A.deeper (envOfC qual scope s.heap.objs.size f cdv)) → sp vs H Q E →
      ∃ t, PSs (cxOf CX P w K mg base N qual scope f cdv A out s H E) body t ∧ t { nx := fun _ H' => Q .non H', rt := Q } (start N vs) H) :
    Fq P w K mg base CX (k + 1) f (PySem.W.fnOf name qual params body scope dV kV doc pm an cdv ct) ps sp := by
  constructor
  · exact len
  intro A out s H args us vs Q E hr e0 hb r hsp
  have old : ∀ b o, base.get? b = some o → s.heap.get? b = some o := fun b o e => (e0.bs b o e).1
  have KX := e0.mod.kin.keeps old
  have par : ∀ y ∈ ps.zip us, scope.names.lookup y.1 = some .local ∨ (scope.names.lookup y.1 = some .cell ∧ ((cellsFrom (s.heap.objs.size + 1) scope.names []).lookup y.1).isSome = true) := by
    intro y hy
    exact (S.par y.1 (List.of_mem_zip hy).1).imp id fun q => ⟨q, PySem.W.cellsFrom_some _ _ _ (.inl q)⟩
  refine codeAny_call_function hr.room.depth (KX _ _ lk) rfl S.co S.gen rfl (PySem.W.codeRec_of KX hcd) (hb _ _ _ _ ?_)
  refine wpAny_newFunctionEnv_cells S.kind par fun env he s1 x => ?_
  subst he
  refine ⟨(e0.mod.nolimit.keeps old).keeps x.toInCall.keep, codeAny_func ?_⟩
  obtain ⟨t, ht, hq⟩ := hbody A out s H vs Q E (hr.deeper _) hsp
  have I := inv_start (CX := CX) (E := E) S hr.room.hd e0 (len _ _ _ _ hsp) r x
  refine wpAny_mono (ht.run [] s1 (start N vs) H _ I hq) (fun fl s' hs => ?_) fun _ _ hs => hs
  cases fl
  case ret u =>
    obtain ⟨v, σ', H', J, rv, q⟩ := hs
    exact ⟨v, H', J.os, J.bare, J.base, J.hok, rv, q⟩
  case next =>
    obtain ⟨σ', H', J, q⟩ := hs
    exact ⟨V.non, H', J.os, J.bare, J.base, J.hok, rfl, q⟩
  case brk => obtain ⟨_, _, _, q⟩ := hs; exact q.elim
  case cont => obtain ⟨_, _, _, q⟩ := hs; exact q.elim
/-- a def of the text -/
theorem okq {x qual : Str} {st : Stmt} {fd : FuncData} (F : Fun K x qual st f fd) (S : FnScope N ps (defScope st)) (len : ∀ vs H Q E, sp vs H Q E → vs.length = ps.length)
    (hbody : ∀ (cdv : Value) (A : Around) (out : List Env) (s : Shared) (H : Hp) (vs : List V) (Q : VK) (E : XK), Rm k (A.deeper (envOfC qual (defScope st) s.heap.objs.size f cdv)) → sp vs H Q E →
      ∃ t, PSs (cxOf CX0 P w K mg base N qual (defScope st) f cdv A out s H E).nox (defBody st) t ∧ t { nx := fun _ H' => Q .non H', rt := Q } (start N vs) H) :
    Fq P w K mg base CX0 (k + 1) f fd ps sp := by
  obtain ⟨oc, od, kV, doc, pm, an, cdv, ct, osl, rfl, lk, hcd⟩ := F.ex
  refine fq_of lk hcd S len fun A out s H vs Q E hr h => ?_
  obtain ⟨t, a, b⟩ := hbody cdv A out s H vs Q E hr h
  exact ⟨t, a.nox, b⟩
end
/-! ### the law's own call -/
theorem vals_of_ints {vs : List Value} {ns : List Int} (h : IntsAre vs ns) : Vals (ns.map V.int) vs := by
  induction h with
  | nil => exact .nil
  | cons n t _ ih => exact .cons ⟨t, rfl⟩ ih
section
variable {P : Program} {w : World} {K : PySem.W.Frag} {mg mb : Str → Option Value} {k : Nat} {fa a : Addr} {fd : FuncData} {x : Str} {sp : Sp} {s₁ : Shared} {vs : List Value} {ns : List Int}
/-- the heap that knows at most the script -/
theorem call_from {H : Hp} (KX : K.In s₁.heap) (hns : s₁.heap.Ns mainGlobals mg) (hb : s₁.heap.Ns builtinsNs mb) (hbb : ∀ y : Str, y ≠ "__name__" → mb y = bootBuiltins y) (hlim : s₁.heap.NoLimit)
    (hg : s₁.gens = #[]) (ha : s₁.heap.get? a = some { cls := .type "list", data := .seq vs.toArray }) (hr : Rm k callerA)
    (F : ∀ base : Heap, K.In base → base.Ns mainGlobals mg → Fq P w K mg base CX0 k fa fd [x] sp) (hbind : ∀ (s : Shared) (u : Value), BindsTo s fd ⟨[u], []⟩ [(x, u)])
    (hsp : sp [.ref a] H (fun v _ => v = .bl true) fun _ _ _ => False)
    (hO : Only H) (hok : HOk P w H s₁.heap) (hA : ∀ b u, H b = some u → b = a) (hK : ∀ u, H a = some u → K.lookup a = none) :
    codeAny (model P w) callerA (.call (.ref fa) ⟨[.ref a], []⟩) (fun r s' => r = .ok (.ret (.bool true)) ∧ OldK s₁.heap s'.heap ∧ s'.os = s₁.os ∧ AllBare s'.gens) s₁ := by
  have free : ∀ {b : Addr} {o : Obj} {es : Array DictEntry} {ep : Nat}, s₁.heap.get? b = some o → o.data = .dict es ep → H b = none := by
    intro b o es ep e d
    cases q : H b
    case none => rfl
    case some u =>
      cases hA b u q
      cases ha.symm.trans e
      cases (show Data.seq vs.toArray _ = Data.dict es ep from d)
  have ns' : ∀ {b : Addr} {m : Str → Option Value}, s₁.heap.Ns b m → (hidT s₁.heap H).Ns b m := by
    rintro b m ⟨o, es, ep, e, d, r⟩
    exact ⟨o, es, ep, hidT_get e (free e d), d, r⟩
  have KB : K.In (hidT s₁.heap H) := by
    intro b o e
    refine hidT_get (KX b o e) ?_
    cases q : H b
    case none => rfl
    case some u =>
      cases hA b u q
      have z := hK u q
      rw [e] at z; cases z
  have M : Mod K mg (hidT s₁.heap H) := by
    obtain ⟨mc, h1, h2⟩ := hlim
    exact ⟨KB, ns' hns, ⟨mb, ns' hb, hbb⟩, ⟨mc, ns' h1, h2⟩⟩
  have e0 : Env0 P w K mg (hidT s₁.heap H) callerA [] s₁ H := {
    frames := rfl
    mod := M
    bs := fun b o e => of_hidT e
    bsz := Nat.le_of_eq (hidT_size _ _)
    funs := trivial
    frf := fun b hb => by cases (show b ∈ ([] : List Addr) from hb)
    hok := hok
    bare := .of_eq hg }
  refine codeAny_mono ((F _ KB (ns' hns)).go callerA [] s₁ H ⟨[.ref a], []⟩ [.ref a] [.ref a] _ _ hr e0 (hbind s₁ (.ref a)) (.cons rfl .nil) hsp) ?_
  rintro (e | fl) s' h
  · exact h.elim
  cases fl
  case next => exact h.elim
  case brk => exact h.elim
  case cont => exact h.elim
  case ret u =>
    obtain ⟨v, H', os, bare, un, hok', r', q⟩ := h
    cases (show v = .bl true from q)
    cases (show u = Value.bool true from r')
    refine ⟨rfl, OldK.of_keep fun b o e => ?_, os, bare⟩
    cases q : H b
    case none => exact un.keep b o e q (by intro z; cases (show b ∈ ([] : List Addr) from z)) (by simp)
    case some u =>
      rcases hO b with z | ⟨ob, xs, z⟩
      · rw [q] at z; cases z
      · obtain ⟨e1, _⟩ := hok b _ z
        obtain ⟨e2, _⟩ := hok' b _ (un.frzs b ob _ z)
        cases e.symm.trans e1
        exact e2
end
/-- from the law's promise to the row -/
theorem rowq {l : PySem.W.OpenLaw} {n k : Nat} {q : Program} {loose : List Str} {XP : (Str → Option Value) → Heap → Prop} {YP : World → Heap → Prop} {d : DefRec} {K : Params → PySem.W.Frag} {sp : PySem.W.Frag → Sp} {x : Str}
    (hn : l.most = some n) (hn2 : n ≤ sizeLine) (hdf : d.params.defaults = []) (hr : Rm k callerA)
    (hY : ∀ (w : World) (h : Heap), YP w h → (K w.params).In h)
    (F : ∀ (w : World) (mg : Str → Option Value) (fa : Addr) (h : Heap), (K w.params).In h → h.Ns mainGlobals mg → mg d.name = some (.ref fa) →
      ∃ fd : FuncData, (∀ (s : Shared) (u : Value), BindsTo s fd ⟨[u], []⟩ [(x, u)]) ∧
        ∀ base : Heap, (K w.params).In base → base.Ns mainGlobals mg → Fq l.prog w (K w.params) mg base CX0 k fa fd [x] (sp (K w.params)))
    (hsp : ∀ (K : PySem.W.Frag) (H : Hp) (a : Addr) (ns : List Int), ns.length ≤ n → Only H → SqL K H a (ns.map V.int) → sp K [.ref a] H (fun v _ => v = .bl true) fun _ _ _ => False) :
    PySem.W.WalkO q loose XP YP l.row.toRowW d [] (fun f vs => PySem.call f vs) := by
  refine Att.attach_call hn hdf fun w s₀ s₁ mg mb fa o pm cd doc a vs ns G Y ho hd hcd hmg ha hi hlen hg => ?_
  have KX := hY w _ Y
  obtain ⟨fd, hb, hF⟩ := F w mg fa _ KX G.T.g hmg
  have rv := vals_of_ints hi
  have hl : ns.length ≤ sizeLine := Nat.le_trans hlen hn2
  cases hk : (K w.params).lookup a
  case some o =>
    cases (KX a o hk).symm.trans ha
    have hS : SqL (K w.params) (fun _ => none) a (ns.map V.int) := .inr ⟨_, vs.toArray, _, hk, rfl, rfl, rfl, by rw [List.size_toArray, hi.length]; exact hl, by simpa using rv⟩
    exact call_from (H := fun _ => none) KX G.T.g G.T.b G.T.builtins G.T.nolimit hg ha hr hF hb (hsp _ _ a ns hlen (fun _ => .inl rfl) hS) (fun _ => .inl rfl)
      (fun b u z => by cases (show (none : Option HO) = some u from z)) (fun b u z => by cases z) (fun u z => by cases z)
  case none =>
    let H : Hp := fun b => if b = a then some (.frz { cls := .type "list", data := .seq vs.toArray } (.lst (ns.map V.int))) else none
    have Ha : H a = some (.frz { cls := .type "list", data := .seq vs.toArray } (.lst (ns.map V.int))) := if_pos rfl
    have Hn : ∀ b, b ≠ a → H b = none := fun b h => if_neg h
    have hO : Only H := fun b => by
      by_cases e : b = a
      · subst e; exact .inr ⟨_, _, Ha⟩
      · exact .inl (Hn b e)
    have hA : ∀ b u, H b = some u → b = a := fun b u z => by
      by_cases e : b = a
      · exact e
      · rw [Hn b e] at z; cases z
    refine call_from (H := H) KX G.T.g G.T.b G.T.builtins G.T.nolimit hg ha hr hF hb (hsp _ _ a ns hlen hO (.inl (.inr ⟨_, Ha⟩))) hO (fun b u z => ?_) hA (fun _ _ => hk)
    cases hA b u z
    cases Ha.symm.trans z
    exact ⟨ha, by rw [List.length_map]; exact hl, vs, _, rv, ha⟩
end Hr
namespace Hr
open PySem PySem.Spec PyProof.Rows L2
/-! ### defs by name -/
structure Def (K : PySem.W.Frag) (mg : Str → Option Value) (x : Str) (st : Stmt) (ps : List Str) : Prop where
  ex : ∃ f fd, mg x = some (.ref f) ∧ Fun K x x st f fd ∧ L2.Binds K fd ps []
structure Has (P : Program) (w : World) (K : PySem.W.Frag) (mg : Str → Option Value) (base : Heap) (k : Nat) (x : Str) (ps : List Str) (sp : Sp) : Prop where
  ex : ∃ f fd, mg x = some (.ref f) ∧ PySem.W.keepIn K (.ref f) = true ∧ L2.Binds K fd ps [] ∧ Fq P w K mg base CX0 k f fd ps sp
/-- a promise: arguments f x, what must hold of them, what comes out -/
def spX {α : Type} (f : α → List V) (pre : α → Hp → Prop) (post : α → Hp → V → Hp → Prop) : Sp := fun vs H Q _ => ∃ x : α, vs = f x ∧ pre x H ∧ ∀ v H', post x H v H' → Q v H'
section
variable {P : Program} {w : World} {K : PySem.W.Frag} {mg : Str → Option Value} {base : Heap} {k j : Nat} {x : Str} {ps N : List Str} {st : Stmt} {sp : Sp}
theorem Has.mono (h : Has P w K mg base j x ps sp) (l : j ≤ k) : Has P w K mg base k x ps sp := by
  obtain ⟨f, fd, a, b, c, d⟩ := h.ex
  exact ⟨f, fd, a, b, c, d.mono l⟩
theorem Def.has {α : Type} {f : α → List V} {pre : α → Hp → Prop} {post : α → Hp → V → Hp → Prop} (D : Def K mg x st ps) (S : FnScope N ps (defScope st)) (hl : ∀ z, (f z).length = ps.length)
    (hbody : ∀ (g : Addr) (cdv : Value) (A : Around) (out : List Env) (s : Shared) (H : Hp) (z : α) (Q : VK) (E : XK), Rm k (A.deeper (envOfC x (defScope st) s.heap.objs.size g cdv)) → pre z H → (∀ v H', post z H v H' → Q v H') →
      ∃ t, PSs (cxOf CX0 P w K mg base N x (defScope st) g cdv A out s H E).nox (defBody st) t ∧ t { nx := fun _ H' => Q .non H', rt := Q } (start N (f z)) H) :
    Has P w K mg base (k + 1) x ps (spX f pre post) := by
  obtain ⟨g, fd, a, F, c⟩ := D.ex
  refine ⟨g, fd, a, F.kp, c, okq F S ?_ ?_⟩
  · rintro vs H Q E ⟨z, rfl, _⟩; exact hl z
  · rintro cdv A out s H vs Q E hr ⟨z, rfl, hp, q⟩
    exact hbody g cdv A out s H z Q E hr hp q
end
section
variable {X : Cx} {k l : Nat} {ps : List Str} {sp : Sp} {x : Str} {p pos : Pos} {e : Expr} {es : List Expr} {ta : TA}
theorem pe_h (h : Has X.prog X.w X.K X.mg X.base k x ps sp) (hr : Rm l X.A) (ha : PA X (e :: es) ta) (hkl : k ≤ l := by decide) (hg : Gl X x := by rfl) (hdb : (x == ("__debug__" : Str)) = false := by decide)
    (he : starEach (e :: es) X.env = (false, eval e X.env) :: starEach es X.env := by rfl) (hpl : (backTo pos (starEach es X.env)).any (·.1) = false := by rfl) :
    PE X (.Call (.Name x p) (e :: es) [] pos) (tCall sp [] E0 ta) := by
  obtain ⟨f, fd, a, b, c, F⟩ := h.ex
  exact pe_q F (hr.mono hkl) hg a b c .nil pass0 ha hdb he hpl
end
/-! ### whole numbers of any size -/
section
variable {X : Cx}
def CPowX (i j : Int) : Prop := 0 ≤ j ∧ (Builtin.Int.intBits i : Int) * j ≤ 134217728
theorem op_powX : OpR X (binaryOp .Pow) (rI CPowX fun i j => .int (i ^ j.toNat)) := opI fun _ _ _ _ _ _ _ hc q => pow_int hc.1 hc.2 q
theorem op_xorN : OpR X (binaryOp .BitXor) (fun x y H Q => ∃ n m : Nat, x = .int (n : Int) ∧ y = .int (m : Int) ∧ Q (.int ((n ^^^ m : Nat) : Int)) H) := by
  intro pins s σ H x y v u Q I rx ry h
  obtain ⟨n, m, rfl, rfl, q⟩ := h
  refine op_xor pins s σ H _ _ v u Q I rx ry ⟨_, _, rfl, rfl, ?_⟩
  show Q (V.int (Builtin.bitXor (n : Int) (m : Int))) H
  rw [_root_.Bits.bitXor_pp (Int.natCast_nonneg n) (Int.natCast_nonneg m), Int.toNat_natCast, Int.toNat_natCast]
  exact q
theorem op_orN : OpR X (binaryOp .BitOr) (fun x y H Q => ∃ n m : Nat, x = .int (n : Int) ∧ y = .int (m : Int) ∧ Q (.int ((n ||| m : Nat) : Int)) H) := by
  intro pins s σ H x y v u Q I rx ry h
  obtain ⟨n, m, rfl, rfl, q⟩ := h
  refine op_or pins s σ H _ _ v u Q I rx ry ⟨_, _, rfl, rfl, ?_⟩
  show Q (V.int (Builtin.bitOr (n : Int) (m : Int))) H
  rw [bitOr_nn (Int.natCast_nonneg n) (Int.natCast_nonneg m), Int.toNat_natCast, Int.toNat_natCast]
  exact q
/-- n << k of naturals -/
theorem op_shlNN : OpR X (binaryOp .LShift) (fun x y H Q => ∃ n k : Nat, x = .int (n : Int) ∧ y = .int (k : Int) ∧ n.log2 ≤ 1000000 ∧ k ≤ 1000000 ∧ Q (.int ((n * 2 ^ k : Nat) : Int)) H) := by
  intro pins s σ H x y v u Q I rx ry h
  obtain ⟨n, k, rfl, rfl, hn, hk, q⟩ := h
  have hc : CShl (n : Int) (k : Int) := by
    refine ⟨Int.natCast_nonneg _, ?_⟩
    have e27 : (2 : Int) ^ 27 = 134217728 := by decide
    have b : Builtin.Int.intBits (n : Int) ≤ n.log2 + 1 := by
      unfold Builtin.Int.intBits
      split
      · omega
      · exact Nat.le_refl _
    rw [e27]; omega
  refine op_shlW pins s σ H _ _ v u Q I rx ry ⟨_, _, rfl, rfl, hc, ?_⟩
  have e : ((n : Int) * 2 ^ ((k : Int).toNat) : Int) = ((n * 2 ^ k : Nat) : Int) := by
    rw [Int.toNat_natCast, Int.natCast_mul, Int.natCast_pow]; rfl
  show Q (V.int ((n : Int) * 2 ^ ((k : Int).toNat))) H
  rw [e]; exact q
end
theorem bits_bl (n : Nat) : Builtin.Int.intBits (n : Int) = if n = 0 then 0 else n.log2 + 1 := by
  unfold Builtin.Int.intBits
  by_cases h : n = 0
  · subst h; rfl
  · rw [if_neg h, if_neg (by simpa using h)]; rfl
/-! ### a while with an invariant, the test known at each turn -/
theorem same_new {H : Hp} {p : Addr} {o : HO} (h : H p = none) : Same H (upd H p o) := fun b u e => by
  rw [upd_ne (ne_of_none e h)]; exact e
end Hr
namespace Hr
open PySem PySem.Spec PyProof.Rows L2 Evl
/-! ### sizes -/
def sz (a : Int) : Nat := Gf.bl a.natAbs
theorem sz_zero : sz 0 = 0 := rfl
theorem sz_le {a : Int} {n : Nat} : sz a ≤ n ↔ a.natAbs < 2 ^ n := Gf.bl_le
theorem sz_nat (n : Nat) : sz (n : Int) = Gf.bl n := rfl
theorem sz_neg (a : Int) : sz (-a) = sz a := by unfold sz; rw [Int.natAbs_neg]
theorem sz_abs (a : Int) : sz (a.natAbs : Int) = sz a := rfl
theorem bits_sz (a : Int) : Builtin.Int.intBits a = sz a := by
  unfold Builtin.Int.intBits sz Gf.bl
  by_cases h : a = 0
  · subst h; rfl
  · rw [if_neg (by simpa using h), if_neg (by omega)]
theorem sz_mono {a b : Int} (h : a.natAbs ≤ b.natAbs) : sz a ≤ sz b := sz_le.mpr (Nat.lt_of_le_of_lt h (sz_le.mp (Nat.le_refl _)))
theorem sz_mul (a b : Int) : sz (a * b) ≤ sz a + sz b := by
  rw [sz_le, Int.natAbs_mul, Nat.pow_add]
  exact Nat.mul_lt_mul'' (sz_le.mp (Nat.le_refl _)) (sz_le.mp (Nat.le_refl _))
theorem sz_add {a b : Int} {n : Nat} (ha : sz a ≤ n) (hb : sz b ≤ n) : sz (a + b) ≤ n + 1 := by
  rw [sz_le] at *
  have := Int.natAbs_add_le a b
  rw [Nat.pow_succ]; omega
theorem sz_sub {a b : Int} {n : Nat} (ha : sz a ≤ n) (hb : sz b ≤ n) : sz (a - b) ≤ n + 1 := by
  rw [Int.sub_eq_add_neg]
  exact sz_add ha (by rw [sz_neg]; exact hb)
theorem cmul_ok {a b : Int} (h : sz a + sz b ≤ 134217728) : CMulX a b := by
  unfold CMulX; rw [bits_sz, bits_sz]; omega
theorem log_sz (a : Int) : a.natAbs.log2 ≤ sz a := by
  unfold sz Gf.bl
  split
  · rename_i h; rw [h]; decide
  · omega
theorem log_bl (a : Nat) : a.log2 ≤ Gf.bl a := by
  unfold Gf.bl
  split
  · rename_i h; rw [h]; decide
  · omega
theorem cdiv_ok {a b : Int} (h : 0 < b) (hs : sz b < 9000) : CDivW a b := ⟨h, by have := log_sz b; omega⟩
/-! ### the two kinds -/
inductive Kd where
  | H | B
def ks : Kd → Str
  | .H => "hours"
  | .B => "bits"
def Ok : Kd → Int → Prop
  | .H, _ => True
  | .B, a => 0 ≤ a
theorem Ok.nn {a : Int} (h : Ok .B a) : ∃ n : Nat, a = (n : Int) := Int.eq_ofNat_of_zero_le h
theorem Ok.of_nat (k : Kd) (n : Nat) : Ok k (n : Int) := by cases k; trivial; exact Int.natCast_nonneg n
theorem Ok.of_le {k : Kd} {a : Int} (h : 0 ≤ a) : Ok k a := by cases k; trivial; exact h
def plusM : Kd → Int → Int → Int
  | .H, a, b => a + b
  | .B, a, b => ((a.toNat ^^^ b.toNat : Nat) : Int)
def minusM : Kd → Int → Int → Int
  | .H, a, b => a - b
  | .B, a, b => ((a.toNat ^^^ b.toNat : Nat) : Int)
def timesM : Kd → Int → Int → Int
  | .H, a, b => a * b
  | .B, a, b => ((Gf.mul a.toNat b.toNat : Nat) : Int)
def quoM : Kd → Int → Int → Int
  | .H, a, b => a.fdiv b
  | .B, a, b => ((Gf.quo a.toNat b.toNat : Nat) : Int)
def remM : Kd → Int → Int → Int
  | .H, a, b => if b = 0 then a else a.fmod b
  | .B, a, b => ((Gf.rem a.toNat b.toNat : Nat) : Int)
/-! ### evaluating -/
def isH : Kd → Bool
  | .H => true
  | .B => false
theorem isH_eq : ∀ k : Kd, decide (V.str (ks k) = V.str "hours") = isH k
  | .H => by decide +kernel
  | .B => by decide +kernel
theorem ev_kind {σ : L2.St} {H : Hp} {k : Kd} {ta : TE} (h : Ev ta σ H (.str (ks k))) : Ev (tOp rEq ta (tC (.str "hours"))) σ H (.bl (isH k)) :=
  ev_is (ev_op h ev_c (rv_eq rfl)) (by rw [isH_eq])
theorem et_kind {σ : L2.St} {H : Hp} {k : Kd} {ta : TE} (h : Ev ta σ H (.str (ks k))) : EvT (tTest (tOp rEq ta (tC (.str "hours")))) σ H (isH k) := et_test (ev_kind h)
theorem rv_xorN {H : Hp} {n m : Nat} : RV (fun x y H Q => ∃ n m : Nat, x = .int (n : Int) ∧ y = .int (m : Int) ∧ Q (.int ((n ^^^ m : Nat) : Int)) H) (.int (n : Int)) (.int (m : Int)) H (.int ((n ^^^ m : Nat) : Int)) :=
  fun H1 _ _ q => ⟨n, m, rfl, rfl, q H1 (Evl.Ex.refl H1)⟩
theorem rv_orN {H : Hp} {n m : Nat} : RV (fun x y H Q => ∃ n m : Nat, x = .int (n : Int) ∧ y = .int (m : Int) ∧ Q (.int ((n ||| m : Nat) : Int)) H) (.int (n : Int)) (.int (m : Int)) H (.int ((n ||| m : Nat) : Int)) :=
  fun H1 _ _ q => ⟨n, m, rfl, rfl, q H1 (Evl.Ex.refl H1)⟩
theorem rv_shlN {H : Hp} {n k : Nat} (hn : n.log2 ≤ 1000000) (hk : k ≤ 1000000) : RV (fun x y H Q => ∃ n k : Nat, x = .int (n : Int) ∧ y = .int (k : Int) ∧ n.log2 ≤ 1000000 ∧ k ≤ 1000000 ∧ Q (.int ((n * 2 ^ k : Nat) : Int)) H) (.int (n : Int)) (.int (k : Int)) H (.int ((n * 2 ^ k : Nat) : Int)) :=
  fun H1 _ _ q => ⟨n, k, rfl, rfl, hn, hk, q H1 (Evl.Ex.refl H1)⟩
theorem rv_odd {H : Hp} {n : Nat} : RV (fun x y H Q => ∃ n : Nat, x = .int (n : Int) ∧ y = .int 1 ∧ Q (.int ((n % 2 : Nat) : Int)) H) (.int (n : Int)) (.int 1) H (.int ((n % 2 : Nat) : Int)) :=
  fun H1 _ _ q => ⟨n, rfl, rfl, q H1 (Evl.Ex.refl H1)⟩
theorem rv_half {H : Hp} {n : Nat} : RV (fun x y H Q => ∃ n : Nat, x = .int (n : Int) ∧ y = .int 1 ∧ Q (.int ((n / 2 : Nat) : Int)) H) (.int (n : Int)) (.int 1) H (.int ((n / 2 : Nat) : Int)) :=
  fun H1 _ _ q => ⟨n, rfl, rfl, q H1 (Evl.Ex.refl H1)⟩
theorem et_int {σ : L2.St} {H : Hp} {K : PySem.W.Frag} {ta : TE} {i : Int} (h : Ev ta σ H (.int i)) : EvT (fun σ H Q => ta σ H fun x H' => ∃ k, TruV K x H' k ∧ Q k H') σ H (i != 0) :=
  fun H1 e _ q => h H1 e _ fun H2 e2 => ⟨_, rfl, q H2 e2⟩
theorem et_bool {σ : L2.St} {H : Hp} {K : PySem.W.Frag} {ta : TE} {b : Bool} (h : Ev ta σ H (.bl b)) : EvT (fun σ H Q => ta σ H fun x H' => ∃ k, TruV K x H' k ∧ Q k H') σ H b :=
  fun H1 e _ q => h H1 e _ fun H2 e2 => ⟨_, rfl, q H2 e2⟩
theorem ev_bits {σ : L2.St} {H : Hp} {ta : TE} {i : Int} (h : Ev ta σ H (.int i)) : Ev (tBits ta) σ H (.int (sz i : Nat)) :=
  fun H1 e Q q => h H1 e _ fun H2 e2 => ⟨i, rfl, by rw [bits_sz]; exact q H2 e2⟩
/-! ### built-ins -/
theorem rc_int {H : Hp} {i : Int} : RC (fun xs H Q => (∃ i, xs = [.int i] ∧ Q (.int i) H) ∨ ∃ k, xs = [.bl k] ∧ Q (.int (if k then 1 else 0)) H) [.int i] H (.int i) :=
  fun H1 _ _ q => .inl ⟨i, rfl, q H1 (Evl.Ex.refl H1)⟩
theorem rc_abs {H : Hp} {i : Int} : RC (fun xs H Q => ∃ i, xs = [.int i] ∧ Q (.int (if i < 0 then -i else i)) H) [.int i] H (.int (i.natAbs : Int)) :=
  fun H1 _ Q q => ⟨i, rfl, by
    have e : (if i < 0 then -i else i) = (i.natAbs : Int) := by split <;> omega
    rw [e]; exact q H1 (Evl.Ex.refl H1)⟩
theorem rc_isi {H : Hp} {K : PySem.W.Frag} {x : V} {T : String} {t : String} {b : Bool} (ht : ∀ H1, Evl.Ex H H1 → TyX K H1 x (.type t)) (hb : kitB t T = some b) : RC (rIsi K) [x, .ty T] H (.bl b) :=
  fun H1 e _ q => ⟨x, .ty T, .type t, .type T, b, rfl, .ty T, ht H1 e, kit_ty hb, q H1 (Evl.Ex.refl H1)⟩
theorem rc_isiI {H : Hp} {K : PySem.W.Frag} {i : Int} {T : String} {b : Bool} (hb : kitB "int" T = some b) : RC (rIsi K) [.int i, .ty T] H (.bl b) := rc_isi (fun _ _ => .base (.int i)) hb
theorem rc_isiS {H : Hp} {K : PySem.W.Frag} {i : Str} {T : String} {b : Bool} (hb : kitB "str" T = some b) : RC (rIsi K) [.str i, .ty T] H (.bl b) := rc_isi (fun _ _ => .base (.str i)) hb
theorem rc_isiB {H : Hp} {K : PySem.W.Frag} {i : Bool} {T : String} {b : Bool} (hb : kitB "bool" T = some b) : RC (rIsi K) [.bl i, .ty T] H (.bl b) := rc_isi (fun _ _ => .base (.bl i)) hb
theorem rc_isiN {H : Hp} {K : PySem.W.Frag} {T : String} {b : Bool} (hb : kitB "NoneType" T = some b) : RC (rIsi K) [.non, .ty T] H (.bl b) := rc_isi (fun _ _ => .base .non) hb
theorem ex_ty {H H1 : Hp} {K : PySem.W.Frag} {a : Addr} {xs : List V} (e : Evl.Ex H H1) (h : H a = some (.tup xs)) : TyX K H1 (.ref a) (.type "tuple") := .base (.tup (e _ _ h))
theorem rc_repr {H : Hp} {K : PySem.W.Frag} {x : V} {d : PyData} (h : ∀ H1, Evl.Ex H H1 → Dp K H1 x d) (h1 : neat d = true) (h2 : cost d ≤ 10000000) (h3 : d.depth ≤ 50) : RC (rRepr K) [x] H (.str d.shown) :=
  fun H1 e _ q => ⟨x, d, rfl, h H1 e, h1, h2, h3, q H1 (Evl.Ex.refl H1)⟩
theorem rc_reprI {H : Hp} {K : PySem.W.Frag} {i : Int} (h : sz i ≤ 1900) : RC (rRepr K) [.int i] H (.str (PyData.int i).shown) :=
  rc_repr (fun _ _ => .int i) (decide_eq_true (by have := log_sz i; omega)) (by show (1921 : Nat) ≤ 10000000; decide) (by show (0 : Nat) ≤ 50; decide)
theorem rc_reprB {H : Hp} {K : PySem.W.Frag} {i : Bool} : RC (rRepr K) [.bl i] H (.str (PyData.bool i).shown) :=
  rc_repr (fun _ _ => .bl i) rfl (by show (5 : Nat) ≤ 10000000; decide) (by show (0 : Nat) ≤ 50; decide)
def rDivmod : List V → Hp → VK → Prop := fun xs H Q => ∃ i j : Int, xs = [.int i, .int j] ∧ (j ≠ 0 ∧ Builtin.divisionGoesByPylong i j = false) ∧ ∀ p, H p = none → Q (.ref p) (upd H p (.tup [.int (i.fdiv j), .int (i.fmod j)]))
theorem call_divmodF {X : Cx} : CallR X (.builtin "divmod") rDivmod := by
  intro pins s σ H xs us Q I r h
  obtain ⟨i, j, rfl, ⟨h1, h2⟩, q⟩ := h
  obtain ⟨u, w', rfl, ⟨t, rfl⟩, ⟨t', rfl⟩⟩ := vals2 r
  refine divmod_int h1 ?_ (.inl h2)
  have hn : H s.heap.objs.size = none := I.hok.fresh (Nat.le_refl _)
  refine ⟨.ref s.heap.objs.size, _, ?_, rfl, q _ hn⟩
  refine I.laid (fun b o e => Heap.get?_push_of_some _ e) (Nat.le_refl _) ⟨by simp only [List.length_cons, List.length_nil]; rw [sizeLine_eq]; decide, [.int (i.fdiv j) s.toks, .int (i.fmod j) (s.toks + 1)], .cons ⟨_, rfl⟩ (.cons ⟨_, rfl⟩ .nil), ?_⟩
  exact ⟨_, Heap.get?_push_size s.heap rfl, rfl, 0, rfl⟩
theorem nolong {i j : Int} (h : sz j < 9000) : Builtin.divisionGoesByPylong i j = false := by
  have l := log_sz j
  exact PyProof.noPylong_of_log2 (by omega)
/-- a promise of a value that hangs on the arguments alone -/
def spP {α : Type} (f : α → List V) (pre : α → Prop) (res : α → V) : Sp := fun vs H Q _ => ∃ x : α, vs = f x ∧ pre x ∧ ∀ H', Evl.Ex H H' → Q (res x) H'
theorem spv_P {α : Type} {f : α → List V} {pre : α → Prop} {res : α → V} {H : Hp} (x : α) (h : pre x) : SpV (spP f pre res) (f x) H (res x) :=
  fun H1 _ Q q _ => ⟨x, rfl, h, fun H' e => q H' e⟩
section
variable {P : Program} {w : World} {K : PySem.W.Frag} {mg : Str → Option Value} {base : Heap} {k j : Nat} {x : Str} {ps N : List Str} {st : Stmt}
theorem Def.hasP {α : Type} {f : α → List V} {pre : α → Prop} {res : α → V} (D : Def K mg x st ps) (S : FnScope N ps (defScope st)) (hl : ∀ z, (f z).length = ps.length)
    (hbody : ∀ (g : Addr) (cdv : Value) (A : Around) (out : List Env) (s : Shared) (H : Hp) (z : α) (Q : VK) (E : XK), Rm k (A.deeper (envOfC x (defScope st) s.heap.objs.size g cdv)) → pre z → (∀ H', Evl.Ex H H' → Q (res z) H') →
      ∃ t, PSs (cxOf CX0 P w K mg base N x (defScope st) g cdv A out s H E).nox (defBody st) t ∧ t { nx := fun _ H' => Q .non H', rt := Q } (start N (f z)) H) :
    Has P w K mg base (k + 1) x ps (spP f pre res) := by
  obtain ⟨g, fd, a, F, c⟩ := D.ex
  refine ⟨g, fd, a, F.kp, c, okq F S ?_ ?_⟩
  · rintro vs H Q E ⟨z, rfl, _⟩; exact hl z
  · rintro cdv A out s H vs Q E hr ⟨z, rfl, hp, q⟩
    exact hbody g cdv A out s H z Q E hr hp q
end
/-! ### a new tuple made by a def; its items -/
def SpU (sp : Sp) (vs : List V) (H : Hp) (xs : List V) : Prop := ∀ H1, Evl.Ex H H1 → ∀ Q : VK, (∀ p H2, H1 p = none → Evl.Ex H1 H2 → H2 p = some (.tup xs) → Q (.ref p) H2) → ∀ E : XK, sp vs H1 Q E
theorem eu_call {σ : L2.St} {H : Hp} {sp : Sp} {dvs vs xs : List V} {E : XK} {ta : TA} (h : EvA ta σ H vs) (hs : SpU sp (vs ++ dvs) H xs) : EvU (tCall sp dvs E ta) σ H xs := fun H1 e Q q =>
  h H1 e _ fun H2 e2 => hs H2 (e.trans e2) Q (fun p H3 hp e3 h3 => q p H3 (fresh_back e2 hp) (e2.trans e3) h3) E
def spU {α : Type} (f : α → List V) (pre : α → Prop) (res : α → List V) : Sp := fun vs H Q _ => ∃ x : α, vs = f x ∧ pre x ∧ ∀ p H', H p = none → Evl.Ex H H' → H' p = some (.tup (res x)) → Q (.ref p) H'
theorem spu_U {α : Type} {f : α → List V} {pre : α → Prop} {res : α → List V} {H : Hp} (x : α) (h : pre x) : SpU (spU f pre res) (f x) H (res x) :=
  fun H1 _ Q q _ => ⟨x, rfl, h, fun p H' hp e hq => q p H' hp e hq⟩
theorem ev_ixU {σ : L2.St} {H : Hp} {K : PySem.W.Frag} {ta tb : TE} {xs : List V} {i : Int} {v : V} (h : EvU ta σ H xs) (hb : Ev tb σ H (.int i)) (ha : atI xs i = some v) : Ev (tOp (rIxT K) ta tb) σ H v :=
  fun H1 e Q q => h H1 e _ fun p H2 hp e2 h2 => hb H2 (e.trans e2) _ fun H3 e3 => ⟨p, xs, i, v, rfl, rfl, st_of (e3 _ _ h2), ha, q H3 (e2.trans e3)⟩
theorem eu_cb {σ : L2.St} {H : Hp} {r : List V → Hp → VK → Prop} {ta : TA} {vs xs : List V} (h : EvA ta σ H vs)
    (hr : ∀ H1, Evl.Ex H H1 → ∀ Q : VK, (∀ p H2, H1 p = none → Evl.Ex H1 H2 → H2 p = some (.tup xs) → Q (.ref p) H2) → r vs H1 Q) : EvU (tCB r ta) σ H xs := fun H1 e Q q =>
  h H1 e _ fun H2 e2 => hr H2 (e.trans e2) Q fun p H3 hp e3 h3 => q p H3 (fresh_back e2 hp) (e2.trans e3) h3
theorem eu_divmod {σ : L2.St} {H : Hp} {ta : TA} {i j : Int} (h : EvA ta σ H [.int i, .int j]) (hj : j ≠ 0) (hz : sz j < 9000) : EvU (tCB rDivmod ta) σ H [.int (i.fdiv j), .int (i.fmod j)] :=
  eu_cb h fun H1 _ Q q => ⟨i, j, rfl, ⟨hj, nolong hz⟩, fun p hp => q p _ hp (Evl.Ex.new hp) upd_same⟩
section
variable {P : Program} {w : World} {K : PySem.W.Frag} {mg : Str → Option Value} {base : Heap} {k j : Nat} {x : Str} {ps N : List Str} {st : Stmt}
theorem Def.hasU {α : Type} {f : α → List V} {pre : α → Prop} {res : α → List V} (D : Def K mg x st ps) (S : FnScope N ps (defScope st)) (hl : ∀ z, (f z).length = ps.length)
    (hbody : ∀ (g : Addr) (cdv : Value) (A : Around) (out : List Env) (s : Shared) (H : Hp) (z : α) (Q : VK) (E : XK), Rm k (A.deeper (envOfC x (defScope st) s.heap.objs.size g cdv)) → pre z → (∀ p H', H p = none → Evl.Ex H H' → H' p = some (.tup (res z)) → Q (.ref p) H') →
      ∃ t, PSs (cxOf CX0 P w K mg base N x (defScope st) g cdv A out s H E).nox (defBody st) t ∧ t { nx := fun _ H' => Q .non H', rt := Q } (start N (f z)) H) :
    Has P w K mg base (k + 1) x ps (spU f pre res) := by
  obtain ⟨g, fd, a, F, c⟩ := D.ex
  refine ⟨g, fd, a, F.kp, c, okq F S ?_ ?_⟩
  · rintro vs H Q E ⟨z, rfl, _⟩; exact hl z
  · rintro cdv A out s H vs Q E hr ⟨z, rfl, hp, q⟩
    exact hbody g cdv A out s H z Q E hr hp q
end
theorem or_bit {t s : Nat} (h : t.testBit s = false) : t ||| 2 ^ s = t ^^^ 2 ^ s := by
  apply Nat.eq_of_testBit_eq
  intro i
  rw [Nat.testBit_or, Nat.testBit_xor, Nat.testBit_two_pow]
  by_cases e : s = i
  · subst e; rw [h]; simp
  · simp [e]
end Hr
namespace Hr
open PySem PySem.Spec PyProof.Rows L2 Evl
/-! ### expressions whose values bear data -/
mutual
theorem dp_ex {K : PySem.W.Frag} {H H1 : Hp} (e : Evl.Ex H H1) : ∀ (d : PyData) (v : V), Dp K H v d → Dp K H1 v d
  | .none, _, h => by cases h; exact .non
  | .bool _, _, h => by cases h; exact .bl _
  | .int _, _, h => by cases h; exact .int _
  | .str _, _, h => by cases h; exact .str _
  | .list ds, _, h => by
    cases h with
    | lst a b => exact .lst (ex_l e a) (dps_ex e ds _ b)
  | .tuple ds, _, h => by
    cases h with
    | tup a b => exact .tup (ex_t e a) (dps_ex e ds _ b)
  | .dict _, _, h => by cases h
theorem dps_ex {K : PySem.W.Frag} {H H1 : Hp} (e : Evl.Ex H H1) : ∀ (ds : List PyData) (vs : List V), DpAll K H vs ds → DpAll K H1 vs ds
  | [], _, h => by cases h; exact .nil
  | d :: ds, _, h => by
    cases h with
    | cons a b => exact .cons (dp_ex e d _ a) (dps_ex e ds _ b)
end
theorem dps_at {K : PySem.W.Frag} {H : Hp} : ∀ {vs : List V} {ds : List PyData}, DpAll K H vs ds → ∀ {i : Nat} {x : V}, vs[i]? = some x → ∃ d, ds[i]? = some d ∧ Dp K H x d
  | _, _, .nil, i, x, h => by simp at h
  | _, _, .cons a b, 0, x, h => by cases (Option.some.inj h); exact ⟨_, rfl, a⟩
  | _, _, .cons a b, i + 1, x, h => dps_at b (i := i) h
theorem dps_to {K : PySem.W.Frag} {H : Hp} : ∀ {vs : List V} {ds : List PyData}, DpAll K H vs ds → ∀ {i : Nat} {d : PyData}, ds[i]? = some d → ∃ x, vs[i]? = some x ∧ Dp K H x d
  | _, _, .nil, i, x, h => by simp at h
  | _, _, .cons a b, 0, x, h => by cases (Option.some.inj h); exact ⟨_, rfl, a⟩
  | _, _, .cons a b, i + 1, x, h => dps_to b (i := i) h
theorem dps_len {K : PySem.W.Frag} {H : Hp} : ∀ {vs : List V} {ds : List PyData}, DpAll K H vs ds → vs.length = ds.length
  | _, _, .nil => rfl
  | _, _, .cons _ b => by rw [List.length_cons, List.length_cons, dps_len b]
theorem dps_ints {K : PySem.W.Frag} {H : Hp} : ∀ (ns : List Int), DpAll K H (ns.map V.int) (ns.map PyData.int)
  | [] => .nil
  | n :: ns => .cons (.int n) (dps_ints ns)
section
variable {K : PySem.W.Frag} {σ : L2.St} {H : Hp} {te ta tb : TE} {tr : TA} {d e : PyData} {ds : List PyData} {v : V}
def EvD (K : PySem.W.Frag) (te : TE) (σ : L2.St) (H : Hp) (d : PyData) : Prop := ∀ H1, Evl.Ex H H1 → ∀ Q : VK, (∀ x H2, Evl.Ex H1 H2 → Dp K H2 x d → Q x H2) → te σ H1 Q
def EvDs (K : PySem.W.Frag) (ta : TA) (σ : L2.St) (H : Hp) (ds : List PyData) : Prop := ∀ H1, Evl.Ex H H1 → ∀ Q : List V → Hp → Prop, (∀ xs H2, Evl.Ex H1 H2 → DpAll K H2 xs ds → Q xs H2) → ta σ H1 Q
theorem ed_var {i : Nat} (h : σ[i]? = some (some v)) (hd : Dp K H v d) : EvD K (tVar i) σ H d := fun H1 e _ q => ⟨v, h, q v H1 (Evl.Ex.refl H1) (dp_ex e d v hd)⟩
theorem ed_ev (h : Ev te σ H v) (hd : ∀ H1, Evl.Ex H H1 → Dp K H1 v d) : EvD K te σ H d := fun H1 e _ q => h H1 e _ fun H2 e2 => q v H2 e2 (hd H2 (e.trans e2))
theorem ed_int {i : Int} (h : Ev te σ H (.int i)) : EvD K te σ H (.int i) := ed_ev h fun _ _ => .int i
theorem ed_bl {i : Bool} (h : Ev te σ H (.bl i)) : EvD K te σ H (.bool i) := ed_ev h fun _ _ => .bl i
theorem ed_str {i : Str} (h : Ev te σ H (.str i)) : EvD K te σ H (.str i) := ed_ev h fun _ _ => .str i
theorem ed_non (h : Ev te σ H .non) : EvD K te σ H .none := ed_ev h fun _ _ => .non
theorem ed_mono {H' : Hp} (e : Evl.Ex H H') (h : EvD K te σ H d) : EvD K te σ H' d := fun H1 e1 Q q => h H1 (e.trans e1) Q q
theorem eds_nil : EvDs K tNil σ H [] := fun H1 _ _ q => q [] H1 (Evl.Ex.refl H1) .nil
theorem eds_cons (h : EvD K te σ H d) (hr : EvDs K tr σ H ds) : EvDs K (tCons te tr) σ H (d :: ds) := fun H1 e _ q =>
  h H1 e _ fun x H2 e2 hx => hr H2 (e.trans e2) _ fun xs H3 e3 hs => q _ H3 (e2.trans e3) (.cons (dp_ex e3 _ _ hx) hs)
theorem ed_lst (h : EvDs K tr σ H ds) (hl : ds.length ≤ 100000) : EvD K (tLst tr) σ H (.list ds) := fun H1 e _ q =>
  h H1 e _ fun xs H2 e2 hs => ⟨sz_of (by rw [dps_len hs]; exact hl), fun p hp => q _ _ (e2.trans (Evl.Ex.new hp)) (.lst (sq_of upd_same) (dps_ex (Evl.Ex.new hp) _ _ hs))⟩
theorem ed_tup (h : EvDs K tr σ H ds) (hl : ds.length ≤ 100000) : EvD K (tTup tr) σ H (.tuple ds) := fun H1 e _ q =>
  h H1 e _ fun xs H2 e2 hs => ⟨sz_of (by rw [dps_len hs]; exact hl), fun p hp => q _ _ (e2.trans (Evl.Ex.new hp)) (.tup (st_of upd_same) (dps_ex (Evl.Ex.new hp) _ _ hs))⟩
theorem ev_reprD (h : EvD K te σ H d) (h1 : neat d = true) (h2 : cost d ≤ 10000000) (h3 : d.depth ≤ 50) : Ev (tCB (rRepr K) (tCons te tNil)) σ H (.str d.shown) := fun H1 e _ q =>
  h H1 e _ fun x H2 e2 hx => ⟨x, d, rfl, hx, h1, h2, h3, q H2 e2⟩
theorem ev_eqD (ha : EvD K ta σ H d) (hb : EvD K tb σ H e) (h1 : SeqAt.shaped d = true) (h2 : SeqAt.shaped e = true) : Ev (tOp (rEqD K) ta tb) σ H (.bl (PyData.eqv d e)) := fun H1 x _ q =>
  ha H1 x _ fun v H2 e2 hv => hb H2 (x.trans e2) _ fun u H3 e3 hu => ⟨d, e, dp_ex e3 _ _ hv, hu, h1, h2, q H3 (e2.trans e3)⟩
theorem ev_neD (ha : EvD K ta σ H d) (hb : EvD K tb σ H e) (h1 : SeqAt.shaped d = true) (h2 : SeqAt.shaped e = true) : Ev (tOp (rNeD K) ta tb) σ H (.bl (!PyData.eqv d e)) := fun H1 x _ q =>
  ha H1 x _ fun v H2 e2 hv => hb H2 (x.trans e2) _ fun u H3 e3 hu => ⟨d, e, dp_ex e3 _ _ hv, hu, h1, h2, q H3 (e2.trans e3)⟩
theorem s_asgD {D : Ends} {i : Nat} (h : EvD K te σ H d) (k : ∀ x H1, Evl.Ex H H1 → Dp K H1 x d → D.nx (σ.set i (some x)) H1) : tAsg te (gName i) D σ H := h H (Evl.Ex.refl H) _ fun x H1 e hx => k x H1 e hx
theorem q_asgD {D : Ends} {i : Nat} {tz : TS} (h : EvD K te σ H d) (k : ∀ x H1, Evl.Ex H H1 → Dp K H1 x d → tz D (σ.set i (some x)) H1) : tSeq (tAsg te (gName i)) tz D σ H := s_asgD (D := { D with nx := tz D }) h k
theorem s_retD {D : Ends} (h : EvD K te σ H d) (k : ∀ x H1, Evl.Ex H H1 → Dp K H1 x d → D.rt x H1) : tRet te D σ H := h H (Evl.Ex.refl H) _ fun x H1 e hx => k x H1 e hx
/-- an item of a list (of a tuple) of data -/
theorem ed_ixL {i : Int} (ha : EvD K ta σ H (.list ds)) (hb : Ev tb σ H (.int i)) (hi : atI ds i = some d) : EvD K (tOp (rIxL K) ta tb) σ H d := fun H1 x _ q =>
  ha H1 x _ fun v H2 e2 hv => hb H2 (x.trans e2) _ fun H3 e3 => by
    cases dp_ex e3 _ _ hv with
    | lst a b =>
      unfold atI at hi
      obtain ⟨j, h1, h2⟩ := Option.bind_eq_some_iff.mp hi
      obtain ⟨y, h3, h4⟩ := dps_to b h2
      refine ⟨_, _, i, y, rfl, rfl, a, ?_, q y H3 (e2.trans e3) h4⟩
      unfold atI
      rw [dps_len b, h1]; exact h3
theorem ed_ixT {i : Int} (ha : EvD K ta σ H (.tuple ds)) (hb : Ev tb σ H (.int i)) (hi : atI ds i = some d) : EvD K (tOp (rIxT K) ta tb) σ H d := fun H1 x _ q =>
  ha H1 x _ fun v H2 e2 hv => hb H2 (x.trans e2) _ fun H3 e3 => by
    cases dp_ex e3 _ _ hv with
    | tup a b =>
      unfold atI at hi
      obtain ⟨j, h1, h2⟩ := Option.bind_eq_some_iff.mp hi
      obtain ⟨y, h3, h4⟩ := dps_to b h2
      refine ⟨_, _, i, y, rfl, rfl, a, ?_, q y H3 (e2.trans e3) h4⟩
      unfold atI
      rw [dps_len b, h1]; exact h3
/-- what bears an int is that int -/
theorem ev_ofI {i : Int} (h : EvD K te σ H (.int i)) : Ev te σ H (.int i) := fun H1 e _ q => h H1 e _ fun x H2 e2 hx => by cases hx; exact q H2 e2
theorem ev_ofB {i : Bool} (h : EvD K te σ H (.bool i)) : Ev te σ H (.bl i) := fun H1 e _ q => h H1 e _ fun x H2 e2 hx => by cases hx; exact q H2 e2
theorem ev_ofS {i : Str} (h : EvD K te σ H (.str i)) : Ev te σ H (.str i) := fun H1 e _ q => h H1 e _ fun x H2 e2 hx => by cases hx; exact q H2 e2
theorem ev_ofN (h : EvD K te σ H .none) : Ev te σ H .non := fun H1 e _ q => h H1 e _ fun x H2 e2 hx => by cases hx; exact q H2 e2
/-- a loop over a list of data, the heap growing; H1: the heap at its start -/
theorem s_forD {D : Ends} {g : TG} {tu : TS} (h : EvD K te σ H (.list ds)) (Pv : Hp → Nat → L2.St → Hp → Prop) (h0 : ∀ H1, Evl.Ex H H1 → Pv H1 0 σ H1) (hp : ∀ H1 i σ' H', Pv H1 i σ' H' → Evl.Ex H1 H')
    (hs : ∀ H1 i x d σ' H', Evl.Ex H H1 → ds[i]? = some d → Dp K H' x d → Pv H1 i σ' H' → g x σ' H' fun σ2 H2 => tu { D with nx := Pv H1 (i + 1), ct := Pv H1 (i + 1), bk := D.nx } σ2 H2)
    (hd : ∀ H1 σ' H', Pv H1 ds.length σ' H' → D.nx σ' H') : tFor (iList K te) g tu D σ H :=
  h H (Evl.Ex.refl H) _ fun x H1 e1 hx => by
    cases hx with
    | lst a b =>
      rename_i p xs
      refine ⟨p, rfl, ⟨xs, a⟩, for_list (xs := xs) (Pv H1) (h0 H1 e1) (fun i σ' H' _ hP => ex_l (hp _ _ _ _ hP) a) ?_ ?_⟩
      · intro i x σ' H' hi hP
        obtain ⟨d, hd1, hd2⟩ := dps_at b hi
        exact hs H1 i x d σ' H' e1 hd1 (dp_ex (hp _ _ _ _ hP) _ _ hd2) hP
      · intro σ' H' hP
        rw [dps_len b] at hP
        exact hd H1 σ' H' hP
theorem q_forD {D : Ends} {g : TG} {tu tz : TS} (h : EvD K te σ H (.list ds)) (Pv : Hp → Nat → L2.St → Hp → Prop) (h0 : ∀ H1, Evl.Ex H H1 → Pv H1 0 σ H1) (hp : ∀ H1 i σ' H', Pv H1 i σ' H' → Evl.Ex H1 H')
    (hs : ∀ H1 i x d σ' H', Evl.Ex H H1 → ds[i]? = some d → Dp K H' x d → Pv H1 i σ' H' → g x σ' H' fun σ2 H2 => tu { D with nx := Pv H1 (i + 1), ct := Pv H1 (i + 1), bk := tz D } σ2 H2)
    (hd : ∀ H1 σ' H', Pv H1 ds.length σ' H' → tz D σ' H') : tSeq (tFor (iList K te) g tu) tz D σ H := s_forD (D := { D with nx := tz D }) h Pv h0 hp hs hd
/-- a pair is taken apart -/
theorem g_pair {i j : Nat} {x : V} {d1 d2 : PyData} {R : L2.St → Hp → Prop} (hx : Dp K H x (.tuple [d1, d2])) (k : ∀ x1 x2, Dp K H x1 d1 → Dp K H x2 d2 → R ((σ.set i (some x1)).set j (some x2)) H) :
    gTup K 2 (gCons (gName i) (gCons (gName j) gNil)) x σ H R := by
  cases hx with
  | tup a b =>
    cases b with
    | cons b1 b =>
      cases b with
      | cons b2 b =>
        cases b
        exact ⟨_, _, rfl, a, rfl, _, _, rfl, _, _, rfl, rfl, k _ _ b1 b2⟩
end
end Hr
namespace Hr
/-! ### the arithmetic of both kinds -/
theorem toN (n : Nat) : ((n : Int)).toNat = n := rfl
theorem ok_plus {k : Kd} {a b : Int} (_ : Ok k a) (_ : Ok k b) : Ok k (plusM k a b) := by cases k; trivial; exact Int.natCast_nonneg _
theorem ok_minus {k : Kd} {a b : Int} (_ : Ok k a) (_ : Ok k b) : Ok k (minusM k a b) := by cases k; trivial; exact Int.natCast_nonneg _
theorem ok_times {k : Kd} {a b : Int} (_ : Ok k a) (_ : Ok k b) : Ok k (timesM k a b) := by cases k; trivial; exact Int.natCast_nonneg _
theorem ok_quo {k : Kd} {a b : Int} : Ok k (quoM k a b) := by cases k; trivial; exact Int.natCast_nonneg _
theorem ok_rem {k : Kd} {a b : Int} : Ok k (remM k a b) := by cases k; trivial; exact Int.natCast_nonneg _
theorem times_comm {k : Kd} {a b : Int} : timesM k a b = timesM k b a := by
  cases k
  · exact Int.mul_comm a b
  · show ((Gf.mul a.toNat b.toNat : Nat) : Int) = ((Gf.mul b.toNat a.toNat : Nat) : Int)
    rw [Gf.mul_comm]
theorem plus_comm {k : Kd} {a b : Int} : plusM k a b = plusM k b a := by
  cases k
  · exact Int.add_comm a b
  · show ((a.toNat ^^^ b.toNat : Nat) : Int) = ((b.toNat ^^^ a.toNat : Nat) : Int)
    rw [Nat.xor_comm]
theorem plus_minus {k : Kd} {a b : Int} (ha : Ok k a) (hb : Ok k b) : plusM k (minusM k a b) b = a := by
  cases k
  · show a - b + b = a; omega
  · obtain ⟨n, rfl⟩ := ha.nn
    obtain ⟨m, rfl⟩ := hb.nn
    show ((n ^^^ m ^^^ m : Nat) : Int) = (n : Int)
    rw [Nat.xor_assoc, Nat.xor_self, Nat.xor_zero]
theorem plus_times {k : Kd} {a b c : Int} (ha : Ok k a) (hb : Ok k b) (hc : Ok k c) : timesM k (plusM k a b) c = plusM k (timesM k a c) (timesM k b c) := by
  cases k
  · exact Int.add_mul a b c
  · obtain ⟨n, rfl⟩ := ha.nn
    obtain ⟨m, rfl⟩ := hb.nn
    obtain ⟨l, rfl⟩ := hc.nn
    show ((Gf.mul (n ^^^ m) l : Nat) : Int) = ((Gf.mul n l ^^^ Gf.mul m l : Nat) : Int)
    rw [Gf.xor_mul]
theorem sz_plus {k : Kd} {a b : Int} {n : Nat} (oa : Ok k a) (ob : Ok k b) (ha : sz a ≤ n) (hb : sz b ≤ n) : sz (plusM k a b) ≤ n + 1 := by
  cases k
  · exact sz_add ha hb
  · obtain ⟨x, rfl⟩ := oa.nn
    obtain ⟨y, rfl⟩ := ob.nn
    exact Nat.le_succ_of_le (Gf.bl_xor x y ha hb)
theorem sz_minus {k : Kd} {a b : Int} {n : Nat} (oa : Ok k a) (ob : Ok k b) (ha : sz a ≤ n) (hb : sz b ≤ n) : sz (minusM k a b) ≤ n + 1 := by
  cases k
  · exact sz_sub ha hb
  · obtain ⟨x, rfl⟩ := oa.nn
    obtain ⟨y, rfl⟩ := ob.nn
    exact Nat.le_succ_of_le (Gf.bl_xor x y ha hb)
theorem sz_times {k : Kd} {a b : Int} (oa : Ok k a) (ob : Ok k b) : sz (timesM k a b) ≤ sz a + sz b := by
  cases k
  · exact sz_mul a b
  · obtain ⟨x, rfl⟩ := oa.nn
    obtain ⟨y, rfl⟩ := ob.nn
    exact Gf.bl_mul_le x y
theorem fdiv_abs {a b : Int} (hb : 0 < b) : (a.fdiv b).natAbs ≤ a.natAbs := by
  rw [Int.fdiv_eq_ediv_of_nonneg a (by omega)]
  rcases Int.le_total 0 a with h | h
  · have h1 := Int.ediv_nonneg h (Int.le_of_lt hb)
    have h2 := Int.ediv_le_self b h
    omega
  · have h1 : a / b ≤ 0 := Int.ediv_nonpos_of_nonpos_of_neg h (by omega)
    have h2 : a ≤ a / b := by
      have e := Int.emod_nonneg a (show b ≠ 0 by omega)
      have e2 := Int.mul_ediv_add_emod a b
      rcases Int.lt_or_le (a / b) a with z | z
      · have l := Int.emod_lt_of_pos a hb
        have : a / b + 1 ≤ a := by omega
        have m := Int.mul_le_mul_of_nonneg_left this (Int.le_of_lt hb)
        rw [Int.mul_add, Int.mul_one] at m
        have m2 : b * a ≤ a := by
          have := Int.mul_le_mul_of_nonpos_right (show (1 : Int) ≤ b by omega) h
          rw [Int.one_mul] at this; exact this
        omega
      · exact z
    omega
theorem Gf.bl_quo {n d : Nat} (hd : 0 < d) : Gf.bl (Gf.quo n d) ≤ Gf.bl n := by
  by_cases h : Gf.bl d ≤ Gf.bl n
  · obtain ⟨a, b⟩ := Gf.rem_spec (n := n) hd
    rcases Nat.eq_zero_or_pos (Gf.quo n d) with z | z
    · rw [z, Gf.bl_zero]; omega
    · have m := Gf.bl_mul hd z
      have e : Gf.mul d (Gf.quo n d) = n ^^^ Gf.rem n d := by
        conv => rhs; lhs; rw [b]
        rw [Nat.xor_assoc, Nat.xor_self, Nat.xor_zero]
      have l := Gf.bl_xor n (Gf.rem n d) (k := Gf.bl n) (Nat.le_refl _) (by omega)
      rw [← e, m] at l
      have := Gf.bl_pos hd; omega
  · rw [Gf.quo_end (by omega), Gf.bl_zero]; omega
theorem sz_quo {k : Kd} {a b : Int} (oa : Ok k a) (hb : 0 < b) : sz (quoM k a b) ≤ sz a := by
  cases k
  · exact sz_mono (fdiv_abs hb)
  · obtain ⟨x, rfl⟩ := oa.nn
    obtain ⟨y, rfl⟩ := Int.eq_ofNat_of_zero_le (Int.le_of_lt hb)
    exact Gf.bl_quo (by omega)
theorem sz_rem {k : Kd} {a b : Int} (oa : Ok k a) (hb : 0 < b) : sz (remM k a b) ≤ sz b := by
  cases k
  · show sz (if b = 0 then a else a.fmod b) ≤ sz b
    rw [if_neg (by omega), Int.fmod_eq_emod_of_nonneg a (by omega)]
    have h1 := Int.emod_nonneg a (show b ≠ 0 by omega)
    have h2 := Int.emod_lt_of_pos a hb
    exact sz_mono (by omega)
  · obtain ⟨x, rfl⟩ := oa.nn
    obtain ⟨y, rfl⟩ := Int.eq_ofNat_of_zero_le (Int.le_of_lt hb)
    exact Nat.le_of_lt (Gf.rem_spec (n := x) (d := y) (by omega)).1
/-- the quotient and the rest come to the number -/
theorem quo_rem {k : Kd} {a b : Int} (oa : Ok k a) (hb : 0 < b) : plusM k (timesM k b (quoM k a b)) (remM k a b) = a := by
  cases k
  · show b * a.fdiv b + (if b = 0 then a else a.fmod b) = a
    rw [if_neg (by omega), Int.fmod_eq_emod_of_nonneg a (by omega), Int.fdiv_eq_ediv_of_nonneg a (by omega)]
    exact Int.mul_ediv_add_emod a b
  · obtain ⟨x, rfl⟩ := oa.nn
    obtain ⟨y, rfl⟩ := Int.eq_ofNat_of_zero_le (Int.le_of_lt hb)
    have := (Gf.rem_spec (n := x) (d := y) (by omega)).2
    show ((Gf.mul y (Gf.quo x y) ^^^ Gf.rem x y : Nat) : Int) = (x : Int)
    rw [← this]
theorem rem_zero {k : Kd} {a : Int} (oa : Ok k a) : remM k a 0 = a := by
  cases k
  · show (if (0 : Int) = 0 then a else a.fmod 0) = a; rw [if_pos rfl]
  · obtain ⟨x, rfl⟩ := oa.nn
    show ((Gf.rem x 0 : Nat) : Int) = x; rw [Gf.rem_zero]
theorem remH_zero {a b : Int} : remM .H a b = 0 ↔ b ∣ a := by
  show (if b = 0 then a else a.fmod b) = 0 ↔ b ∣ a
  by_cases h : b = 0
  · subst h; rw [if_pos rfl, Int.zero_dvd]
  · rw [if_neg h]; exact Int.dvd_iff_fmod_eq_zero.symm
theorem rem_abs {k : Kd} {a b : Int} (ob : Ok k b) : remM k a (b.natAbs : Int) = 0 ↔ remM k a b = 0 := by
  cases k
  · rw [remH_zero, remH_zero, Int.natAbs_dvd]
  · obtain ⟨y, rfl⟩ := ob.nn
    rfl
theorem rem_negH {a b : Int} : remM .H a (0 - b) = 0 ↔ remM .H a b = 0 := by
  rw [remH_zero, remH_zero, Int.zero_sub, Int.neg_dvd]
end Hr
namespace Hr
open PySem PySem.Spec PyProof.Rows L2 Evl
def topS (i : Nat) : Stmt := PySem.Challenge.pw_hourrings_k07_whole_sums_and_products.main.body.getD i (.Pass ⟨0, 0, 0, 0⟩)
abbrev s_is_kind : Stmt := topS 6
abbrev N_is_kind : List Str := ["value"]
abbrev P_is_kind : List Str := ["value"]
theorem sc_is_kind : FnScope N_is_kind P_is_kind (defScope s_is_kind) := ⟨rfl, rfl, rfl, by decide +kernel, rfl, by decide +kernel, by decide +kernel⟩
abbrev s_is_whole : Stmt := topS 7
abbrev N_is_whole : List Str := ["value"]
abbrev P_is_whole : List Str := ["value"]
theorem sc_is_whole : FnScope N_is_whole P_is_whole (defScope s_is_whole) := ⟨rfl, rfl, rfl, by decide +kernel, rfl, by decide +kernel, by decide +kernel⟩
abbrev s_is_count : Stmt := topS 8
abbrev N_is_count : List Str := ["value"]
abbrev P_is_count : List Str := ["value"]
theorem sc_is_count : FnScope N_is_count P_is_count (defScope s_is_count) := ⟨rfl, rfl, rfl, by decide +kernel, rfl, by decide +kernel, by decide +kernel⟩
abbrev s_is_number : Stmt := topS 9
abbrev N_is_number : List Str := ["kind", "value"]
abbrev P_is_number : List Str := ["kind", "value"]
theorem sc_is_number : FnScope N_is_number P_is_number (defScope s_is_number) := ⟨rfl, rfl, rfl, by decide +kernel, rfl, by decide +kernel, by decide +kernel⟩
abbrev s_check_kind : Stmt := topS 10
abbrev N_check_kind : List Str := ["kind"]
abbrev P_check_kind : List Str := ["kind"]
theorem sc_check_kind : FnScope N_check_kind P_check_kind (defScope s_check_kind) := ⟨rfl, rfl, rfl, by decide +kernel, rfl, by decide +kernel, by decide +kernel⟩
abbrev s_check_number : Stmt := topS 11
abbrev N_check_number : List Str := ["kind", "value"]
abbrev P_check_number : List Str := ["kind", "value"]
theorem sc_check_number : FnScope N_check_number P_check_number (defScope s_check_number) := ⟨rfl, rfl, rfl, by decide +kernel, rfl, by decide +kernel, by decide +kernel⟩
abbrev s_check_count : Stmt := topS 12
abbrev N_check_count : List Str := ["value"]
abbrev P_check_count : List Str := ["value"]
theorem sc_check_count : FnScope N_check_count P_check_count (defScope s_check_count) := ⟨rfl, rfl, rfl, by decide +kernel, rfl, by decide +kernel, by decide +kernel⟩
abbrev s_check_two : Stmt := topS 20
abbrev N_check_two : List Str := ["kind", "one", "other"]
abbrev P_check_two : List Str := ["kind", "one", "other"]
theorem sc_check_two : FnScope N_check_two P_check_two (defScope s_check_two) := ⟨rfl, rfl, rfl, by decide +kernel, rfl, by decide +kernel, by decide +kernel⟩
abbrev s_added : Stmt := topS 21
abbrev N_added : List Str := ["kind", "one", "other"]
abbrev P_added : List Str := ["kind", "one", "other"]
theorem sc_added : FnScope N_added P_added (defScope s_added) := ⟨rfl, rfl, rfl, by decide +kernel, rfl, by decide +kernel, by decide +kernel⟩
abbrev s_less : Stmt := topS 22
abbrev N_less : List Str := ["kind", "one", "other"]
abbrev P_less : List Str := ["kind", "one", "other"]
theorem sc_less : FnScope N_less P_less (defScope s_less) := ⟨rfl, rfl, rfl, by decide +kernel, rfl, by decide +kernel, by decide +kernel⟩
abbrev s_product : Stmt := topS 23
abbrev N_product : List Str := ["kind", "one", "other"]
abbrev P_product : List Str := ["kind", "one", "other"]
theorem sc_product : FnScope N_product P_product (defScope s_product) := ⟨rfl, rfl, rfl, by decide +kernel, rfl, by decide +kernel, by decide +kernel⟩
abbrev s_quotient : Stmt := topS 24
abbrev N_quotient : List Str := ["kind", "one", "by"]
abbrev P_quotient : List Str := ["kind", "one", "by"]
theorem sc_quotient : FnScope N_quotient P_quotient (defScope s_quotient) := ⟨rfl, rfl, rfl, by decide +kernel, rfl, by decide +kernel, by decide +kernel⟩
abbrev s_rest : Stmt := topS 25
abbrev N_rest : List Str := ["kind", "one", "by"]
abbrev P_rest : List Str := ["kind", "one", "by"]
theorem sc_rest : FnScope N_rest P_rest (defScope s_rest) := ⟨rfl, rfl, rfl, by decide +kernel, rfl, by decide +kernel, by decide +kernel⟩
abbrev s_is_multiple : Stmt := topS 26
abbrev N_is_multiple : List Str := ["kind", "one", "by"]
abbrev P_is_multiple : List Str := ["kind", "one", "by"]
theorem sc_is_multiple : FnScope N_is_multiple P_is_multiple (defScope s_is_multiple) := ⟨rfl, rfl, rfl, by decide +kernel, rfl, by decide +kernel, by decide +kernel⟩
abbrev s_law_hash : Stmt := topS 28
abbrev N_law_hash : List Str := ["_law_seed", "_law_index", "_law_mixed"]
abbrev P_law_hash : List Str := ["_law_seed", "_law_index"]
theorem sc_law_hash : FnScope N_law_hash P_law_hash (defScope s_law_hash) := ⟨rfl, rfl, rfl, by decide +kernel, rfl, by decide +kernel, by decide +kernel⟩
abbrev s_law_random : Stmt := topS 29
abbrev N_law_random : List Str := ["_law_generator_here", "_law_bound", "_law_drawn", "_law_turn"]
abbrev P_law_random : List Str := ["_law_generator_here", "_law_bound"]
theorem sc_law_random : FnScope N_law_random P_law_random (defScope s_law_random) := ⟨rfl, rfl, rfl, by decide +kernel, rfl, by decide +kernel, by decide +kernel⟩
abbrev s_law_cell : Stmt := topS 30
abbrev N_law_cell : List Str := ["_law_script", "_law_index"]
abbrev P_law_cell : List Str := ["_law_script", "_law_index"]
theorem sc_law_cell : FnScope N_law_cell P_law_cell (defScope s_law_cell) := ⟨rfl, rfl, rfl, by decide +kernel, rfl, by decide +kernel, by decide +kernel⟩
abbrev s_law_generator : Stmt := topS 31
abbrev N_law_generator : List Str := ["_law_script", "_law_index", "_law_seed"]
abbrev P_law_generator : List Str := ["_law_script", "_law_index"]
theorem sc_law_generator : FnScope N_law_generator P_law_generator (defScope s_law_generator) := ⟨rfl, rfl, rfl, by decide +kernel, rfl, by decide +kernel, by decide +kernel⟩
abbrev s_law_add : Stmt := topS 33
abbrev N_law_add : List Str := ["_law_kind_there", "_law_one", "_law_other"]
abbrev P_law_add : List Str := ["_law_kind_there", "_law_one", "_law_other"]
theorem sc_law_add : FnScope N_law_add P_law_add (defScope s_law_add) := ⟨rfl, rfl, rfl, by decide +kernel, rfl, by decide +kernel, by decide +kernel⟩
abbrev s_law_less : Stmt := topS 34
abbrev N_law_less : List Str := ["_law_kind_there", "_law_one", "_law_other"]
abbrev P_law_less : List Str := ["_law_kind_there", "_law_one", "_law_other"]
theorem sc_law_less : FnScope N_law_less P_law_less (defScope s_law_less) := ⟨rfl, rfl, rfl, by decide +kernel, rfl, by decide +kernel, by decide +kernel⟩
abbrev s_law_times : Stmt := topS 35
abbrev N_law_times : List Str := ["_law_kind_there", "_law_one", "_law_other", "_law_found", "_law_place"]
abbrev P_law_times : List Str := ["_law_kind_there", "_law_one", "_law_other"]
theorem sc_law_times : FnScope N_law_times P_law_times (defScope s_law_times) := ⟨rfl, rfl, rfl, by decide +kernel, rfl, by decide +kernel, by decide +kernel⟩
abbrev s_law_rest : Stmt := topS 36
abbrev N_law_rest : List Str := ["_law_kind_there", "_law_number_here", "_law_by", "_law_size"]
abbrev P_law_rest : List Str := ["_law_kind_there", "_law_number_here", "_law_by"]
theorem sc_law_rest : FnScope N_law_rest P_law_rest (defScope s_law_rest) := ⟨rfl, rfl, rfl, by decide +kernel, rfl, by decide +kernel, by decide +kernel⟩
abbrev s_law_is_multiple : Stmt := topS 37
abbrev N_law_is_multiple : List Str := ["_law_kind_there", "_law_number_here", "_law_by"]
abbrev P_law_is_multiple : List Str := ["_law_kind_there", "_law_number_here", "_law_by"]
theorem sc_law_is_multiple : FnScope N_law_is_multiple P_law_is_multiple (defScope s_law_is_multiple) := ⟨rfl, rfl, rfl, by decide +kernel, rfl, by decide +kernel, by decide +kernel⟩
abbrev s_law_number : Stmt := topS 38
abbrev N_law_number : List Str := ["_law_generator_here", "_law_kind_there", "_law_most"]
abbrev P_law_number : List Str := ["_law_generator_here", "_law_kind_there", "_law_most"]
theorem sc_law_number : FnScope N_law_number P_law_number (defScope s_law_number) := ⟨rfl, rfl, rfl, by decide +kernel, rfl, by decide +kernel, by decide +kernel⟩
abbrev s_law_right : Stmt := topS 39
abbrev N_law_right : List Str := ["_law_generator_here", "_law_kind_there", "_law_most", "_law_one", "_law_other", "_law_third", "_law_due", "_law_both", "_law_by", "_law_pair", "_law_number_here", "_law_mate"]
abbrev P_law_right : List Str := ["_law_generator_here", "_law_kind_there", "_law_most"]
theorem sc_law_right : FnScope N_law_right P_law_right (defScope s_law_right) := ⟨rfl, rfl, rfl, by decide +kernel, rfl, by decide +kernel, by decide +kernel⟩
abbrev s_law : Stmt := topS 40
abbrev N_law : List Str := ["_law_script", "_law_index", "_law_generator_here", "_law_kind_there", "_law_most", "_law_told"]
abbrev P_law : List Str := ["_law_script"]
theorem sc_law : FnScope N_law P_law (defScope s_law) := ⟨rfl, rfl, rfl, by decide +kernel, rfl, by decide +kernel, by decide +kernel⟩

abbrev s_plus : Stmt := topS 13
abbrev N_plus : List Str := ["kind", "one", "other"]
abbrev P_plus : List Str := ["kind", "one", "other"]
theorem sc_plus : FnScope N_plus P_plus (defScope s_plus) := ⟨rfl, rfl, rfl, by decide +kernel, rfl, by decide +kernel, by decide +kernel⟩
abbrev s_minus : Stmt := topS 14
abbrev N_minus : List Str := ["kind", "one", "other"]
abbrev P_minus : List Str := ["kind", "one", "other"]
theorem sc_minus : FnScope N_minus P_minus (defScope s_minus) := ⟨rfl, rfl, rfl, by decide +kernel, rfl, by decide +kernel, by decide +kernel⟩
abbrev s_times : Stmt := topS 15
abbrev N_times : List Str := ["kind", "one", "other", "total"]
abbrev P_times : List Str := ["kind", "one", "other"]
theorem sc_times : FnScope N_times P_times (defScope s_times) := ⟨rfl, rfl, rfl, by decide +kernel, rfl, by decide +kernel, by decide +kernel⟩
abbrev s_split_by : Stmt := topS 16
abbrev N_split_by : List Str := ["kind", "one", "by", "quotient", "size", "shift"]
abbrev P_split_by : List Str := ["kind", "one", "by"]
theorem sc_split_by : FnScope N_split_by P_split_by (defScope s_split_by) := ⟨rfl, rfl, rfl, by decide +kernel, rfl, by decide +kernel, by decide +kernel⟩
abbrev s_rest_by : Stmt := topS 17
abbrev N_rest_by : List Str := ["kind", "one", "by"]
abbrev P_rest_by : List Str := ["kind", "one", "by"]
theorem sc_rest_by : FnScope N_rest_by P_rest_by (defScope s_rest_by) := ⟨rfl, rfl, rfl, by decide +kernel, rfl, by decide +kernel, by decide +kernel⟩
abbrev s_has_factor : Stmt := topS 18
abbrev N_has_factor : List Str := ["kind", "one", "by"]
abbrev P_has_factor : List Str := ["kind", "one", "by"]
theorem sc_has_factor : FnScope N_has_factor P_has_factor (defScope s_has_factor) := ⟨rfl, rfl, rfl, by decide +kernel, rfl, by decide +kernel, by decide +kernel⟩

section
variable {P : Program} {w : World} {K : PySem.W.Frag} {mg : Str → Option Value} {base : Heap}
abbrev a3 (x : Kd × Int × Int) : List V := [.str (ks x.1), .int x.2.1, .int x.2.2]
abbrev spPlus : Sp := spP a3 (fun x => Ok x.1 x.2.1 ∧ Ok x.1 x.2.2) (fun x => .int (plusM x.1 x.2.1 x.2.2))
theorem d_plus (D : Def K mg "plus" s_plus P_plus) : Has P w K mg base 1 "plus" P_plus spPlus := by
  refine D.hasP sc_plus (fun _ => rfl) (fun g cdv A out s H z Q E hr hp q => ?_)
  obtain ⟨k, a, b⟩ := z
  refine ⟨_, (pss_cons (ps_if (pt_cmpR op_eq (pv 0) pe_str (nomark _)) (pss_one (ps_ret (pe_op op_add (pv 1) (pv 2)))) pss_nil)
      (pss_one (ps_ret (pe_op op_xorN (pv 1) (pv 2))))), ?_⟩
  refine q_when (et_kind (ev_var rfl)) (fun h H1 e1 => ?_) (fun h H1 e1 => ?_)
  · cases k <;> cases h
    exact s_ret (ev_op (ev_var rfl) (ev_var rfl) rv_I0) fun H2 e2 => q H2 (e1.trans e2)
  · cases k <;> cases h
    obtain ⟨n, rfl⟩ := hp.1.nn
    obtain ⟨m, rfl⟩ := hp.2.nn
    exact s_ret (ev_op (ev_var rfl) (ev_var rfl) rv_xorN) fun H2 e2 => q H2 (e1.trans e2)
abbrev spMinus : Sp := spP a3 (fun x => Ok x.1 x.2.1 ∧ Ok x.1 x.2.2) (fun x => .int (minusM x.1 x.2.1 x.2.2))
theorem d_minus (D : Def K mg "minus" s_minus P_minus) : Has P w K mg base 1 "minus" P_minus spMinus := by
  refine D.hasP sc_minus (fun _ => rfl) (fun g cdv A out s H z Q E hr hp q => ?_)
  obtain ⟨k, a, b⟩ := z
  refine ⟨_, (pss_cons (ps_if (pt_cmpR op_eq (pv 0) pe_str (nomark _)) (pss_one (ps_ret (pe_op op_sub (pv 1) (pv 2)))) pss_nil)
      (pss_one (ps_ret (pe_op op_xorN (pv 1) (pv 2))))), ?_⟩
  refine q_when (et_kind (ev_var rfl)) (fun h H1 e1 => ?_) (fun h H1 e1 => ?_)
  · cases k <;> cases h
    exact s_ret (ev_op (ev_var rfl) (ev_var rfl) rv_I0) fun H2 e2 => q H2 (e1.trans e2)
  · cases k <;> cases h
    obtain ⟨n, rfl⟩ := hp.1.nn
    obtain ⟨m, rfl⟩ := hp.2.nn
    exact s_ret (ev_op (ev_var rfl) (ev_var rfl) rv_xorN) fun H2 e2 => q H2 (e1.trans e2)
abbrev spTimes : Sp := spP a3 (fun x => (Ok x.1 x.2.1 ∧ Ok x.1 x.2.2) ∧ sz x.2.1 ≤ 10000 ∧ sz x.2.2 ≤ 10000) (fun x => .int (timesM x.1 x.2.1 x.2.2))
theorem d_times (D : Def K mg "times" s_times P_times) : Has P w K mg base 1 "times" P_times spTimes := by
  refine D.hasP sc_times (fun _ => rfl) (fun g cdv A out s H z Q E hr hp q => ?_)
  obtain ⟨k, a, b⟩ := z
  obtain ⟨hp, ha, hb⟩ := hp
  refine ⟨_, (pss_cons (ps_if (pt_cmpR op_eq (pv 0) pe_str (nomark _)) (pss_one (ps_ret (pe_op op_mulX (pv 1) (pv 2)))) pss_nil)
      (pss_cons (ps_set (i := 3) sc_times.nd rfl (.inl rfl) pe_int)
      (pss_cons (ps_while PassesOwn.never (pt_cmpR op_gt (pv 2) pe_int (nomark _)) (pss_cons (ps_if (pt_truth (pe_op op_odd (pv 2) pe_int) (by intro _; rfl)) (pss_one (ps_set (i := 3) sc_times.nd rfl (.inl rfl) (pe_op op_xorN (pv 3) (pv 1)))) pss_nil)
      (pss_cons (ps_set (i := 1) sc_times.nd rfl (.inl rfl) (pe_op op_shlNN (pv 1) pe_int))
      (pss_one (ps_set (i := 2) sc_times.nd rfl (.inl rfl) (pe_op op_halfN (pv 2) pe_int))))))
      (pss_one (ps_ret (pv 3)))))), ?_⟩
  refine q_when (et_kind (ev_var rfl)) (fun h H1 e1 => ?_) (fun h H1 e1 => ?_)
  · cases k <;> cases h
    exact s_ret (ev_op (ev_var rfl) (ev_var rfl) (rv_I (cmul_ok (by have : sz a ≤ 10000 := ha; have : sz b ≤ 10000 := hb; omega)))) fun H2 e2 => q H2 (e1.trans e2)
  · cases k <;> cases h
    obtain ⟨n, rfl⟩ := hp.1.nn
    obtain ⟨m, rfl⟩ := hp.2.nn
    refine q_asg ev_c fun H2 e2 => ?_
    refine q_while (fun i σ' H' => ∃ x y t : Nat, i = y ∧ σ' = [some (.str (ks .B)), some (.int (x : Int)), some (.int (y : Int)), some (.int (t : Int))] ∧ Evl.Ex H H' ∧ t ^^^ Gf.mul x y = Gf.mul n m ∧ Gf.bl x + Gf.bl y ≤ 20000)
      m ⟨n, m, 0, rfl, rfl, e1.trans e2, Nat.zero_xor _, by have : Gf.bl n ≤ 10000 := ha; have : Gf.bl m ≤ 10000 := hb; omega⟩ ?_
    rintro i σ' H' ⟨x, y, t, rfl, rfl, e, hm, hl⟩
    refine ⟨_, et_test (ev_op (ev_var rfl) ev_c rv_I0), fun hy H3 e3 => ?_, fun hy H3 e3 => ?_⟩
    · have hy' : 0 < i := by have := of_decide_eq_true hy; omega
      refine ⟨_, fun _ _ h => h, ?_⟩
      have l1 := log_bl x
      have b1 := Gf.bl_double x
      have b2 := Gf.bl_half hy'
      by_cases ho : i % 2 = 1
      · refine q_when (et_int (ev_op (ev_var rfl) ev_c rv_odd)) (fun _ H4 e4 => ?_) (fun hn => by rw [ho] at hn; cases hn)
        refine s_asg (ev_op (ev_var rfl) (ev_var rfl) rv_xorN) fun H5 e5 => ?_
        refine q_asg (ev_op (ev_var rfl) ev_c (rv_shlN (k := 1) (by omega) (by omega))) fun H6 e6 => ?_
        refine s_asg (ev_op (ev_var rfl) ev_c rv_half) fun H7 e7 => ?_
        refine ⟨i / 2, by omega, x * 2 ^ 1, i / 2, t ^^^ x, rfl, rfl, (((((e.trans e3).trans e4).trans e5).trans e6).trans e7), ?_, ?_⟩
        · rw [← hm, Gf.mul_odd ho, Nat.pow_one, Nat.mul_comm x 2, Nat.xor_assoc]
        · rw [Nat.pow_one, Nat.mul_comm x 2]; omega
      · refine q_when (et_int (ev_op (ev_var rfl) ev_c rv_odd)) (fun hn => by rw [show i % 2 = 0 by omega] at hn; cases hn) (fun _ H4 e4 => ?_)
        refine q_asg (ev_op (ev_var rfl) ev_c (rv_shlN (k := 1) (by omega) (by omega))) fun H6 e6 => ?_
        refine s_asg (ev_op (ev_var rfl) ev_c rv_half) fun H7 e7 => ?_
        refine ⟨i / 2, by omega, x * 2 ^ 1, i / 2, t, rfl, rfl, ((((e.trans e3).trans e4).trans e6).trans e7), ?_, ?_⟩
        · rw [← hm, Gf.mul_even ho, Nat.pow_one, Nat.mul_comm x 2]
        · rw [Nat.pow_one, Nat.mul_comm x 2]; omega
    · have hy' : i = 0 := by have := of_decide_eq_false hy; omega
      subst hy'
      rw [Gf.mul_zero, Nat.xor_zero] at hm
      subst hm
      exact s_ret (ev_var rfl) fun H4 e4 => q H4 ((e.trans e3).trans e4)
/-- what may be divided: no 0; of bits by a word above 0 -/
def Dv (k : Kd) (b : Int) : Prop := b ≠ 0 ∧ Ok k b
abbrev spSplit : Sp := spU a3 (fun x => (Ok x.1 x.2.1 ∧ Dv x.1 x.2.2) ∧ sz x.2.1 ≤ 8000 ∧ sz x.2.2 ≤ 8000) (fun x => [.int (quoM x.1 x.2.1 x.2.2), .int (remM x.1 x.2.1 x.2.2)])
theorem d_split_by (D : Def K mg "split_by" s_split_by P_split_by) (z_divmod : mg "divmod" = none) : Has P w K mg base 1 "split_by" P_split_by spSplit := by
  refine D.hasU sc_split_by (fun _ => rfl) (fun g cdv A out s H z Q E hr hp q => ?_)
  obtain ⟨k, a, b⟩ := z
  obtain ⟨⟨pa, pb0, pb⟩, ha, hb⟩ := hp
  refine ⟨_, (pss_cons (ps_if (pt_cmpR op_eq (pv 0) pe_str (nomark _)) (pss_one (ps_ret (pe_callB call_divmodF (by rfl) z_divmod (by decide +kernel) (pa_cons (pv 1) (pa_cons (pv 2) pa_nil))))) pss_nil)
      (pss_cons (ps_set (i := 3) sc_split_by.nd rfl (.inl rfl) pe_int)
      (pss_cons (ps_set (i := 4) sc_split_by.nd rfl (.inl rfl) (pe_bits (pv 2)))
      (pss_cons (ps_while PassesOwn.never (pt_cmpR op_ge (pe_bits (pv 1)) (pv 4) (nomark _)) (pss_cons (ps_set (i := 5) sc_split_by.nd rfl (.inl rfl) (pe_op op_sub (pe_bits (pv 1)) (pv 4)))
      (pss_cons (ps_set (i := 3) sc_split_by.nd rfl (.inl rfl) (pe_op op_orN (pv 3) (pe_op op_shlNN pe_int (pv 5))))
      (pss_one (ps_set (i := 1) sc_split_by.nd rfl (.inl rfl) (pe_op op_xorN (pv 1) (pe_op op_shlNN (pv 2) (pv 5))))))))
      (pss_one (ps_ret (pe_tup (pa_cons (pv 3) (pa_cons (pv 1) pa_nil))))))))), ?_⟩
  refine q_when (et_kind (ev_var rfl)) (fun h H1 e1 => ?_) (fun h H1 e1 => ?_)
  · cases k <;> cases h
    have hb' : sz b ≤ 8000 := hb
    refine s_retU (eu_divmod (ea_cons (ev_var rfl) (ea_cons (ev_var rfl) ea_nil)) pb0 (by omega)) fun p H2 hp e2 h2 => q p H2 (fresh_back e1 hp) (e1.trans e2) ?_
    rw [h2]
    show _ = some (HO.tup [.int (a.fdiv b), .int (if b = 0 then a else a.fmod b)])
    rw [if_neg pb0]
  · cases k <;> cases h
    obtain ⟨n, rfl⟩ := pa.nn
    obtain ⟨m, rfl⟩ := pb.nn
    have hm : 0 < m := by have : (m : Int) ≠ 0 := pb0; omega
    have hn : Gf.bl n ≤ 8000 := ha
    have hm8 : Gf.bl m ≤ 8000 := hb
    refine q_asg ev_c fun H2 e2 => ?_
    refine q_asg (ev_bits (ev_var rfl)) fun H3 e3 => ?_
    refine q_while (fun i σ' H' => ∃ (t : Nat) (y : Option V), σ' = [some (.str (ks .B)), some (.int (i : Int)), some (.int (m : Int)), some (.int (t : Int)), some (.int (Gf.bl m : Nat)), y] ∧ Evl.Ex H H' ∧ t ^^^ Gf.quo i m = Gf.quo n m ∧ Gf.rem i m = Gf.rem n m ∧ (∀ j, j + Gf.bl m ≤ Gf.bl i → t.testBit j = false) ∧ Gf.bl i ≤ 8000)
      n ⟨0, none, rfl, (e1.trans e2).trans e3, Nat.zero_xor _, rfl, fun j _ => Nat.zero_testBit j, hn⟩ ?_
    rintro i σ' H' ⟨t, y, rfl, e, hq, hr', hbit, hl⟩
    refine ⟨_, et_test (ev_op (ev_bits (ev_var rfl)) (ev_var rfl) rv_I0), fun hy H3 e3 => ?_, fun hy H3 e3 => ?_⟩
    · have hy' : Gf.bl m ≤ Gf.bl i := by have := of_decide_eq_true hy; rw [sz_nat] at this; omega
      have hs : (((sz (i : Int) : Nat) : Int) - ((Gf.bl m : Nat) : Int)) = ((Gf.bl i - Gf.bl m : Nat) : Int) := by rw [sz_nat]; omega
      have l1 := log_bl m
      refine ⟨_, fun _ _ h => h, ?_⟩
      refine q_asg (ev_is (ev_op (ev_bits (ev_var rfl)) (ev_var rfl) rv_I0) (by rw [hs])) fun H4 e4 => ?_
      refine q_asg (ev_op (ev_var rfl) (ev_op (ev_is ev_c (show V.int 1 = V.int ((1 : Nat) : Int) from rfl)) (ev_var rfl) (rv_shlN (k := Gf.bl i - Gf.bl m) (by decide) (by omega))) rv_orN) fun H5 e5 => ?_
      refine s_asg (ev_op (ev_var rfl) (ev_op (ev_var rfl) (ev_var rfl) (rv_shlN (n := m) (k := Gf.bl i - Gf.bl m) (by omega) (by omega))) rv_xorN) fun H6 e6 => ?_
      have less := Gf.step_less hm hy'
      have lt := Gf.step_lt hm hy'
      have ble : Gf.bl (i ^^^ m * 2 ^ (Gf.bl i - Gf.bl m)) ≤ Gf.bl i - 1 := Gf.bl_le.mpr lt
      have bp := Gf.bl_pos hm
      refine ⟨i ^^^ m * 2 ^ (Gf.bl i - Gf.bl m), less, t ||| 1 * 2 ^ (Gf.bl i - Gf.bl m), _, rfl, (((e.trans e3).trans e4).trans e5).trans e6, ?_, ?_, ?_, by omega⟩
      · rw [Nat.one_mul, or_bit (hbit _ (by omega)), ← hq, Gf.quo_go hm hy', Nat.xor_assoc]
      · rw [← hr', Gf.rem_go hm hy']
      · intro j hj
        rw [Nat.one_mul, Nat.testBit_or, hbit j (by omega), Nat.testBit_two_pow]
        simp only [Bool.false_or, decide_eq_false_iff_not]
        omega
    · have hy' : Gf.bl i < Gf.bl m := by have := of_decide_eq_false hy; rw [sz_nat] at this; omega
      rw [Gf.quo_end hy', Nat.xor_zero] at hq
      rw [Gf.rem_end hy'] at hr'
      subst hq hr'
      exact s_retU (eu_tup (ea_cons (ev_var rfl) (ea_cons (ev_var rfl) ea_nil)) (by show 2 ≤ 100000; decide)) fun p H4 hp e4 h4 => q p H4 (fresh_back (e.trans e3) hp) ((e.trans e3).trans e4) h4
abbrev spRest : Sp := spP a3 (fun x => (Ok x.1 x.2.1 ∧ Ok x.1 x.2.2) ∧ sz x.2.1 ≤ 8000 ∧ sz x.2.2 ≤ 8000) (fun x => .int (remM x.1 x.2.1 x.2.2))
theorem d_rest_by (D : Def K mg "rest_by" s_rest_by P_rest_by) (h_split_by : Has P w K mg base 1 "split_by" P_split_by spSplit) : Has P w K mg base 2 "rest_by" P_rest_by spRest := by
  refine D.hasP sc_rest_by (fun _ => rfl) (fun g cdv A out s H z Q E hr hp q => ?_)
  obtain ⟨k, a, b⟩ := z
  obtain ⟨⟨pa, pb⟩, ha, hb⟩ := hp
  refine ⟨_, (pss_cons (ps_if (pt_cmpR op_eq (pv 2) pe_int (nomark _)) (pss_one (ps_ret (pv 1))) pss_nil)
      (pss_one (ps_ret (pe_ix ix_tup (pe_h h_split_by hr (pa_cons (pv 0) (pa_cons (pv 1) (pa_cons (pv 2) pa_nil)))) pe_int (fun _ _ => rfl))))), ?_⟩
  refine q_when (et_test (ev_op (ev_var rfl) ev_c (rv_eq rfl))) (fun h H1 e1 => ?_) (fun h H1 e1 => ?_)
  · have hb0 : b = 0 := V.int.inj (of_decide_eq_true h)
    subst hb0
    refine s_ret (ev_is (ev_var rfl) ?_) fun H2 e2 => q H2 (e1.trans e2)
    cases k
    · show V.int a = V.int (if (0 : Int) = 0 then a else a.fmod 0); rw [if_pos rfl]
    · obtain ⟨n, rfl⟩ := pa.nn
      show V.int (n : Int) = V.int ((Gf.rem n 0 : Nat) : Int); rw [Gf.rem_zero]
  · have hb0 : b ≠ 0 := fun z => by subst z; exact absurd (decide_eq_true rfl) (by rw [h]; decide)
    exact s_ret (ev_ixU (eu_call (ea_cons (ev_var rfl) (ea_cons (ev_var rfl) (ea_cons (ev_var rfl) ea_nil))) (spu_U (k, a, b) ⟨⟨pa, hb0, pb⟩, ha, hb⟩)) ev_c rfl) fun H2 e2 => q H2 (e1.trans e2)
abbrev spFactor : Sp := spP a3 (fun x => (Ok x.1 x.2.1 ∧ Ok x.1 x.2.2) ∧ sz x.2.1 ≤ 8000 ∧ sz x.2.2 ≤ 8000) (fun x => .bl (decide (remM x.1 x.2.1 x.2.2 = 0)))
theorem d_has_factor (D : Def K mg "has_factor" s_has_factor P_has_factor) (h_rest_by : Has P w K mg base 2 "rest_by" P_rest_by spRest) : Has P w K mg base 3 "has_factor" P_has_factor spFactor := by
  refine D.hasP sc_has_factor (fun _ => rfl) (fun g cdv A out s H z Q E hr hp q => ?_)
  obtain ⟨k, a, b⟩ := z
  refine ⟨_, (pss_one (ps_ret (pe_cmpR op_eq (pe_h h_rest_by hr (pa_cons (pv 0) (pa_cons (pv 1) (pa_cons (pv 2) pa_nil)))) pe_int (nomark _)))), ?_⟩
  refine s_ret (ev_is (ev_op (ev_call (ea_cons (ev_var rfl) (ea_cons (ev_var rfl) (ea_cons (ev_var rfl) ea_nil))) (spv_P (k, a, b) hp)) ev_c (rv_eq rfl)) ?_) fun H2 e2 => q H2 e2
  simp only [V.int.injEq]
/-! ### what is asked of arguments -/
abbrev spKind : Sp := spP (fun k : Kd => [.str (ks k)]) (fun _ => True) (fun _ => .bl true)
theorem in_kinds : ∀ k : Kd, inV (.str (ks k)) [.str "hours", .str "bits"] = true
  | .H => by decide +kernel
  | .B => by decide +kernel
theorem d_is_kind {kd : Addr} (D : Def K mg "is_kind" s_is_kind P_is_kind) (z_isinstance : mg "isinstance" = none) (z_str : mg "str" = none) (m_KINDS : mg "KINDS" = some (.ref kd)) (hK : ∀ H, SqT K H kd [.str "hours", .str "bits"]) : Has P w K mg base 1 "is_kind" P_is_kind spKind := by
  refine D.hasP sc_is_kind (fun _ => rfl) (fun g cdv A out s H k Q E hr hp q => ?_)
  refine ⟨_, (pss_one (ps_ret (pe_and (pe_callB call_isi (by rfl) z_isinstance (by decide +kernel) (pa_cons (pv 0) (pa_cons (pe_bltn (v := .ty "str") (by rfl) z_str (by decide +kernel) rfl) pa_nil))) (pe_one (pe_cmpR op_in_seq (pv 0) (pe_glob (v := .ref _) (by rfl) m_KINDS rfl) (by rfl)))))), ?_⟩
  refine s_ret (ev_is (ev_andV (ev_cb (ea_cons (ev_var rfl) (ea_cons ev_c ea_nil)) (rc_isiS (b := true) (by decide +kernel))) fun _ => ev_op (ev_var rfl) ev_c (rv_isT (hK _) rfl (by decide +kernel))) ?_) fun H2 e2 => q H2 e2
  rw [in_kinds]; rfl
abbrev spWhole : Sp := spP (fun i : Int => [.int i]) (fun _ => True) (fun _ => .bl true)
theorem d_is_whole (D : Def K mg "is_whole" s_is_whole P_is_whole) (z_isinstance : mg "isinstance" = none) (z_int : mg "int" = none) (z_bool : mg "bool" = none) : Has P w K mg base 1 "is_whole" P_is_whole spWhole := by
  refine D.hasP sc_is_whole (fun _ => rfl) (fun g cdv A out s H i Q E hr hp q => ?_)
  refine ⟨_, (pss_one (ps_ret (pe_and (pe_callB call_isi (by rfl) z_isinstance (by decide +kernel) (pa_cons (pv 0) (pa_cons (pe_bltn (v := .ty "int") (by rfl) z_int (by decide +kernel) rfl) pa_nil))) (pe_one (pe_not (pe_callB call_isi (by rfl) z_isinstance (by decide +kernel) (pa_cons (pv 0) (pa_cons (pe_bltn (v := .ty "bool") (by rfl) z_bool (by decide +kernel) rfl) pa_nil)))))))), ?_⟩
  exact s_ret (ev_andV (b := true) (ev_cb (ea_cons (ev_var rfl) (ea_cons ev_c ea_nil)) (rc_isiI (b := true) (by decide +kernel))) fun _ => ev_notV (ev_cb (ea_cons (ev_var rfl) (ea_cons ev_c ea_nil)) (rc_isiI (b := false) (by decide +kernel)))) fun H2 e2 => q H2 e2
abbrev spCount : Sp := spP (fun i : Int => [.int i]) (fun _ => True) (fun i => .bl (decide (0 ≤ i)))
theorem d_is_count (D : Def K mg "is_count" s_is_count P_is_count) (h_is_whole : Has P w K mg base 1 "is_whole" P_is_whole spWhole) : Has P w K mg base 2 "is_count" P_is_count spCount := by
  refine D.hasP sc_is_count (fun _ => rfl) (fun g cdv A out s H i Q E hr hp q => ?_)
  refine ⟨_, (pss_one (ps_ret (pe_and (pe_h h_is_whole hr (pa_cons (pv 0) pa_nil)) (pe_one (pe_cmpR op_ge (pv 0) pe_int (nomark _)))))), ?_⟩
  exact s_ret (ev_is (ev_andV (ev_call (ea_cons (ev_var rfl) ea_nil) (spv_P i trivial)) fun _ => ev_op (ev_var rfl) ev_c rv_I0) (by rw [Bool.true_and])) fun H2 e2 => q H2 e2
abbrev spNumber : Sp := spP (fun x : Kd × Int => [.str (ks x.1), .int x.2]) (fun x => Ok x.1 x.2) (fun _ => .bl true)
theorem d_is_number (D : Def K mg "is_number" s_is_number P_is_number) (h_is_whole : Has P w K mg base 1 "is_whole" P_is_whole spWhole) : Has P w K mg base 2 "is_number" P_is_number spNumber := by
  refine D.hasP sc_is_number (fun _ => rfl) (fun g cdv A out s H z Q E hr hp q => ?_)
  obtain ⟨k, i⟩ := z
  refine ⟨_, (pss_one (ps_ret (pe_and (pe_h h_is_whole hr (pa_cons (pv 1) pa_nil)) (pe_one (pe_or (pe_cmpR op_eq (pv 0) pe_str (nomark _)) (pe_one (pe_cmpR op_ge (pv 1) pe_int (nomark _)))))))), ?_⟩
  refine s_ret (ev_is (ev_andV (ev_call (ea_cons (ev_var rfl) ea_nil) (spv_P i trivial)) fun _ => ev_orV (ev_kind (ev_var rfl)) fun _ => ev_op (ev_var rfl) ev_c rv_I0) ?_) fun H2 e2 => q H2 e2
  cases k
  · rfl
  · have h : 0 ≤ i := hp
    show V.bl (true && (false || decide (0 ≤ i))) = V.bl true
    rw [decide_eq_true h]; rfl
abbrev spCheckKind : Sp := spP (fun k : Kd => [.str (ks k)]) (fun _ => True) (fun _ => .non)
theorem d_check_kind (D : Def K mg "check_kind" s_check_kind P_check_kind) (h_is_kind : Has P w K mg base 1 "is_kind" P_is_kind spKind) : Has P w K mg base 2 "check_kind" P_check_kind spCheckKind := by
  refine D.hasP sc_check_kind (fun _ => rfl) (fun g cdv A out s H k Q E hr hp q => ?_)
  refine ⟨_, (pss_one (ps_if (pt_not (pt_val (pe_h h_is_kind hr (pa_cons (pv 0) pa_nil)))) (pss_one ps_never) pss_nil)), ?_⟩
  exact s_when (et_not (et_B (ev_call (ea_cons (ev_var rfl) ea_nil) (spv_P k trivial)))) (fun h => by cases h) fun _ H1 e1 => q H1 e1
abbrev spCheckNumber : Sp := spP (fun x : Kd × Int => [.str (ks x.1), .int x.2]) (fun x => Ok x.1 x.2) (fun _ => .non)
theorem d_check_number (D : Def K mg "check_number" s_check_number P_check_number) (h_is_number : Has P w K mg base 2 "is_number" P_is_number spNumber) : Has P w K mg base 3 "check_number" P_check_number spCheckNumber := by
  refine D.hasP sc_check_number (fun _ => rfl) (fun g cdv A out s H z Q E hr hp q => ?_)
  obtain ⟨k, i⟩ := z
  refine ⟨_, (pss_one (ps_if (pt_not (pt_val (pe_h h_is_number hr (pa_cons (pv 0) (pa_cons (pv 1) pa_nil))))) (pss_one ps_never) pss_nil)), ?_⟩
  exact s_when (et_not (et_B (ev_call (ea_cons (ev_var rfl) (ea_cons (ev_var rfl) ea_nil)) (spv_P (k, i) hp)))) (fun h => by cases h) fun _ H1 e1 => q H1 e1
abbrev spCheckCount : Sp := spP (fun i : Int => [.int i]) (fun i => 0 ≤ i) (fun _ => .non)
theorem d_check_count (D : Def K mg "check_count" s_check_count P_check_count) (h_is_count : Has P w K mg base 2 "is_count" P_is_count spCount) : Has P w K mg base 3 "check_count" P_check_count spCheckCount := by
  refine D.hasP sc_check_count (fun _ => rfl) (fun g cdv A out s H i Q E hr hp q => ?_)
  refine ⟨_, (pss_one (ps_if (pt_not (pt_val (pe_h h_is_count hr (pa_cons (pv 0) pa_nil)))) (pss_one ps_never) pss_nil)), ?_⟩
  refine s_when (et_not (et_B (ev_call (ea_cons (ev_var rfl) ea_nil) (spv_P i trivial)))) (fun h => ?_) fun _ H1 e1 => q H1 e1
  rw [decide_eq_true hp] at h; cases h
abbrev Num2 (x : Kd × Int × Int) : Prop := Ok x.1 x.2.1 ∧ Ok x.1 x.2.2
abbrev spCheckTwo : Sp := spP a3 Num2 (fun _ => .non)
theorem d_check_two (D : Def K mg "check_two" s_check_two P_check_two) (h_check_kind : Has P w K mg base 2 "check_kind" P_check_kind spCheckKind) (h_check_number : Has P w K mg base 3 "check_number" P_check_number spCheckNumber) : Has P w K mg base 4 "check_two" P_check_two spCheckTwo := by
  refine D.hasP sc_check_two (fun _ => rfl) (fun g cdv A out s H z Q E hr hp q => ?_)
  obtain ⟨k, a, b⟩ := z
  refine ⟨_, (pss_cons (ps_expr (pe_h h_check_kind hr (pa_cons (pv 0) pa_nil)))
      (pss_cons (ps_expr (pe_h h_check_number hr (pa_cons (pv 0) (pa_cons (pv 1) pa_nil))))
      (pss_one (ps_expr (pe_h h_check_number hr (pa_cons (pv 0) (pa_cons (pv 2) pa_nil))))))), ?_⟩
  refine q_drop (ev_call (ea_cons (ev_var rfl) ea_nil) (spv_P k trivial)) fun H1 e1 => ?_
  refine q_drop (ev_call (ea_cons (ev_var rfl) (ea_cons (ev_var rfl) ea_nil)) (spv_P (k, a) hp.1)) fun H2 e2 => ?_
  exact s_drop (ev_call (ea_cons (ev_var rfl) (ea_cons (ev_var rfl) ea_nil)) (spv_P (k, b) hp.2)) fun H3 e3 => q H3 ((e1.trans e2).trans e3)
/-! ### the functions of numbers -/
theorem two_then {H : Hp} {σ : L2.St} {k : Kd} {a b : Int} {ta tb tc : TE} (h1 : Ev ta σ H (.str (ks k))) (h2 : Ev tb σ H (.int a)) (h3 : Ev tc σ H (.int b)) : EvA (tCons ta (tCons tb (tCons tc tNil))) σ H (a3 (k, a, b)) := ea_cons h1 (ea_cons h2 (ea_cons h3 ea_nil))
theorem d_added (D : Def K mg "added" s_added P_added) (h_check_two : Has P w K mg base 4 "check_two" P_check_two spCheckTwo) (h_plus : Has P w K mg base 1 "plus" P_plus spPlus) : Has P w K mg base 5 "added" P_added spPlus := by
  refine D.hasP sc_added (fun _ => rfl) (fun g cdv A out s H z Q E hr hp q => ?_)
  obtain ⟨k, a, b⟩ := z
  refine ⟨_, (pss_cons (ps_expr (pe_h h_check_two hr (pa_cons (pv 0) (pa_cons (pv 1) (pa_cons (pv 2) pa_nil)))))
      (pss_one (ps_ret (pe_h h_plus hr (pa_cons (pv 0) (pa_cons (pv 1) (pa_cons (pv 2) pa_nil))))))), ?_⟩
  refine q_drop (ev_call (two_then (ev_var rfl) (ev_var rfl) (ev_var rfl)) (spv_P (k, a, b) hp)) fun H1 e1 => ?_
  exact s_ret (ev_call (two_then (ev_var rfl) (ev_var rfl) (ev_var rfl)) (spv_P (k, a, b) hp)) fun H2 e2 => q H2 (e1.trans e2)
theorem d_less (D : Def K mg "less" s_less P_less) (h_check_two : Has P w K mg base 4 "check_two" P_check_two spCheckTwo) (h_minus : Has P w K mg base 1 "minus" P_minus spMinus) : Has P w K mg base 5 "less" P_less spMinus := by
  refine D.hasP sc_less (fun _ => rfl) (fun g cdv A out s H z Q E hr hp q => ?_)
  obtain ⟨k, a, b⟩ := z
  refine ⟨_, (pss_cons (ps_expr (pe_h h_check_two hr (pa_cons (pv 0) (pa_cons (pv 1) (pa_cons (pv 2) pa_nil)))))
      (pss_one (ps_ret (pe_h h_minus hr (pa_cons (pv 0) (pa_cons (pv 1) (pa_cons (pv 2) pa_nil))))))), ?_⟩
  refine q_drop (ev_call (two_then (ev_var rfl) (ev_var rfl) (ev_var rfl)) (spv_P (k, a, b) hp)) fun H1 e1 => ?_
  exact s_ret (ev_call (two_then (ev_var rfl) (ev_var rfl) (ev_var rfl)) (spv_P (k, a, b) hp)) fun H2 e2 => q H2 (e1.trans e2)
theorem d_product (D : Def K mg "product" s_product P_product) (h_check_two : Has P w K mg base 4 "check_two" P_check_two spCheckTwo) (h_times : Has P w K mg base 1 "times" P_times spTimes) : Has P w K mg base 5 "product" P_product spTimes := by
  refine D.hasP sc_product (fun _ => rfl) (fun g cdv A out s H z Q E hr hp q => ?_)
  obtain ⟨k, a, b⟩ := z
  refine ⟨_, (pss_cons (ps_expr (pe_h h_check_two hr (pa_cons (pv 0) (pa_cons (pv 1) (pa_cons (pv 2) pa_nil)))))
      (pss_one (ps_ret (pe_h h_times hr (pa_cons (pv 0) (pa_cons (pv 1) (pa_cons (pv 2) pa_nil))))))), ?_⟩
  refine q_drop (ev_call (two_then (ev_var rfl) (ev_var rfl) (ev_var rfl)) (spv_P (k, a, b) hp.1)) fun H1 e1 => ?_
  exact s_ret (ev_call (two_then (ev_var rfl) (ev_var rfl) (ev_var rfl)) (spv_P (k, a, b) hp)) fun H2 e2 => q H2 (e1.trans e2)
abbrev spQuotient : Sp := spP a3 (fun x => (Ok x.1 x.2.1 ∧ 0 < x.2.2) ∧ sz x.2.1 ≤ 8000 ∧ sz x.2.2 ≤ 8000) (fun x => .int (quoM x.1 x.2.1 x.2.2))
theorem d_quotient (D : Def K mg "quotient" s_quotient P_quotient) (h_check_two : Has P w K mg base 4 "check_two" P_check_two spCheckTwo) (h_split_by : Has P w K mg base 1 "split_by" P_split_by spSplit) : Has P w K mg base 5 "quotient" P_quotient spQuotient := by
  refine D.hasP sc_quotient (fun _ => rfl) (fun g cdv A out s H z Q E hr hp q => ?_)
  obtain ⟨k, a, b⟩ := z
  obtain ⟨⟨pa, pb⟩, ha, hb⟩ := hp
  have pb' : 0 < b := pb
  have ob : Ok k b := Ok.of_le (by omega)
  refine ⟨_, (pss_cons (ps_expr (pe_h h_check_two hr (pa_cons (pv 0) (pa_cons (pv 1) (pa_cons (pv 2) pa_nil)))))
      (pss_cons (ps_if (pt_cmpR op_le (pv 2) pe_int (nomark _)) (pss_one ps_never) pss_nil)
      (pss_one (ps_ret (pe_ix ix_tup (pe_h h_split_by hr (pa_cons (pv 0) (pa_cons (pv 1) (pa_cons (pv 2) pa_nil)))) pe_int (fun _ _ => rfl)))))), ?_⟩
  refine q_drop (ev_call (two_then (ev_var rfl) (ev_var rfl) (ev_var rfl)) (spv_P (k, a, b) ⟨pa, ob⟩)) fun H1 e1 => ?_
  refine q_when (et_test (ev_op (ev_var rfl) ev_c rv_I0)) (fun h => absurd (of_decide_eq_true h) (by show ¬ b ≤ 0; omega)) (fun h H2 e2 => ?_)
  exact s_ret (ev_ixU (eu_call (two_then (ev_var rfl) (ev_var rfl) (ev_var rfl)) (spu_U (k, a, b) ⟨⟨pa, by show b ≠ 0; omega, ob⟩, ha, hb⟩)) ev_c rfl) fun H3 e3 => q H3 ((e1.trans e2).trans e3)
abbrev spRestN : Sp := spP a3 (fun x => (Ok x.1 x.2.1 ∧ 0 ≤ x.2.2) ∧ sz x.2.1 ≤ 8000 ∧ sz x.2.2 ≤ 8000) (fun x => .int (remM x.1 x.2.1 x.2.2))
theorem d_rest (D : Def K mg "rest" s_rest P_rest) (h_check_kind : Has P w K mg base 2 "check_kind" P_check_kind spCheckKind) (h_check_number : Has P w K mg base 3 "check_number" P_check_number spCheckNumber)
    (h_check_count : Has P w K mg base 3 "check_count" P_check_count spCheckCount) (h_rest_by : Has P w K mg base 2 "rest_by" P_rest_by spRest) : Has P w K mg base 4 "rest" P_rest spRestN := by
  refine D.hasP sc_rest (fun _ => rfl) (fun g cdv A out s H z Q E hr hp q => ?_)
  obtain ⟨k, a, b⟩ := z
  obtain ⟨⟨pa, pb⟩, ha, hb⟩ := hp
  refine ⟨_, (pss_cons (ps_expr (pe_h h_check_kind hr (pa_cons (pv 0) pa_nil)))
      (pss_cons (ps_expr (pe_h h_check_number hr (pa_cons (pv 0) (pa_cons (pv 1) pa_nil))))
      (pss_cons (ps_expr (pe_h h_check_count hr (pa_cons (pv 2) pa_nil)))
      (pss_one (ps_ret (pe_h h_rest_by hr (pa_cons (pv 0) (pa_cons (pv 1) (pa_cons (pv 2) pa_nil))))))))), ?_⟩
  refine q_drop (ev_call (ea_cons (ev_var rfl) ea_nil) (spv_P k trivial)) fun H1 e1 => ?_
  refine q_drop (ev_call (ea_cons (ev_var rfl) (ea_cons (ev_var rfl) ea_nil)) (spv_P (k, a) pa)) fun H2 e2 => ?_
  refine q_drop (ev_call (ea_cons (ev_var rfl) ea_nil) (spv_P b pb)) fun H3 e3 => ?_
  exact s_ret (ev_call (two_then (ev_var rfl) (ev_var rfl) (ev_var rfl)) (spv_P (k, a, b) ⟨⟨pa, Ok.of_le pb⟩, ha, hb⟩)) fun H4 e4 => q H4 (((e1.trans e2).trans e3).trans e4)
theorem d_is_multiple (D : Def K mg "is_multiple" s_is_multiple P_is_multiple) (h_check_two : Has P w K mg base 4 "check_two" P_check_two spCheckTwo) (h_has_factor : Has P w K mg base 3 "has_factor" P_has_factor spFactor) : Has P w K mg base 5 "is_multiple" P_is_multiple spFactor := by
  refine D.hasP sc_is_multiple (fun _ => rfl) (fun g cdv A out s H z Q E hr hp q => ?_)
  obtain ⟨k, a, b⟩ := z
  refine ⟨_, (pss_cons (ps_expr (pe_h h_check_two hr (pa_cons (pv 0) (pa_cons (pv 1) (pa_cons (pv 2) pa_nil)))))
      (pss_one (ps_ret (pe_h h_has_factor hr (pa_cons (pv 0) (pa_cons (pv 1) (pa_cons (pv 2) pa_nil))))))), ?_⟩
  refine q_drop (ev_call (two_then (ev_var rfl) (ev_var rfl) (ev_var rfl)) (spv_P (k, a, b) hp.1)) fun H1 e1 => ?_
  exact s_ret (ev_call (two_then (ev_var rfl) (ev_var rfl) (ev_var rfl)) (spv_P (k, a, b) hp)) fun H2 e2 => q H2 (e1.trans e2)
/-! ### the same as values -/
section
variable {H : Hp} {k : Kd} {a b : Int}
theorem c_plus (k : Kd) (a b : Int) (ha : Ok k a) (hb : Ok k b) : SpV spPlus (a3 (k, a, b)) H (.int (plusM k a b)) := spv_P (k, a, b) ⟨ha, hb⟩
theorem c_minus (k : Kd) (a b : Int) (ha : Ok k a) (hb : Ok k b) : SpV spMinus (a3 (k, a, b)) H (.int (minusM k a b)) := spv_P (k, a, b) ⟨ha, hb⟩
theorem c_times (k : Kd) (a b : Int) (ha : Ok k a) (hb : Ok k b) (za : sz a ≤ 10000) (zb : sz b ≤ 10000) : SpV spTimes (a3 (k, a, b)) H (.int (timesM k a b)) := spv_P (k, a, b) ⟨⟨ha, hb⟩, za, zb⟩
theorem c_quot (k : Kd) (a b : Int) (ha : Ok k a) (hb : 0 < b) (za : sz a ≤ 8000) (zb : sz b ≤ 8000) : SpV spQuotient (a3 (k, a, b)) H (.int (quoM k a b)) := spv_P (k, a, b) ⟨⟨ha, hb⟩, za, zb⟩
theorem c_rest (k : Kd) (a b : Int) (ha : Ok k a) (hb : 0 ≤ b) (za : sz a ≤ 8000) (zb : sz b ≤ 8000) : SpV spRestN (a3 (k, a, b)) H (.int (remM k a b)) := spv_P (k, a, b) ⟨⟨ha, hb⟩, za, zb⟩
theorem c_factor (k : Kd) (a b : Int) (ha : Ok k a) (hb : Ok k b) (za : sz a ≤ 8000) (zb : sz b ≤ 8000) : SpV spFactor (a3 (k, a, b)) H (.bl (decide (remM k a b = 0))) := spv_P (k, a, b) ⟨⟨ha, hb⟩, za, zb⟩
end
end
end Hr
namespace Hr
open PySem PySem.Spec PyProof.Rows L2 Evl
section
variable {P : Program} {w : World} {K : PySem.W.Frag} {mg : Str → Option Value} {base : Heap}
/-! ### the law's own helpers: drawn numbers -/
def hashM (a b : Int) : Int :=
  let m := (a * 1140671 + 27644437 * b * b + 131 * b + 19) % 2147483629
  let m := (m * m + 62089 * b + 32416187) % 2147483587
  (m * 48271) % 2147483647
theorem hashM_b (a b : Int) : 0 ≤ hashM a b ∧ hashM a b < 2147483647 := ⟨Int.emod_nonneg _ (by decide), Int.emod_lt_of_pos _ (by decide)⟩
theorem sz_lt31 {a : Int} (h0 : 0 ≤ a) (h : a < 2147483648) : sz a ≤ 31 := by rw [sz_le]; omega
theorem sz_c {a : Int} {n : Nat} (h : a.natAbs < 2 ^ n) : sz a ≤ n := sz_le.mpr h
abbrev spHash : Sp := spP (fun x : Int × Int => [.int x.1, .int x.2]) (fun x => sz x.1 ≤ 1000 ∧ sz x.2 ≤ 1000) (fun x => .int (hashM x.1 x.2))
theorem d_law_hash (D : Def K mg "_law_hash" s_law_hash P_law_hash) (z_int : mg "int" = none) : Has P w K mg base 1 "_law_hash" P_law_hash spHash := by
  refine D.hasP sc_law_hash (fun _ => rfl) (fun g cdv A out s H z Q E hr hp q => ?_)
  obtain ⟨a, b⟩ := z
  obtain ⟨ha, hb⟩ := hp
  have ha' : sz a ≤ 1000 := ha
  have hb' : sz b ≤ 1000 := hb
  have c1 : sz 1140671 ≤ 21 := by decide +kernel
  have c2 : sz 27644437 ≤ 25 := by decide +kernel
  have c3 : sz 131 ≤ 8 := by decide +kernel
  have c4 : sz 62089 ≤ 16 := by decide +kernel
  have c5 : sz 48271 ≤ 16 := by decide +kernel
  have m1 := sz_mul 27644437 b
  refine ⟨_, (pss_cons (ps_set (i := 2) sc_law_hash.nd rfl (.inl rfl) (pe_op op_mod (pe_callTy call_int1 (by rfl) z_int (by decide +kernel) (pa_cons (pe_op op_add (pe_op op_add (pe_op op_add (pe_op op_mulX (pv 0) pe_int) (pe_op op_mulX (pe_op op_mulX pe_int (pv 1)) (pv 1))) (pe_op op_mulX pe_int (pv 1))) pe_int) pa_nil)) pe_int))
      (pss_cons (ps_set (i := 2) sc_law_hash.nd rfl (.inl rfl) (pe_op op_mod (pe_callTy call_int1 (by rfl) z_int (by decide +kernel) (pa_cons (pe_op op_add (pe_op op_add (pe_op op_mulX (pv 2) (pv 2)) (pe_op op_mulX pe_int (pv 1))) pe_int) pa_nil)) pe_int))
      (pss_one (ps_ret (pe_op op_mod (pe_callTy call_int1 (by rfl) z_int (by decide +kernel) (pa_cons (pe_op op_mulX (pv 2) pe_int) pa_nil)) pe_int))))), ?_⟩
  refine q_asg (ev_op (ev_cb (ea_cons (ev_op (ev_op (ev_op (ev_op (ev_var (v := .int a) rfl) ev_c (rv_I (cmul_ok (by omega)))) (ev_op (ev_op ev_c (ev_var (v := .int b) rfl) (rv_I (cmul_ok (by omega)))) (ev_var (v := .int b) rfl) (rv_I (cmul_ok (by omega)))) rv_I0) (ev_op ev_c (ev_var (v := .int b) rfl) (rv_I (cmul_ok (by omega)))) rv_I0) ev_c rv_I0) ea_nil) rc_int) ev_c (rv_I (by show (0 : Int) < 2147483629; decide))) fun H1 e1 => ?_
  have s1 := sz_lt31 (Int.emod_nonneg (a * 1140671 + 27644437 * b * b + 131 * b + 19) (by decide : (2147483629 : Int) ≠ 0)) (Int.lt_trans (Int.emod_lt_of_pos _ (by decide : (0 : Int) < 2147483629)) (by decide))
  refine q_asg (ev_op (ev_cb (ea_cons (ev_op (ev_op (ev_op (ev_var (v := .int ((a * 1140671 + 27644437 * b * b + 131 * b + 19) % 2147483629)) rfl) (ev_var (v := .int ((a * 1140671 + 27644437 * b * b + 131 * b + 19) % 2147483629)) rfl) (rv_I (cmul_ok (by omega)))) (ev_op ev_c (ev_var (v := .int b) rfl) (rv_I (cmul_ok (by omega)))) rv_I0) ev_c rv_I0) ea_nil) rc_int) ev_c (rv_I (by show (0 : Int) < 2147483587; decide))) fun H2 e2 => ?_
  have s2 := sz_lt31 (Int.emod_nonneg ((a * 1140671 + 27644437 * b * b + 131 * b + 19) % 2147483629 * ((a * 1140671 + 27644437 * b * b + 131 * b + 19) % 2147483629) + 62089 * b + 32416187) (by decide : (2147483587 : Int) ≠ 0)) (Int.lt_trans (Int.emod_lt_of_pos _ (by decide : (0 : Int) < 2147483587)) (by decide))
  exact s_ret (ev_op (ev_cb (ea_cons (ev_op (ev_var (v := .int ((((a * 1140671 + 27644437 * b * b + 131 * b + 19) % 2147483629) * ((a * 1140671 + 27644437 * b * b + 131 * b + 19) % 2147483629) + 62089 * b + 32416187) % 2147483587)) rfl) ev_c (rv_I (cmul_ok (by omega)))) ea_nil) rc_int) ev_c (rv_I (by show (0 : Int) < 2147483647; decide))) fun H3 e3 => q H3 ((e1.trans e2).trans e3)
/-- the generator's list stands at a, with at most n turns behind it -/
structure GenAt (H : Hp) (a : Addr) (n : Nat) : Prop where
  ex : ∃ s0 s1 s2 : Int, H a = some (.lst [.int s0, .int s1, .int s2]) ∧ 0 ≤ s0 ∧ sz s0 ≤ 2100 ∧ 0 ≤ s1 ∧ s1 < 2147483647 ∧ 0 ≤ s2 ∧ s2 ≤ n
/-- all but what stands at a is as it was -/
def Keep (a : Addr) (H H' : Hp) : Prop := ∀ c o, H c = some o → c ≠ a → H' c = some o
theorem Keep.refl (a : Addr) (H : Hp) : Keep a H H := fun _ _ h _ => h
theorem Keep.trans {a : Addr} {H H1 H2 : Hp} (x : Keep a H H1) (y : Keep a H1 H2) : Keep a H H2 := fun c o h n => y c o (x c o h n) n
theorem Keep.of {a : Addr} {H H' : Hp} (e : Evl.Ex H H') : Keep a H H' := fun c o h _ => e c o h
theorem Keep.put {a : Addr} {H : Hp} {o : HO} : Keep a H (upd H a o) := fun c u h n => by rw [upd_ne n]; exact h
theorem GenAt.ex_of {H H' : Hp} {a : Addr} {n : Nat} (g : GenAt H a n) (e : Evl.Ex H H') : GenAt H' a n := by
  obtain ⟨s0, s1, s2, h, r⟩ := g.ex
  exact ⟨s0, s1, s2, e _ _ h, r⟩
theorem GenAt.mono {H : Hp} {a : Addr} {n m : Nat} (g : GenAt H a n) (l : n ≤ m) : GenAt H a m := by
  obtain ⟨s0, s1, s2, h, r0, r1, r2, r3, r4, r5⟩ := g.ex
  exact ⟨s0, s1, s2, h, r0, r1, r2, r3, r4, by omega⟩
def spRandom : Sp := fun vs H Q _ => ∃ (a : Addr) (b : Int) (n : Nat), vs = [.ref a, .int b] ∧ GenAt H a n ∧ 0 < b ∧ sz b ≤ 2000 ∧ n ≤ 1000000000 ∧
  ∀ (z : Int) (H' : Hp), 0 ≤ z → z < b → GenAt H' a (n + 100) → Keep a H H' → Q (.int z) H'
theorem sz_ediv {a b : Int} (ha : 0 ≤ a) (hb : 0 < b) : sz (a / b) ≤ sz a := by
  refine sz_mono ?_
  have h1 := Int.ediv_nonneg ha (Int.le_of_lt hb)
  have h2 := Int.ediv_le_self b ha
  omega
/-- a def that is told by its own promise -/
theorem Def.hasS {k : Nat} {x : Str} {ps N : List Str} {st : Stmt} {sp : Sp} (D : Def K mg x st ps) (S : FnScope N ps (defScope st)) (hl : ∀ vs H Q E, sp vs H Q E → vs.length = ps.length)
    (hbody : ∀ (g : Addr) (cdv : Value) (A : Around) (out : List Env) (s : Shared) (H : Hp) (vs : List V) (Q : VK) (E : XK), Rm k (A.deeper (envOfC x (defScope st) s.heap.objs.size g cdv)) → sp vs H Q E →
      ∃ t, PSs (cxOf CX0 P w K mg base N x (defScope st) g cdv A out s H E).nox (defBody st) t ∧ t { nx := fun _ H' => Q .non H', rt := Q } (start N vs) H) :
    Has P w K mg base (k + 1) x ps sp := by
  obtain ⟨g, fd, a, F, c⟩ := D.ex
  exact ⟨g, fd, a, F.kp, c, okq F S hl fun cdv A out s H vs Q E hr h => hbody g cdv A out s H vs Q E hr h⟩
theorem d_law_random (D : Def K mg "_law_random" s_law_random P_law_random) (h_law_hash : Has P w K mg base 1 "_law_hash" P_law_hash spHash) (z_int : mg "int" = none) (z_range : mg "range" = none) :
    Has P w K mg base 2 "_law_random" P_law_random spRandom := by
  refine D.hasS sc_law_random (by rintro _ _ _ _ ⟨a, b, n, rfl, _⟩; rfl) (fun g cdv A out s H vs Q E hr h => ?_)
  obtain ⟨a, b, n, rfl, G, hb, hbz, hn, q⟩ := h
  obtain ⟨s0, s1, s2, ha, h0, hz0, h1, h1', h2, h2'⟩ := G.ex
  refine ⟨_, (pss_cons (ps_if (pt_cmpR op_gt (pe_ix ix_list (pv 0) pe_int (fun _ _ => rfl)) pe_int (nomark _)) (pss_cons (ps_set (i := 2) sc_law_random.nd rfl (.inl rfl) (pe_op op_mod (pe_callTy call_int1 (by rfl) z_int (by decide +kernel) (pa_cons (pe_ix ix_list (pv 0) pe_int (fun _ _ => rfl)) pa_nil)) (pv 1)))
      (pss_cons (ps_asg (pe_op op_fdivW (pe_ix ix_list (pv 0) pe_int (fun _ _ => rfl)) (pv 1)) (pg_sub (pv 0) pe_int set_list))
      (pss_one (ps_ret (pv 2))))) pss_nil)
      (pss_cons (ps_set (i := 2) sc_law_random.nd rfl (.inl rfl) pe_int)
      (pss_cons (ps_for PassesOwn.never rfl (pi_range1 (by rfl) z_range (pa_cons (pe_op op_add pe_int (pe_op op_fdivW (pe_bits (pv 1)) pe_int)) pa_nil)) (pg_name (i := 3) sc_law_random.nd rfl (.inl rfl)) (pss_cons (ps_asg (pe_op op_add (pe_ix ix_list (pv 0) pe_int (fun _ _ => rfl)) pe_int) (pg_sub (pv 0) pe_int set_list))
      (pss_one (ps_set (i := 2) sc_law_random.nd rfl (.inl rfl) (pe_op op_add (pe_op op_mulX (pv 2) pe_int) (pe_h h_law_hash hr (pa_cons (pe_ix ix_list (pv 0) pe_int (fun _ _ => rfl)) (pa_cons (pe_ix ix_list (pv 0) pe_int (fun _ _ => rfl)) pa_nil))))))))
      (pss_one (ps_ret (pe_op op_mod (pe_callTy call_int1 (by rfl) z_int (by decide +kernel) (pa_cons (pv 2) pa_nil)) (pv 1))))))), ?_⟩
  have L : SqL K H a [.int s0, .int s1, .int s2] := sq_of ha
  refine q_when (et_test (ev_op (ev_op (ev_var rfl) ev_c (rv_ixL L rfl)) ev_c rv_I0)) (fun h H1 e1 => ?_) (fun h H1 e1 => ?_)
  · have L1 := ex_l e1 L
    have hbz' : sz b < 9000 := by omega
    refine q_asg (ev_op (ev_cb (ea_cons (ev_op (ev_var rfl) ev_c (rv_ixL L1 rfl)) ea_nil) rc_int) (ev_var rfl) (rv_I hb)) fun H2 e2 => ?_
    have L2' := ex_l e2 L1
    refine q_setL (j := 0) (e2 _ _ (e1 _ _ ha)) (ev_op (ev_op (ev_var rfl) ev_c (rv_ixL L2' rfl)) (ev_var rfl) (rv_I (cdiv_ok hb hbz'))) (ev_var rfl) (ev_is ev_c rfl) (by show 0 < 3; decide) fun H3 e3 => ?_
    refine s_ret (ev_var rfl) fun H4 e4 => ?_
    refine q _ H4 (Int.emod_nonneg _ (by omega)) (Int.emod_lt_of_pos _ hb) ⟨s0 / b, s1, s2, e4 _ _ upd_same, Int.ediv_nonneg h0 (by omega), Nat.le_trans (sz_ediv h0 hb) hz0, h1, h1', h2, by omega⟩ ?_
    exact ((Keep.of ((e1.trans e2).trans e3)).trans Keep.put).trans (Keep.of e4)
  · refine q_asg ev_c fun H2 e2 => ?_
    have hk : (sz b : Int) / 30 ≤ 66 := by omega
    have hk0 : 0 ≤ (sz b : Int) / 30 := by omega
    refine q_forR1 (n := 1 + (sz b : Int) / 30) (ea_cons (ev_op ev_c (ev_op (ev_bits (ev_var rfl)) ev_c (rv_I (cdiv_ok (by decide) (by decide +kernel)))) rv_I0) ea_nil) (by omega)
      (fun i σ' H' => ∃ (d t2 : Int) (y : Option V), σ' = [some (.ref a), some (.int b), some (.int d), y] ∧ H' a = some (.lst [.int s0, .int s1, .int t2]) ∧ Keep a H H' ∧ 0 ≤ d ∧ sz d ≤ 32 * i ∧ 0 ≤ t2 ∧ t2 ≤ n + i)
      (fun H3 e3 => ⟨0, s2, none, rfl, e3 _ _ (e2 _ _ (e1 _ _ ha)), Keep.of ((e1.trans e2).trans e3), Int.le_refl 0, by rw [sz_zero]; omega, h2, by omega⟩) ?_ ?_
    · rintro i σ' H' hi ⟨d, t2, y, rfl, ha', kp, hd, hdz, ht0, ht⟩
      have M : SqL K H' a [.int s0, .int s1, .int t2] := sq_of ha'
      refine q_setL (j := 2) ha' (ev_op (ev_op (ev_var rfl) (ev_is ev_c rfl) (rv_ixL (i := 2) M rfl)) ev_c rv_I0) (ev_var rfl) (ev_is ev_c rfl) (by show 2 < 3; decide) fun H4 e4 => ?_
      have M4 : SqL K (upd H4 a (.lst ([.int s0, .int s1, .int t2].set 2 (.int (t2 + 1))))) a [.int s0, .int s1, .int (t2 + 1)] := sq_of upd_same
      have c1 : sz 2147483587 ≤ 31 := by decide +kernel
      have zs1 : sz s1 ≤ 1000 := Nat.le_trans (sz_lt31 h1 (by omega)) (by decide)
      have zt : sz (t2 + 1) ≤ 1000 := Nat.le_trans (sz_c (n := 31) (by omega)) (by decide)
      refine s_asg (ev_op (ev_op (ev_var rfl) ev_c (rv_I (cmul_ok (by omega)))) (ev_call (ea_cons (ev_op (ev_var rfl) ev_c (rv_ixL (i := 1) M4 rfl)) (ea_cons (ev_op (ev_var rfl) ev_c (rv_ixL (i := 2) M4 rfl)) ea_nil)) (spv_P (s1, t2 + 1) ⟨zs1, zt⟩)) rv_I0) fun H5 e5 => ?_
      have hh := hashM_b s1 (t2 + 1)
      have hx : hashM (s1, t2 + 1).fst (s1, t2 + 1).snd = hashM s1 (t2 + 1) := rfl
      refine ⟨_, t2 + 1, _, rfl, e5 _ _ upd_same, ((kp.trans (Keep.of e4)).trans Keep.put).trans (Keep.of e5), ?_, ?_, by omega, by omega⟩
      · have := Int.mul_nonneg hd (by decide : (0 : Int) ≤ 2147483587)
        rw [hx]; omega
      · have m := sz_mul d 2147483587
        have := sz_add (a := d * 2147483587) (b := hashM s1 (t2 + 1)) (n := 32 * i + 31) (by omega) (Nat.le_trans (sz_lt31 hh.1 (by omega)) (by omega))
        show sz (d * 2147483587 + hashM s1 (t2 + 1)) ≤ 32 * (i + 1)
        omega
    · rintro σ' H' ⟨d, t2, y, rfl, ha', kp, hd, hdz, ht0, ht⟩
      refine s_ret (ev_op (ev_cb (ea_cons (ev_var rfl) ea_nil) rc_int) (ev_var rfl) (rv_I hb)) fun H4 e4 => ?_
      exact q _ H4 (Int.emod_nonneg _ (by omega)) (Int.emod_lt_of_pos _ hb) ⟨s0, s1, t2, e4 _ _ ha', h0, hz0, h1, h1', ht0, by omega⟩ (kp.trans (Keep.of e4))
def spCell : Sp := fun vs H Q _ => ∃ (a : Addr) (ns : List Int) (i : Nat), vs = [.ref a, .int (i : Int)] ∧ SqL K H a (ns.map V.int) ∧ ∀ (z : Int) (H' : Hp), Evl.Ex H H' → Q (.int z) H'
theorem ints_cut (ns : List Int) : ∃ ms : List Int, cutV (ns.map V.int) none (some 1) = ms.map V.int := by
  refine ⟨List.take (HT.sIx ns.length ns.length (some 1) - HT.sIx ns.length 0 none) (List.drop (HT.sIx ns.length 0 none) ns), ?_⟩
  unfold cutV
  rw [← List.map_drop, ← List.map_take, List.length_map]
theorem d_law_cell (D : Def K mg "_law_cell" s_law_cell P_law_cell) (z_len : mg "len" = none) (z_sum : mg "sum" = none) : Has P w K mg base 1 "_law_cell" P_law_cell (spCell (K := K)) := by
  refine D.hasS sc_law_cell (by rintro _ _ _ _ ⟨a, ns, i, rfl, _⟩; rfl) (fun g cdv A out s H vs Q E hr h => ?_)
  obtain ⟨a, ns, i, rfl, hS, q⟩ := h
  refine ⟨_, (pss_cons (ps_if (pt_cmpR op_lt (pv 1) (pe_callB call_len_seq (by rfl) z_len (by decide +kernel) (pa_cons (pv 0) pa_nil)) (nomark _)) (pss_one (ps_ret (pe_ix ix_list (pv 0) (pv 1) (fun _ _ => rfl)))) pss_nil)
      (pss_one (ps_ret (pe_op op_mod (pe_callB (cr_sum rfl) (by rfl) z_sum (by decide +kernel) (pa_cons (pe_slice sl_list (pv 0) po_none (po_some pe_int)) pa_nil)) pe_int)))), ?_⟩
  refine q_when (et_test (ev_op (ev_var rfl) (ev_cb (ea_cons (ev_var rfl) ea_nil) (fun H1 e _ q => ⟨a, ns.map V.int, rfl, .inl (ex_l e hS), q H1 (Evl.Ex.refl H1)⟩)) rv_I0)) (fun h H1 e1 => ?_) (fun h H1 e1 => ?_)
  · have hi : i < ns.length := by
      have := of_decide_eq_true h
      rw [List.length_map] at this; omega
    refine s_ret (ev_op (ev_var rfl) (ev_var rfl) (rv_ixL (ex_l e1 hS) (atI_nat (j := i) (by rw [List.getElem?_map, List.getElem?_eq_getElem hi]; rfl)))) fun H2 e2 => q _ H2 (e1.trans e2)
  · obtain ⟨ms, hm⟩ := ints_cut ns
    have hL := el_sl (K := K) (σ := start N_law_cell [.ref a, .int (i : Int)]) (ev_var (i := 0) rfl) eo_none (eo_some (ev_c (v := .int 1))) (ex_l e1 hS)
    rw [hm] at hL
    have hs : Ev (tCB (rSum K) (tCons (tSl (rSlL K) (tVar 0) tNoPart (tPart (tC (.int 1)))) tNil)) (start N_law_cell [.ref a, .int (i : Int)]) H1 (.int ms.sum) := fun H2 e Q' q' => hL H2 e _ fun p H3 hp e3 h3 => ⟨p, ms, rfl, sq_of h3, q' H3 e3⟩
    exact s_ret (ev_op hs ev_c (rv_I (by show (0 : Int) < 1000003; decide))) fun H2 e2 => q _ H2 (e1.trans e2)
def seedB : Int := ((10 : Int) ^ (60 : Int).toNat) ^ (10 : Int).toNat
theorem seedB_pos : 0 < seedB := by decide +kernel
theorem seedB_sz : sz seedB ≤ 2100 := by decide +kernel
def spGen : Sp := fun vs H Q _ => ∃ (a : Addr) (ns : List Int) (i : Nat), vs = [.ref a, .int (i : Int)] ∧ SqL K H a (ns.map V.int) ∧ i ≤ 63 ∧ ∀ (p : Addr) (H' : Hp), H p = none → Evl.Ex H H' → GenAt H' p 100000 → Q (.ref p) H'
theorem d_law_generator (D : Def K mg "_law_generator" s_law_generator P_law_generator) (h_law_cell : Has P w K mg base 1 "_law_cell" P_law_cell (spCell (K := K))) (z_int : mg "int" = none) (z_max : mg "max" = none) :
    Has P w K mg base 2 "_law_generator" P_law_generator (spGen (K := K)) := by
  refine D.hasS sc_law_generator (by rintro _ _ _ _ ⟨a, ns, i, rfl, _⟩; rfl) (fun g cdv A out s H vs Q E hr h => ?_)
  obtain ⟨a, ns, i, rfl, hS, hi, q⟩ := h
  refine ⟨_, (pss_cons (ps_set (i := 2) sc_law_generator.nd rfl (.inl rfl) (pe_h h_law_cell hr (pa_cons (pv 0) (pa_cons (pv 1) pa_nil))))
      (pss_one (ps_ret (pe_lst (pa_cons (pe_op op_mod (pe_callTy call_int1 (by rfl) z_int (by decide +kernel) (pa_cons (pe_callB (call_max2 rfl) (by rfl) z_max (by decide +kernel) (pa_cons (pe_op op_sub (pv 2) (pe_op op_powX pe_int pe_int)) (pa_cons pe_int pa_nil))) pa_nil)) (pe_op op_powX (pe_op op_powX pe_int pe_int) pe_int)) (pa_cons (pe_op op_mod (pe_callTy call_int1 (by rfl) z_int (by decide +kernel) (pa_cons (pv 2) pa_nil)) pe_int) (pa_cons (pe_op op_mulX pe_int (pv 1)) pa_nil))))))), ?_⟩
  refine ⟨_, rfl, _, rfl, a, ns, i, rfl, hS, fun z H1 e1 => ?_⟩
  have hi' : sz (i : Int) ≤ 10 := sz_c (by omega)
  have c1 : sz 1000 ≤ 10 := by decide +kernel
  refine s_retL (el_lst (ea_cons (ev_op (ev_cb (ea_cons (ev_max2 (ev_op (ev_var rfl) (ev_op ev_c ev_c (rv_I (by constructor <;> decide +kernel))) rv_I0) ev_c) ea_nil) rc_int) (ev_op (ev_op ev_c ev_c (rv_I (by constructor <;> decide +kernel))) ev_c (rv_I (by constructor <;> decide +kernel))) (rv_I seedB_pos))
    (ea_cons (ev_op (ev_cb (ea_cons (ev_var rfl) ea_nil) rc_int) ev_c (rv_I (by show (0 : Int) < 2147483647; decide))) (ea_cons (ev_op (ev_c (v := .int 1000)) (ev_var (v := .int (i : Int)) rfl) (rv_I (cmul_ok (by omega)))) ea_nil))) (by show 3 ≤ 100000; decide)) fun p H2 hp e2 h2 => ?_
  refine q p H2 (fresh_back e1 hp) (e1.trans e2) ⟨_, _, _, h2, Int.emod_nonneg _ (show seedB ≠ 0 by have := seedB_pos; omega), ?_, Int.emod_nonneg _ (by decide), Int.emod_lt_of_pos _ (by decide), by omega, by omega⟩
  refine Nat.le_trans (sz_mono ?_) seedB_sz
  have h1 := Int.emod_nonneg (if 0 > z - (10 : Int) ^ (18 : Int).toNat then 0 else z - (10 : Int) ^ (18 : Int).toNat) (show seedB ≠ 0 by have := seedB_pos; omega)
  have h2' := Int.emod_lt_of_pos (if 0 > z - (10 : Int) ^ (18 : Int).toNat then 0 else z - (10 : Int) ^ (18 : Int).toNat) seedB_pos
  show ((if 0 > z - (10 : Int) ^ (18 : Int).toNat then 0 else z - (10 : Int) ^ (18 : Int).toNat) % seedB).natAbs ≤ seedB.natAbs
  omega
/-! ### the law's own arithmetic -/
theorem d_law_add (D : Def K mg "_law_add" s_law_add P_law_add) : Has P w K mg base 1 "_law_add" P_law_add spPlus := by
  refine D.hasP sc_law_add (fun _ => rfl) (fun g cdv A out s H z Q E hr hp q => ?_)
  obtain ⟨k, a, b⟩ := z
  refine ⟨_, (pss_one (ps_ret (pe_ifExp (pt_cmpR op_eq (pv 0) pe_str (nomark _)) (pe_op op_add (pv 1) (pv 2)) (pe_op op_xorN (pv 1) (pv 2))))), ?_⟩
  refine s_ret (ev_if (et_kind (ev_var rfl)) (fun h => ?_) (fun h => ?_)) fun H2 e2 => q H2 e2
  · cases k <;> cases h
    exact ev_op (ev_var rfl) (ev_var rfl) rv_I0
  · cases k <;> cases h
    obtain ⟨n, rfl⟩ := hp.1.nn
    obtain ⟨m, rfl⟩ := hp.2.nn
    exact ev_op (ev_var rfl) (ev_var rfl) rv_xorN
theorem d_law_less (D : Def K mg "_law_less" s_law_less P_law_less) : Has P w K mg base 1 "_law_less" P_law_less spMinus := by
  refine D.hasP sc_law_less (fun _ => rfl) (fun g cdv A out s H z Q E hr hp q => ?_)
  obtain ⟨k, a, b⟩ := z
  refine ⟨_, (pss_one (ps_ret (pe_ifExp (pt_cmpR op_eq (pv 0) pe_str (nomark _)) (pe_op op_sub (pv 1) (pv 2)) (pe_op op_xorN (pv 1) (pv 2))))), ?_⟩
  refine s_ret (ev_if (et_kind (ev_var rfl)) (fun h => ?_) (fun h => ?_)) fun H2 e2 => q H2 e2
  · cases k <;> cases h
    exact ev_op (ev_var rfl) (ev_var rfl) rv_I0
  · cases k <;> cases h
    obtain ⟨n, rfl⟩ := hp.1.nn
    obtain ⟨m, rfl⟩ := hp.2.nn
    exact ev_op (ev_var rfl) (ev_var rfl) rv_xorN
theorem rv_shrNN {H : Hp} {n k : Nat} : RV (fun x y H Q => ∃ (i : Int) (k : Nat), x = .int i ∧ y = .int (k : Int) ∧ Q (.int (i / 2 ^ k)) H) (.int (n : Int)) (.int (k : Int)) H (.int ((n / 2 ^ k : Nat) : Int)) :=
  fun H1 _ Q q => ⟨n, k, rfl, rfl, by
    have e : ((n : Int) / 2 ^ k : Int) = ((n / 2 ^ k : Nat) : Int) := by
      rw [Int.natCast_ediv, Int.natCast_pow]; rfl
    rw [e]; exact q H1 (Evl.Ex.refl H1)⟩
theorem mul_from {x y i : Nat} : Gf.mul (x * 2 ^ i) (y / 2 ^ i) = (if (y / 2 ^ i) % 2 = 1 then x * 2 ^ i else 0) ^^^ Gf.mul (x * 2 ^ (i + 1)) (y / 2 ^ (i + 1)) := by
  have e : 2 * (x * 2 ^ i) = x * 2 ^ (i + 1) := by rw [Nat.pow_succ]; ac_rfl
  rw [Gf.mul_step, ← Gf.double_mul, Nat.div_div_eq_div_mul, e, ← Nat.pow_succ]
theorem d_law_times (D : Def K mg "_law_times" s_law_times P_law_times) (z_int : mg "int" = none) (z_range : mg "range" = none) : Has P w K mg base 1 "_law_times" P_law_times spTimes := by
  refine D.hasP sc_law_times (fun _ => rfl) (fun g cdv A out s H z Q E hr hp q => ?_)
  obtain ⟨k, a, b⟩ := z
  obtain ⟨hp, ha, hb⟩ := hp
  refine ⟨_, (pss_cons (ps_if (pt_cmpR op_eq (pv 0) pe_str (nomark _)) (pss_one (ps_ret (pe_op op_mulX (pv 1) (pv 2)))) pss_nil)
      (pss_cons (ps_set (i := 3) sc_law_times.nd rfl (.inl rfl) pe_int)
      (pss_cons (ps_for PassesOwn.never rfl (pi_range1 (by rfl) z_range (pa_cons (pe_bits (pe_callTy call_int1 (by rfl) z_int (by decide +kernel) (pa_cons (pv 2) pa_nil))) pa_nil)) (pg_name (i := 4) sc_law_times.nd rfl (.inl rfl)) (pss_one (ps_if (pt_cmpR op_eq (pe_op op_odd (pe_op op_shrN (pe_callTy call_int1 (by rfl) z_int (by decide +kernel) (pa_cons (pv 2) pa_nil)) (pv 4)) pe_int) pe_int (nomark _)) (pss_one (ps_set (i := 3) sc_law_times.nd rfl (.inl rfl) (pe_op op_xorN (pv 3) (pe_op op_shlNN (pv 1) (pv 4))))) pss_nil)))
      (pss_one (ps_ret (pv 3)))))), ?_⟩
  refine q_when (et_kind (ev_var rfl)) (fun h H1 e1 => ?_) (fun h H1 e1 => ?_)
  · cases k <;> cases h
    exact s_ret (ev_op (ev_var rfl) (ev_var rfl) (rv_I (cmul_ok (by have : sz a ≤ 10000 := ha; have : sz b ≤ 10000 := hb; omega)))) fun H2 e2 => q H2 (e1.trans e2)
  · cases k <;> cases h
    obtain ⟨n, rfl⟩ := hp.1.nn
    obtain ⟨m, rfl⟩ := hp.2.nn
    have hn : Gf.bl n ≤ 10000 := ha
    have hm : Gf.bl m ≤ 10000 := hb
    refine q_asg ev_c fun H2 e2 => ?_
    refine q_forR1 (n := ((Gf.bl m : Nat) : Int)) (ea_cons (ev_bits (i := (m : Int)) (ev_cb (ea_cons (ev_var rfl) ea_nil) rc_int)) ea_nil) (by omega)
      (fun i σ' H' => ∃ (t : Nat) (y : Option V), σ' = [some (.str (ks .B)), some (.int (n : Int)), some (.int (m : Int)), some (.int (t : Int)), y] ∧ Evl.Ex H H' ∧ t ^^^ Gf.mul (n * 2 ^ i) (m / 2 ^ i) = Gf.mul n m)
      (fun H3 e3 => ⟨0, none, rfl, (e1.trans e2).trans e3, by rw [Nat.pow_zero, Nat.mul_one, Nat.div_one, Nat.zero_xor]⟩) ?_ ?_
    · rintro i σ' H' hi ⟨t, y, rfl, e, hq⟩
      have l1 := log_bl n
      rw [mul_from] at hq
      have T : EvT (tTest (tOp rEq (tOp (fun x y H Q => ∃ n : Nat, x = .int (n : Int) ∧ y = .int 1 ∧ Q (.int ((n % 2 : Nat) : Int)) H) (tOp (fun x y H Q => ∃ (i : Int) (k : Nat), x = .int i ∧ y = .int (k : Int) ∧ Q (.int (i / 2 ^ k)) H) (tCB (fun xs H Q => (∃ i, xs = [.int i] ∧ Q (.int i) H) ∨ ∃ k, xs = [.bl k] ∧ Q (.int (if k then 1 else 0)) H) (tCons (tVar 2) tNil)) (tVar 4)) (tC (.int 1))) (tC (.int 1)))) [some (.str (ks .B)), some (.int (n : Int)), some (.int (m : Int)), some (.int (t : Int)), some (.int (i : Int))] H' (decide (V.int ((m / 2 ^ i % 2 : Nat) : Int) = V.int 1)) :=
        et_test (ev_op (ev_op (ev_op (ev_cb (ea_cons (ev_var rfl) ea_nil) rc_int) (ev_var rfl) rv_shrNN) ev_c rv_odd) ev_c (rv_eq rfl))
      refine s_when T (fun h H3 e3 => ?_) (fun h H3 e3 => ?_)
      · have h1 : m / 2 ^ i % 2 = 1 := by have := V.int.inj (of_decide_eq_true h); omega
        refine s_asg (ev_op (ev_var rfl) (ev_op (ev_var rfl) (ev_var rfl) (rv_shlN (k := i) (by omega) (by omega))) rv_xorN) fun H4 e4 => ?_
        refine ⟨t ^^^ n * 2 ^ i, _, rfl, (e.trans e3).trans e4, ?_⟩
        rw [if_pos h1, ← Nat.xor_assoc] at hq
        exact hq
      · have h1 : ¬ m / 2 ^ i % 2 = 1 := fun z => by rw [z] at h; cases h
        rw [if_neg h1, Nat.zero_xor] at hq
        exact ⟨t, _, rfl, e.trans e3, hq⟩
    · rintro σ' H' ⟨t, y, rfl, e, hq⟩
      have z : m / 2 ^ (Gf.bl m) = 0 := Nat.div_eq_of_lt (Gf.bl_le.mp (Nat.le_refl _))
      have et : ((Gf.bl m : Nat) : Int).toNat = Gf.bl m := rfl
      rw [et, z, Gf.mul_zero, Nat.xor_zero] at hq
      subst hq
      exact s_ret (ev_var rfl) fun H4 e4 => q H4 (e.trans e4)
abbrev spLawRest : Sp := spP a3 (fun x => (Ok x.1 x.2.1 ∧ 0 ≤ x.2.2) ∧ sz x.2.1 ≤ 8000 ∧ sz x.2.2 ≤ 8000) (fun x => .int (remM x.1 x.2.1 x.2.2))
theorem d_law_rest (D : Def K mg "_law_rest" s_law_rest P_law_rest) (z_int : mg "int" = none) : Has P w K mg base 1 "_law_rest" P_law_rest spLawRest := by
  refine D.hasP sc_law_rest (fun _ => rfl) (fun g cdv A out s H z Q E hr hp q => ?_)
  obtain ⟨k, a, b⟩ := z
  obtain ⟨⟨pa, pb⟩, ha, hb⟩ := hp
  have pb' : 0 ≤ b := pb
  refine ⟨_, (pss_cons (ps_if (pt_cmpR op_eq (pv 2) pe_int (nomark _)) (pss_one (ps_ret (pv 1))) pss_nil)
      (pss_cons (ps_if (pt_cmpR op_eq (pv 0) pe_str (nomark _)) (pss_one (ps_ret (pe_op op_mod (pe_callTy call_int1 (by rfl) z_int (by decide +kernel) (pa_cons (pv 1) pa_nil)) (pv 2)))) pss_nil)
      (pss_cons (ps_set (i := 3) sc_law_rest.nd rfl (.inl rfl) (pe_bits (pe_callTy call_int1 (by rfl) z_int (by decide +kernel) (pa_cons (pv 2) pa_nil))))
      (pss_cons (ps_while PassesOwn.never (PW.pt (pw_and (pt_cmpR op_gt (pv 1) pe_int (nomark _)) (pw_and1 (pt_cmpR op_ge (pe_bits (pe_callTy call_int1 (by rfl) z_int (by decide +kernel) (pa_cons (pv 1) pa_nil))) (pv 3) (nomark _))))) (pss_one (ps_set (i := 1) sc_law_rest.nd rfl (.inl rfl) (pe_op op_xorN (pv 1) (pe_op op_shlNN (pv 2) (pe_op op_sub (pe_bits (pe_callTy call_int1 (by rfl) z_int (by decide +kernel) (pa_cons (pv 1) pa_nil))) (pv 3)))))))
      (pss_one (ps_ret (pv 1))))))), ?_⟩
  refine q_when (et_test (ev_op (ev_var rfl) ev_c (rv_eq rfl))) (fun h H1 e1 => ?_) (fun h H1 e1 => ?_)
  · have hb0 : b = 0 := V.int.inj (of_decide_eq_true h)
    subst hb0
    refine s_ret (ev_is (ev_var rfl) ?_) fun H2 e2 => q H2 (e1.trans e2)
    cases k
    · show V.int a = V.int (if (0 : Int) = 0 then a else a.fmod 0); rw [if_pos rfl]
    · obtain ⟨n, rfl⟩ := pa.nn
      show V.int (n : Int) = V.int ((Gf.rem n 0 : Nat) : Int); rw [Gf.rem_zero]
  · have hb0 : b ≠ 0 := fun z => by subst z; exact absurd (decide_eq_true rfl) (by rw [h]; decide)
    refine q_when (et_kind (ev_var rfl)) (fun h H2 e2 => ?_) (fun h H2 e2 => ?_)
    · cases k <;> cases h
      refine s_ret (ev_is (ev_op (ev_cb (ea_cons (ev_var (v := .int a) rfl) ea_nil) rc_int) (ev_var (v := .int b) rfl) (rv_I (by show 0 < b; omega))) ?_) fun H3 e3 => q H3 ((e1.trans e2).trans e3)
      show V.int (a % b) = V.int (if b = 0 then a else a.fmod b)
      rw [if_neg hb0, Int.fmod_eq_emod_of_nonneg a pb']
    · cases k <;> cases h
      obtain ⟨n, rfl⟩ := pa.nn
      obtain ⟨m, rfl⟩ := Int.eq_ofNat_of_zero_le pb'
      have hm : 0 < m := by omega
      have hm8 : Gf.bl m ≤ 8000 := hb
      have hn8 : Gf.bl n ≤ 8000 := ha
      have bp := Gf.bl_pos hm
      refine q_asg (ev_bits (ev_cb (ea_cons (ev_var rfl) ea_nil) rc_int)) fun H3 e3 => ?_
      refine q_while (fun i σ' H' => σ' = [some (.str (ks .B)), some (.int (i : Int)), some (.int (m : Int)), some (.int (Gf.bl m : Nat))] ∧ Evl.Ex H H' ∧ Gf.rem i m = Gf.rem n m ∧ Gf.bl i ≤ 8000)
        n ⟨rfl, (e1.trans e2).trans e3, rfl, hn8⟩ ?_
      rintro i σ' H' ⟨rfl, e, hr', hl⟩
      refine ⟨_, et_and (et_test (ev_op (ev_var rfl) ev_c rv_I0)) fun _ => et_test (ev_op (ev_bits (ev_cb (ea_cons (ev_var rfl) ea_nil) rc_int)) (ev_var rfl) rv_I0), fun hy H4 e4 => ?_, fun hy H4 e4 => ?_⟩
      · rw [Bool.and_eq_true] at hy
        have hy' : Gf.bl m ≤ Gf.bl i := by have := of_decide_eq_true hy.2; rw [sz_nat] at this; omega
        have hs : (((sz (i : Int) : Nat) : Int) - ((Gf.bl m : Nat) : Int)) = ((Gf.bl i - Gf.bl m : Nat) : Int) := by rw [sz_nat]; omega
        have l1 := log_bl m
        have lt := Gf.step_lt hm hy'
        have ble : Gf.bl (i ^^^ m * 2 ^ (Gf.bl i - Gf.bl m)) ≤ Gf.bl i - 1 := Gf.bl_le.mpr lt
        refine ⟨_, fun _ _ h => h, ?_⟩
        refine s_asg (ev_op (ev_var rfl) (ev_op (ev_var rfl) (ev_is (ev_op (ev_bits (ev_cb (ea_cons (ev_var rfl) ea_nil) rc_int)) (ev_var rfl) rv_I0) (by rw [hs])) (rv_shlN (n := m) (k := Gf.bl i - Gf.bl m) (by omega) (by omega))) rv_xorN) fun H6 e6 => ?_
        exact ⟨_, Gf.step_less hm hy', rfl, (e.trans e4).trans e6, by rw [← hr', Gf.rem_go hm hy'], by omega⟩
      · have hy' : Gf.bl i < Gf.bl m := by
          rcases Nat.eq_zero_or_pos i with z | z
          · subst z; rw [Gf.bl_zero]; omega
          · rw [show decide ((0 : Int) < (i : Int)) = true from decide_eq_true (by omega), Bool.true_and] at hy
            have := of_decide_eq_false hy; rw [sz_nat] at this; omega
        rw [Gf.rem_end hy'] at hr'
        subst hr'
        exact s_ret (ev_var rfl) fun H5 e5 => q H5 ((e.trans e4).trans e5)
abbrev spLawMult : Sp := spP a3 (fun x => (Ok x.1 x.2.1 ∧ 0 ≤ x.2.2) ∧ sz x.2.1 ≤ 8000 ∧ sz x.2.2 ≤ 8000) (fun x => .bl (decide (remM x.1 x.2.1 x.2.2 = 0)))
theorem d_law_is_multiple (D : Def K mg "_law_is_multiple" s_law_is_multiple P_law_is_multiple) (h_law_rest : Has P w K mg base 1 "_law_rest" P_law_rest spLawRest) : Has P w K mg base 2 "_law_is_multiple" P_law_is_multiple spLawMult := by
  refine D.hasP sc_law_is_multiple (fun _ => rfl) (fun g cdv A out s H z Q E hr hp q => ?_)
  obtain ⟨k, a, b⟩ := z
  refine ⟨_, (pss_one (ps_ret (pe_cmpR op_eq (pe_h h_law_rest hr (pa_cons (pv 0) (pa_cons (pv 1) (pa_cons (pv 2) pa_nil)))) pe_int (nomark _)))), ?_⟩
  refine s_ret (ev_is (ev_op (ev_call (two_then (ev_var rfl) (ev_var rfl) (ev_var rfl)) (spv_P (k, a, b) hp)) ev_c (rv_eq rfl)) ?_) fun H2 e2 => q H2 e2
  simp only [V.int.injEq]
/-- what is drawn for a number -/
def Drawn (k : Kd) (m z : Int) : Prop := Ok k z ∧ (z.natAbs : Int) ≤ m
def spLawNumber : Sp := fun vs H Q _ => ∃ (a : Addr) (k : Kd) (m : Int) (n : Nat), vs = [.ref a, .str (ks k), .int m] ∧ GenAt H a n ∧ 0 < m ∧ sz m ≤ 1900 ∧ n ≤ 1000000000 ∧
  ∀ (z : Int) (H' : Hp), Drawn k m z → GenAt H' a (n + 100) → Keep a H H' → Q (.int z) H'
theorem d_law_number (D : Def K mg "_law_number" s_law_number P_law_number) (h_law_random : Has P w K mg base 2 "_law_random" P_law_random spRandom) : Has P w K mg base 3 "_law_number" P_law_number spLawNumber := by
  refine D.hasS sc_law_number (by rintro _ _ _ _ ⟨a, k, m, n, rfl, _⟩; rfl) (fun g cdv A out s H vs Q E hr h => ?_)
  obtain ⟨a, k, m, n, rfl, G, hm, hmz, hn, q⟩ := h
  have c2 : sz 2 ≤ 2 := by decide +kernel
  have z2 := sz_mul 2 m
  refine ⟨_, (pss_one (ps_ret (pe_ifExp (pt_cmpR op_eq (pv 1) pe_str (nomark _)) (pe_op op_sub (pe_h h_law_random hr (pa_cons (pv 0) (pa_cons (pe_op op_add (pe_op op_mulX pe_int (pv 2)) pe_int) pa_nil))) (pv 2)) (pe_h h_law_random hr (pa_cons (pv 0) (pa_cons (pv 2) pa_nil)))))), ?_⟩
  refine et_kind (k := k) (ev_var rfl) H (Evl.Ex.refl H) _ fun H1 e1 => ?_
  cases k
  · refine ⟨_, rfl, _, rfl, 2, m, rfl, rfl, cmul_ok (by omega), 2 * m, 1, rfl, rfl, a, 2 * m + 1, n, rfl, G.ex_of e1, by omega, ?_, hn, fun z H2 z0 zb G2 kp => ⟨_, rfl, z, m, rfl, rfl, ?_⟩⟩
    · exact Nat.le_trans (sz_add (n := 1902) (by omega) (by decide +kernel)) (by decide)
    · exact q _ H2 ⟨trivial, by omega⟩ G2 ((Keep.of e1).trans kp)
  · exact ⟨_, rfl, _, rfl, a, m, n, rfl, G.ex_of e1, hm, by omega, hn, fun z H2 z0 zb G2 kp => q _ H2 ⟨z0, by omega⟩ G2 ((Keep.of e1).trans kp)⟩
end
end Hr
namespace Hr
open PySem PySem.Spec PyProof.Rows L2 Evl
section
variable {P : Program} {w : World} {K : PySem.W.Frag} {mg : Str → Option Value} {base : Heap}
/-! ### the law -/
theorem gn {i : Nat} {x : V} {σ : L2.St} {H : Hp} {Q : L2.St → Hp → Prop} (h : Q (σ.set i (some x)) H) : gName i x σ H Q := h
def prD (c : Int × Int) : PyData := .tuple [.int c.1, .int c.2]
theorem ne_false {x : Str} : (!decide (V.str x = V.str x)) = false := by rw [decide_eq_true rfl]; rfl
theorem bools {p q : Prop} [Decidable p] [Decidable q] (h : p ↔ q) : V.bl (decide p) = V.bl (decide q) := by rw [decide_eq_decide.mpr h]
def spRight : Sp := fun vs H Q _ => ∃ (a : Addr) (k : Kd) (m : Int) (n : Nat), vs = [.ref a, .str (ks k), .int m] ∧ GenAt H a n ∧ 0 < m ∧ sz m ≤ 100 ∧ n ≤ 100000000 ∧ ∀ H', GenAt H' a (n + 1000) → Keep a H H' → Q (.bl true) H'
theorem d_law_right (D : Def K mg "_law_right" s_law_right P_law_right) (h_law_number : Has P w K mg base 3 "_law_number" P_law_number spLawNumber) (h_law_random : Has P w K mg base 2 "_law_random" P_law_random spRandom)
    (h_law_add : Has P w K mg base 1 "_law_add" P_law_add spPlus) (h_law_less : Has P w K mg base 1 "_law_less" P_law_less spMinus) (h_law_times : Has P w K mg base 1 "_law_times" P_law_times spTimes)
    (h_law_rest : Has P w K mg base 1 "_law_rest" P_law_rest spLawRest) (h_law_is_multiple : Has P w K mg base 2 "_law_is_multiple" P_law_is_multiple spLawMult)
    (h_added : Has P w K mg base 5 "added" P_added spPlus) (h_less : Has P w K mg base 5 "less" P_less spMinus) (h_product : Has P w K mg base 5 "product" P_product spTimes)
    (h_quotient : Has P w K mg base 5 "quotient" P_quotient spQuotient) (h_rest : Has P w K mg base 4 "rest" P_rest spRestN) (h_is_multiple : Has P w K mg base 5 "is_multiple" P_is_multiple spFactor)
    (z_repr : mg "repr" = none) (z_isinstance : mg "isinstance" = none) (z_int : mg "int" = none) (z_bool : mg "bool" = none) (z_abs : mg "abs" = none) :
    Has P w K mg base 6 "_law_right" P_law_right spRight := by
  refine D.hasS sc_law_right (by rintro _ _ _ _ ⟨a, k, m, n, rfl, _⟩; rfl) (fun g cdv A out s H vs Q E hr h => ?_)
  obtain ⟨a, k, m, n, rfl, G, hm, hmz, hn, q⟩ := h
  refine ⟨_, (pss_cons (ps_par3 (i := 3) (j := 4) (l := 5) (by rfl) sc_law_right.nd rfl rfl rfl (by decide) (by decide) (by decide) rfl rfl rfl (pa_cons (pe_h h_law_number hr (pa_cons (pv 0) (pa_cons (pv 1) (pa_cons (pv 2) pa_nil)))) (pa_cons (pe_h h_law_number hr (pa_cons (pv 0) (pa_cons (pv 1) (pa_cons (pv 2) pa_nil)))) (pa_cons (pe_h h_law_number hr (pa_cons (pv 0) (pa_cons (pv 1) (pa_cons (pv 2) pa_nil)))) pa_nil))) (by rfl))
      (pss_cons (ps_set (i := 6) sc_law_right.nd rfl (.inl rfl) (pe_lst (pa_cons (pe_h h_law_add hr (pa_cons (pv 1) (pa_cons (pv 3) (pa_cons (pv 4) pa_nil)))) (pa_cons (pe_h h_law_less hr (pa_cons (pv 1) (pa_cons (pv 3) (pa_cons (pv 4) pa_nil)))) (pa_cons (pe_h h_law_times hr (pa_cons (pv 1) (pa_cons (pv 3) (pa_cons (pv 4) pa_nil)))) pa_nil)))))
      (pss_cons (ps_if (pt_cmpR op_ne (pe_callB (cr_repr hr) (by rfl) z_repr (by decide +kernel) (pa_cons (pe_lst (pa_cons (pe_h h_added hr (pa_cons (pv 1) (pa_cons (pv 3) (pa_cons (pv 4) pa_nil)))) (pa_cons (pe_h h_less hr (pa_cons (pv 1) (pa_cons (pv 3) (pa_cons (pv 4) pa_nil)))) (pa_cons (pe_h h_product hr (pa_cons (pv 1) (pa_cons (pv 3) (pa_cons (pv 4) pa_nil)))) pa_nil)))) pa_nil)) (pe_callB (cr_repr hr) (by rfl) z_repr (by decide +kernel) (pa_cons (pv 6) pa_nil)) (nomark _)) (pss_one (ps_ret pe_bl)) pss_nil)
      (pss_cons (ps_if (PW.pt (pw_or (pt_cmpR op_ne (pe_h h_product hr (pa_cons (pv 1) (pa_cons (pv 4) (pa_cons (pv 3) pa_nil)))) (pe_ix ix_list (pv 6) pe_int (fun _ _ => rfl)) (nomark _)) (pw_or1 (pt_cmpR op_ne (pe_h h_added hr (pa_cons (pv 1) (pa_cons (pe_h h_less hr (pa_cons (pv 1) (pa_cons (pv 3) (pa_cons (pv 4) pa_nil)))) (pa_cons (pv 4) pa_nil)))) (pv 3) (nomark _))))) (pss_one (ps_ret pe_bl)) pss_nil)
      (pss_cons (ps_set (i := 7) sc_law_right.nd rfl (.inl rfl) (pe_h h_added hr (pa_cons (pv 1) (pa_cons (pe_h h_product hr (pa_cons (pv 1) (pa_cons (pv 3) (pa_cons (pv 5) pa_nil)))) (pa_cons (pe_h h_product hr (pa_cons (pv 1) (pa_cons (pv 4) (pa_cons (pv 5) pa_nil)))) pa_nil)))))
      (pss_cons (ps_if (PW.pt (pw_or (pt_cmpR op_ne (pe_h h_product hr (pa_cons (pv 1) (pa_cons (pe_h h_added hr (pa_cons (pv 1) (pa_cons (pv 3) (pa_cons (pv 4) pa_nil)))) (pa_cons (pv 5) pa_nil)))) (pv 7) (nomark _)) (pw_or1 (pt_cmpR op_ne (pv 7) (pe_h h_law_times hr (pa_cons (pv 1) (pa_cons (pe_ix ix_list (pv 6) pe_int (fun _ _ => rfl)) (pa_cons (pv 5) pa_nil)))) (nomark _))))) (pss_one (ps_ret pe_bl)) pss_nil)
      (pss_cons (ps_set (i := 8) sc_law_right.nd rfl (.inl rfl) (pe_op op_add pe_int (pe_h h_law_random hr (pa_cons (pv 0) (pa_cons (pe_ix ix_list (pe_lst (pa_cons pe_int (pa_cons pe_int (pa_cons (pv 2) pa_nil)))) (pe_h h_law_random hr (pa_cons (pv 0) (pa_cons pe_int pa_nil))) (fun _ _ => rfl)) pa_nil)))))
      (pss_cons (ps_set (i := 9) sc_law_right.nd rfl (.inl rfl) (pe_lst (pa_cons (pe_h h_quotient hr (pa_cons (pv 1) (pa_cons (pv 3) (pa_cons (pv 8) pa_nil)))) (pa_cons (pe_h h_rest hr (pa_cons (pv 1) (pa_cons (pv 3) (pa_cons (pv 8) pa_nil)))) pa_nil))))
      (pss_cons (ps_if (PW.pt (pw_or (pt_cmpR op_ne (pe_callB (cr_repr hr) (by rfl) z_repr (by decide +kernel) (pa_cons (pe_ix ix_list (pv 9) pe_int (fun _ _ => rfl)) pa_nil)) (pe_callB (cr_repr hr) (by rfl) z_repr (by decide +kernel) (pa_cons (pe_h h_law_rest hr (pa_cons (pv 1) (pa_cons (pv 3) (pa_cons (pv 8) pa_nil)))) pa_nil)) (nomark _)) (pw_or (pt_val (pe_callB call_isi (by rfl) z_isinstance (by decide +kernel) (pa_cons (pe_ix ix_list (pv 9) pe_int (fun _ _ => rfl)) (pa_cons (pe_bltn (v := .ty "bool") (by rfl) z_bool (by decide +kernel) rfl) pa_nil)))) (pw_or1 (pt_not (pt_val (pe_callB call_isi (by rfl) z_isinstance (by decide +kernel) (pa_cons (pe_ix ix_list (pv 9) pe_int (fun _ _ => rfl)) (pa_cons (pe_bltn (v := .ty "int") (by rfl) z_int (by decide +kernel) rfl) pa_nil))))))))) (pss_one (ps_ret pe_bl)) pss_nil)
      (pss_cons (ps_if (pt_cmpR op_ne (pe_h h_law_add hr (pa_cons (pv 1) (pa_cons (pe_ifExp (pt_cmpR op_eq (pv 1) pe_str (nomark _)) (pe_h h_law_times hr (pa_cons (pv 1) (pa_cons (pe_ix ix_list (pv 9) pe_int (fun _ _ => rfl)) (pa_cons (pv 8) pa_nil)))) (pe_h h_law_times hr (pa_cons (pv 1) (pa_cons (pv 8) (pa_cons (pe_ix ix_list (pv 9) pe_int (fun _ _ => rfl)) pa_nil))))) (pa_cons (pe_ix ix_list (pv 9) pe_int (fun _ _ => rfl)) pa_nil)))) (pv 3) (nomark _)) (pss_one (ps_ret pe_bl)) pss_nil)
      (pss_cons (ps_for PassesOwn.never rfl (pi_list (pe_lst (pa_cons (pe_tup (pa_cons (pv 3) (pa_cons (pv 8) pa_nil))) (pa_cons (pe_tup (pa_cons (pe_ix ix_list (pv 6) pe_int (fun _ _ => rfl)) (pa_cons (pv 3) pa_nil))) (pa_cons (pe_tup (pa_cons (pe_ix ix_list (pv 6) pe_int (fun _ _ => rfl)) (pa_cons (pv 4) pa_nil))) (pa_cons (pe_tup (pa_cons (pv 3) (pa_cons (pv 4) pa_nil))) (pa_cons (pe_tup (pa_cons (pv 3) (pa_cons pe_int pa_nil))) (pa_cons (pe_tup (pa_cons pe_int (pa_cons (pv 3) pa_nil))) (pa_cons (pe_tup (pa_cons (pv 3) (pa_cons pe_int pa_nil))) (pa_cons (pe_tup (pa_cons (pe_ix ix_list (pv 6) pe_int (fun _ _ => rfl)) (pa_cons (pv 5) pa_nil))) pa_nil)))))))))) (pg_tup rfl (pgs_cons (pg_name (i := 10) sc_law_right.nd rfl (.inl rfl)) (pgs_cons (pg_name (i := 11) sc_law_right.nd rfl (.inl rfl)) pgs_nil))) (pss_one (ps_if (pt_cmpR op_ne (pe_callB (cr_repr hr) (by rfl) z_repr (by decide +kernel) (pa_cons (pe_h h_is_multiple hr (pa_cons (pv 1) (pa_cons (pv 10) (pa_cons (pv 11) pa_nil)))) pa_nil)) (pe_callB (cr_repr hr) (by rfl) z_repr (by decide +kernel) (pa_cons (pe_h h_law_is_multiple hr (pa_cons (pv 1) (pa_cons (pv 10) (pa_cons (pe_callB call_abs (by rfl) z_abs (by decide +kernel) (pa_cons (pv 11) pa_nil)) pa_nil)))) pa_nil)) (nomark _)) (pss_one (ps_ret pe_bl)) pss_nil)))
      (pss_one (ps_ret (pe_and (pe_cmpR op_eq (pe_h h_rest hr (pa_cons (pv 1) (pa_cons (pv 3) (pa_cons pe_int pa_nil)))) (pv 3) (nomark _)) (pe_one (pe_cmpR op_eq (pe_callB (cr_repr hr) (by rfl) z_repr (by decide +kernel) (pa_cons (pe_h h_is_multiple hr (pa_cons (pv 1) (pa_cons (pv 3) (pa_cons (pe_ifExp (pt_cmpR op_eq (pv 1) pe_str (nomark _)) (pe_op op_sub pe_int (pv 8)) (pv 8)) pa_nil)))) pa_nil)) (pe_callB (cr_repr hr) (by rfl) z_repr (by decide +kernel) (pa_cons (pe_cmpR op_eq (pe_ix ix_list (pv 9) pe_int (fun _ _ => rfl)) pe_int (nomark _)) pa_nil)) (nomark _))))))))))))))))), ?_⟩
  -- three numbers
  refine ⟨_, rfl, _, rfl, _, rfl, a, k, m, n, rfl, G, hm, by omega, by omega, fun x H1 D1 G1 K1 => ?_⟩
  refine ⟨_, rfl, _, rfl, _, rfl, a, k, m, n + 100, rfl, G1, hm, by omega, by omega, fun y H2 D2 G2 K2 => ?_⟩
  refine ⟨_, rfl, _, rfl, _, rfl, a, k, m, n + 100 + 100, rfl, G2, hm, by omega, by omega, fun z H3 D3 G3 K3 => ?_⟩
  refine ⟨_, _, _, rfl, ?_⟩
  obtain ⟨ox, bx⟩ := D1
  obtain ⟨oy, by'⟩ := D2
  obtain ⟨oz, bz⟩ := D3
  have kp3 := (K1.trans K2).trans K3
  have zx : sz x ≤ 100 := Nat.le_trans (sz_mono (by omega)) hmz
  have zy : sz y ≤ 100 := Nat.le_trans (sz_mono (by omega)) hmz
  have zz : sz z ≤ 100 := Nat.le_trans (sz_mono (by omega)) hmz
  have txy := sz_times ox oy
  have txz := sz_times ox oz
  have tyz := sz_times oy oz
  have sxy := sz_plus ox oy zx zy
  have dxy := sz_minus ox oy zx zy
  have oxy := ok_times ox oy
  have oxz := ok_times ox oz
  have oyz := ok_times oy oz
  have opl := ok_plus ox oy
  have omi := ok_minus ox oy
  -- what is due
  refine q_asgL (el_lst (ea_cons (ev_call (two_then (ev_var rfl) (ev_var rfl) (ev_var rfl)) (spv_P (k, x, y) ⟨ox, oy⟩)) (ea_cons (ev_call (two_then (ev_var rfl) (ev_var rfl) (ev_var rfl)) (spv_P (k, x, y) ⟨ox, oy⟩))
    (ea_cons (ev_call (two_then (ev_var rfl) (ev_var rfl) (ev_var rfl)) (spv_P (k, x, y) ⟨⟨ox, oy⟩, by show sz x ≤ 10000; omega, by show sz y ≤ 10000; omega⟩)) ea_nil))) (by show 3 ≤ 100000; decide)) fun p H4 np e4 hp => ?_
  have G4 := G3.ex_of e4
  have npa : p ≠ a := by
    obtain ⟨s0, s1, s2, h, _⟩ := G3.ex
    intro z; subst z; rw [np] at h; cases h
  have L4 : SqL K H4 p [.int (plusM k x y), .int (minusM k x y), .int (timesM k x y)] := sq_of hp
  have dd : ∀ H', Evl.Ex H4 H' → Dp K H' (.ref p) (.list ([plusM k x y, minusM k x y, timesM k x y].map PyData.int)) := fun H' e => .lst (ex_l e L4) (dps_ints [plusM k x y, minusM k x y, timesM k x y])
  have nt : neat (.list ([plusM k x y, minusM k x y, timesM k x y].map PyData.int)) = true := by
    have f : ∀ i : Int, sz i ≤ 1900 → decide (i.natAbs.log2 < 1920) = true := fun i h => decide_eq_true (by have := log_sz i; omega)
    show (decide _ && (decide _ && (decide _ && true))) = true
    rw [f _ (by omega), f _ (by omega), f _ (by omega)]; rfl
  refine q_when (b := false) (et_is (et_test (ev_op (ev_reprD (K := K) (ed_lst (eds_cons (ed_int (ev_call (two_then (ev_var rfl) (ev_var rfl) (ev_var rfl)) (spv_P (k, x, y) ⟨ox, oy⟩))) (eds_cons (ed_int (ev_call (two_then (ev_var rfl) (ev_var rfl) (ev_var rfl)) (spv_P (k, x, y) ⟨ox, oy⟩)))
    (eds_cons (ed_int (ev_call (two_then (ev_var rfl) (ev_var rfl) (ev_var rfl)) (spv_P (k, x, y) ⟨⟨ox, oy⟩, by show sz x ≤ 10000; omega, by show sz y ≤ 10000; omega⟩))) eds_nil))) (by show 3 ≤ 100000; decide)) nt (by show (5772 : Nat) ≤ 10000000; decide) (by show 1 ≤ 50; decide))
    (ev_reprD (K := K) (ed_ev (ev_var rfl) dd) nt (by show (5772 : Nat) ≤ 10000000; decide) (by show 1 ≤ 50; decide)) (rv_ne rfl))) ne_false) (fun h => by cases h) (fun _ H5 e5 => ?_)
  have L5 := ex_l e5 L4
  -- products change places, what is taken away comes back
  refine q_when (b := false) (et_is (et_or (et_test (ev_op (ev_call (two_then (ev_var rfl) (ev_var rfl) (ev_var rfl)) (spv_P (k, y, x) ⟨⟨oy, ox⟩, by show sz y ≤ 10000; omega, by show sz x ≤ 10000; omega⟩)) (ev_op (ev_var rfl) ev_c (rv_ixL (i := 2) L5 rfl)) (rv_ne rfl)))
    fun _ => et_test (ev_op (ev_call (two_then (ev_var rfl) (ev_call (two_then (ev_var rfl) (ev_var rfl) (ev_var rfl)) (spv_P (k, x, y) ⟨ox, oy⟩)) (ev_var rfl)) (spv_P (k, minusM k x y, y) ⟨omi, oy⟩)) (ev_var rfl) (rv_ne rfl)))
    (by show ((!decide (V.int (timesM k y x) = V.int (timesM k x y))) || (!decide (V.int (plusM k (minusM k x y) y) = V.int x))) = false
        rw [times_comm (a := y) (b := x), plus_minus ox oy, decide_eq_true rfl, decide_eq_true rfl]; rfl)) (fun h => by cases h) (fun _ H6 e6 => ?_)
  -- products go over sums
  have o1 : sz (timesM k x z) ≤ 200 := by omega
  have o2 : sz (timesM k y z) ≤ 200 := by omega
  refine q_asg (ev_call (two_then (ev_var rfl) (ev_call (two_then (ev_var rfl) (ev_var rfl) (ev_var rfl)) (spv_P (k, x, z) ⟨⟨ox, oz⟩, by show sz x ≤ 10000; omega, by show sz z ≤ 10000; omega⟩)) (ev_call (two_then (ev_var rfl) (ev_var rfl) (ev_var rfl)) (spv_P (k, y, z) ⟨⟨oy, oz⟩, by show sz y ≤ 10000; omega, by show sz z ≤ 10000; omega⟩)))
    (spv_P (k, timesM k x z, timesM k y z) ⟨oxz, oyz⟩)) fun H7 e7 => ?_
  have L7 := ex_l (e6.trans e7) L5
  refine q_when (b := false) (et_is (et_or (et_test (ev_op (ev_call (two_then (ev_var rfl) (ev_call (two_then (ev_var rfl) (ev_var rfl) (ev_var rfl)) (spv_P (k, x, y) ⟨ox, oy⟩)) (ev_var rfl)) (spv_P (k, plusM k x y, z) ⟨⟨opl, oz⟩, by show sz (plusM k x y) ≤ 10000; omega, by show sz z ≤ 10000; omega⟩)) (ev_var rfl) (rv_ne rfl)))
    fun _ => et_test (ev_op (ev_var rfl) (ev_call (two_then (ev_var rfl) (ev_op (ev_var rfl) ev_c (rv_ixL (i := 0) L7 rfl)) (ev_var rfl)) (spv_P (k, plusM k x y, z) ⟨⟨opl, oz⟩, by show sz (plusM k x y) ≤ 10000; omega, by show sz z ≤ 10000; omega⟩)) (rv_ne rfl)))
    (by show ((!decide (V.int (timesM k (plusM k x y) z) = V.int (plusM k (timesM k x z) (timesM k y z)))) || (!decide (V.int (plusM k (timesM k x z) (timesM k y z)) = V.int (timesM k (plusM k x y) z)))) = false
        rw [plus_times ox oy oz, decide_eq_true rfl]; rfl)) (fun h => by cases h) (fun _ H8 e8 => ?_)
  -- a divisor
  have G8 := G4.ex_of (((e5.trans e6).trans e7).trans e8)
  have kp8 : Keep a H H8 := kp3.trans (Keep.of ((((e4.trans e5).trans e6).trans e7).trans e8))
  have hp8 : H8 p = some (.lst [.int (plusM k x y), .int (minusM k x y), .int (timesM k x y)]) := ((((e5.trans e6).trans e7).trans e8)) _ _ hp
  have G8' : GenAt H8 a (n + 300) := G8.mono (by omega)
  refine ⟨_, rfl, _, rfl, (by show 3 ≤ sizeLine; decide), fun p1 np1 => ⟨_, rfl, a, 3, n + 300, rfl, G8'.ex_of (Evl.Ex.new np1), by decide, by decide +kernel, by omega, fun i H9 i0 i3 G9 K9 => ?_⟩⟩
  have n1a : p1 ≠ a := by
    obtain ⟨s0, s1, s2, h, _⟩ := G8.ex
    intro z; subst z; rw [np1] at h; cases h
  have L9 : SqL K H9 p1 [.int 7, .int 60, .int m] := sq_of (K9 _ _ upd_same n1a)
  obtain ⟨b, hb, b0, bz⟩ : ∃ b : Int, atI [V.int 7, V.int 60, V.int m] i = some (.int b) ∧ 0 < b ∧ sz b ≤ 100 := by
    have : i = 0 ∨ i = 1 ∨ i = 2 := by omega
    rcases this with z | z | z <;> subst z
    · exact ⟨7, rfl, by decide, by decide +kernel⟩
    · exact ⟨60, rfl, by decide, by decide +kernel⟩
    · exact ⟨m, rfl, hm, hmz⟩
  refine ⟨p1, _, i, _, rfl, rfl, L9, hb, a, b, n + 300 + 100, rfl, G9, b0, by omega, by omega, fun r H10 r0 rb G10 K10 => ⟨1, r, rfl, rfl, ?_⟩⟩
  have hby : 0 < 1 + r := by omega
  have zby : sz (1 + r) ≤ 100 := Nat.le_trans (sz_mono (by omega)) bz
  have kp10 : Keep a H H10 := ((kp8.trans (Keep.of (Evl.Ex.new np1))).trans K9).trans K10
  have hp10 : H10 p = some (.lst [.int (plusM k x y), .int (minusM k x y), .int (timesM k x y)]) := K10 _ _ (K9 _ _ (by rw [upd_ne (ne_of_none hp8 np1)]; exact hp8) npa) npa
  refine gn ?_
  dsimp only
  generalize 1 + r = by0 at hby zby ⊢
  have ob : Ok k by0 := Ok.of_le (by omega)
  have pq : (Ok k x ∧ 0 < by0) ∧ sz x ≤ 8000 ∧ sz by0 ≤ 8000 := ⟨⟨ox, hby⟩, by omega, by omega⟩
  have pr : (Ok k x ∧ 0 ≤ by0) ∧ sz x ≤ 8000 ∧ sz by0 ≤ 8000 := ⟨⟨ox, by omega⟩, by omega, by omega⟩
  have zq := sz_quo (k := k) ox hby
  have zr := sz_rem (k := k) ox hby
  have oq : Ok k (quoM k x by0) := ok_quo
  have orr : Ok k (remM k x by0) := ok_rem
  refine q_asgL (xs := [.int (quoM k x by0), .int (remM k x by0)]) ?_ fun p2 H11 np2 e11 hp2 => ?_
  · refine el_lst ?_ (by show 2 ≤ 100000; decide)
    refine ea_cons ?_ (ea_cons ?_ ea_nil)
    · exact ev_call (two_then (ev_var rfl) (ev_var rfl) (ev_var rfl)) (spv_P (k, x, by0) pq)
    · exact ev_call (two_then (ev_var rfl) (ev_var rfl) (ev_var rfl)) (spv_P (k, x, by0) pr)
  have G11 := G10.ex_of e11
  have M11 : SqL K H11 p2 [.int (quoM k x by0), .int (remM k x by0)] := sq_of hp2
  have L11 : SqL K H11 p [.int (plusM k x y), .int (minusM k x y), .int (timesM k x y)] := sq_of (e11 _ _ hp10)
  -- the rest is the law's own
  refine q_when (b := false) (et_is (et_or (et_test (ev_op (ev_cb (ea_cons (ev_op (ev_var rfl) ev_c (rv_ixL (i := 1) M11 rfl)) ea_nil) (rc_reprI (by omega))) (ev_cb (ea_cons (ev_call (two_then (ev_var rfl) (ev_var rfl) (ev_var rfl)) (spv_P (k, x, by0) pr)) ea_nil) (rc_reprI (by show sz (remM k x by0) ≤ 1900; omega))) (rv_ne rfl)))
    fun _ => et_or (et_B (ev_cb (ea_cons (ev_op (ev_var rfl) ev_c (rv_ixL (i := 0) M11 rfl)) (ea_cons ev_c ea_nil)) (rc_isiI (b := false) (by decide +kernel)))) fun _ => et_not (et_B (ev_cb (ea_cons (ev_op (ev_var rfl) ev_c (rv_ixL (i := 0) M11 rfl)) (ea_cons ev_c ea_nil)) (rc_isiI (b := true) (by decide +kernel)))))
    (by show ((!decide (V.str (PySem.PyData.int (remM k x by0)).shown = V.str (PySem.PyData.int (remM k x by0)).shown)) || (false || !true)) = false
        rw [ne_false]; rfl)) (fun h => by cases h) (fun _ H12 e12 => ?_)
  have M12 := ex_l e12 M11
  -- it comes to the number
  have tq := sz_times oq ob
  have tq2 := sz_times ob oq
  have hsum : ∀ c : Bool, c = isH k → plusM k (if c = true then timesM k (quoM k x by0) by0 else timesM k by0 (quoM k x by0)) (remM k x by0) = x := fun c _ => by
    rw [times_comm (a := quoM k x by0) (b := by0), ite_self]; exact quo_rem ox hby
  refine q_when (b := false) (et_is (et_test (ev_op (ev_call (two_then (ev_var rfl) (ev_is (ev_if (v := .int (timesM k by0 (quoM k x by0))) (et_kind (ev_var rfl))
      (fun _ => ev_is (ev_call (two_then (ev_var rfl) (ev_op (ev_var rfl) ev_c (rv_ixL (i := 0) M12 rfl)) (ev_var rfl)) (spv_P (k, quoM k x by0, by0) ⟨⟨oq, ob⟩, by show sz (quoM k x by0) ≤ 10000; omega, by show sz by0 ≤ 10000; omega⟩)) (by show V.int (timesM k (quoM k x by0) by0) = _; rw [times_comm]))
      (fun _ => ev_call (two_then (ev_var rfl) (ev_var rfl) (ev_op (ev_var rfl) ev_c (rv_ixL (i := 0) M12 rfl))) (spv_P (k, by0, quoM k x by0) ⟨⟨ob, oq⟩, by show sz by0 ≤ 10000; omega, by show sz (quoM k x by0) ≤ 10000; omega⟩))) rfl)
      (ev_op (ev_var rfl) ev_c (rv_ixL (i := 1) M12 rfl))) (spv_P (k, timesM k by0 (quoM k x by0), remM k x by0) ⟨ok_times ob oq, orr⟩)) (ev_var rfl) (rv_ne rfl)))
    (by show (!decide (V.int (plusM k (timesM k by0 (quoM k x by0)) (remM k x by0)) = V.int x)) = false
        rw [quo_rem ox hby, decide_eq_true rfl]; rfl)) (fun h => by cases h) (fun _ H13 e13 => ?_)
  have L13 := ex_l (e12.trans e13) L11
  have M13 := ex_l e13 M12
  -- the pairs
  have good : ∀ c ∈ ([(x, by0), (timesM k x y, x), (timesM k x y, y), (x, y), (x, 0), (0, x), (x, 1), (timesM k x y, z)] : List (Int × Int)), (Ok k c.1 ∧ Ok k c.2) ∧ sz c.1 ≤ 8000 ∧ sz c.2 ≤ 8000 := by
    have s0 : sz 0 ≤ 8000 := by rw [sz_zero]; omega
    have s1 : sz 1 ≤ 8000 := by decide +kernel
    have k0 : Ok k 0 := Ok.of_le (by decide)
    have k1 : Ok k 1 := Ok.of_le (by decide)
    intro c hc
    simp only [List.mem_cons, List.not_mem_nil, or_false] at hc
    rcases hc with rfl | rfl | rfl | rfl | rfl | rfl | rfl | rfl
    · exact ⟨⟨ox, ob⟩, by show sz x ≤ 8000; omega, by show sz by0 ≤ 8000; omega⟩
    · exact ⟨⟨oxy, ox⟩, by show sz (timesM k x y) ≤ 8000; omega, by show sz x ≤ 8000; omega⟩
    · exact ⟨⟨oxy, oy⟩, by show sz (timesM k x y) ≤ 8000; omega, by show sz y ≤ 8000; omega⟩
    · exact ⟨⟨ox, oy⟩, by show sz x ≤ 8000; omega, by show sz y ≤ 8000; omega⟩
    · exact ⟨⟨ox, k0⟩, by show sz x ≤ 8000; omega, s0⟩
    · exact ⟨⟨k0, ox⟩, s0, by show sz x ≤ 8000; omega⟩
    · exact ⟨⟨ox, k1⟩, by show sz x ≤ 8000; omega, s1⟩
    · exact ⟨⟨oxy, oz⟩, by show sz (timesM k x y) ≤ 8000; omega, by show sz z ≤ 8000; omega⟩
  have E13 : ∀ (u v : Int) (t1 t2 : TE) (σ : L2.St), Ev t1 σ H13 (.int u) → Ev t2 σ H13 (.int v) → EvD K (tTup (tCons t1 (tCons t2 tNil))) σ H13 (prD (u, v)) := fun u v t1 t2 σ h1 h2 => ed_tup (eds_cons (ed_int h1) (eds_cons (ed_int h2) eds_nil)) (by show 2 ≤ 100000; decide)
  refine q_forD (K := K) (ds := [(x, by0), (timesM k x y, x), (timesM k x y, y), (x, y), (x, 0), (0, x), (x, 1), (timesM k x y, z)].map prD) (ed_lst (eds_cons (E13 x by0 _ _ _ (ev_var rfl) (ev_var rfl)) (eds_cons (E13 (timesM k x y) x _ _ _ (ev_op (ev_var rfl) ev_c (rv_ixL (i := 2) L13 rfl)) (ev_var rfl)) (eds_cons (E13 (timesM k x y) y _ _ _ (ev_op (ev_var rfl) ev_c (rv_ixL (i := 2) L13 rfl)) (ev_var rfl))
    (eds_cons (E13 x y _ _ _ (ev_var rfl) (ev_var rfl)) (eds_cons (E13 x 0 _ _ _ (ev_var rfl) ev_c) (eds_cons (E13 0 x _ _ _ ev_c (ev_var rfl)) (eds_cons (E13 x 1 _ _ _ (ev_var rfl) ev_c) (eds_cons (E13 (timesM k x y) z _ _ _ (ev_op (ev_var rfl) ev_c (rv_ixL (i := 2) L13 rfl)) (ev_var rfl)) eds_nil)))))))) (by show 8 ≤ 100000; decide))
    (fun H14 _ σ' H' => ∃ u v : Option V, σ' = [some (.ref a), some (.str (ks k)), some (.int m), some (.int x), some (.int y), some (.int z), some (.ref p), some (.int (plusM k (timesM k x z) (timesM k y z))), some (.int by0), some (.ref p2), u, v] ∧ Evl.Ex H13 H14 ∧ Evl.Ex H14 H')
    (fun H14 e14 => ⟨none, none, rfl, e14, Evl.Ex.refl H14⟩) (fun _ _ _ _ ⟨_, _, _, _, e⟩ => e) ?_ ?_
  · rintro H14 i u d σ' H' e14 hi hd ⟨y1, y2, rfl, f1, f2⟩
    rw [List.getElem?_map] at hi
    obtain ⟨c, hc, rfl⟩ := Option.map_eq_some_iff.mp hi
    obtain ⟨⟨oc1, oc2⟩, zc1, zc2⟩ := good c (List.mem_of_getElem? hc)
    refine g_pair hd fun x1 x2 hx1 hx2 => ?_
    cases hx1
    cases hx2
    have oa2 : Ok k (c.2.natAbs : Int) := Ok.of_nat k _
    refine s_when (b := false) (et_is (et_test (ev_op (ev_cb (ea_cons (ev_call (two_then (ev_var rfl) (ev_var rfl) (ev_var rfl)) (spv_P (k, c.1, c.2) ⟨⟨oc1, oc2⟩, zc1, zc2⟩)) ea_nil) rc_reprB) (ev_cb (ea_cons (ev_call (two_then (ev_var rfl) (ev_var rfl) (ev_cb (ea_cons (ev_var rfl) ea_nil) rc_abs)) (spv_P (k, c.1, (c.2.natAbs : Int)) ⟨⟨oc1, Int.natCast_nonneg _⟩, zc1, by show sz (c.2.natAbs : Int) ≤ 8000; exact zc2⟩)) ea_nil) rc_reprB) (rv_ne rfl))) ?_) (fun h => by cases h) (fun _ H15 e15 => ?_)
    · show (!decide (V.str (PySem.PyData.bool (decide (remM k c.1 c.2 = 0))).shown = V.str (PySem.PyData.bool (decide (remM k c.1 (c.2.natAbs : Int) = 0))).shown)) = false
      rw [decide_eq_decide.mpr (rem_abs (k := k) (a := c.1) oc2)]; exact ne_false
    · exact ⟨_, _, rfl, f1, f2.trans e15⟩
  · rintro H14 σ' H' ⟨y1, y2, rfl, f1, f2⟩
    have M' := ex_l (f1.trans f2) M13
    have oby : Ok k (if isH k = true then 0 - by0 else by0) := by cases k; trivial; exact ob
    have zby2 : sz (if isH k = true then 0 - by0 else by0) ≤ 8000 := by
      split
      · rw [Int.zero_sub, sz_neg]; omega
      · omega
    have s0 : sz 0 ≤ 8000 := by rw [sz_zero]; omega
    refine s_ret (v := .bl true) (ev_is (ev_andV (b := true) (ev_op (ev_call (two_then (ev_var rfl) (ev_var rfl) ev_c) (spv_P (k, x, 0) ⟨⟨ox, by show (0 : Int) ≤ 0; decide⟩, by show sz x ≤ 8000; omega, s0⟩)) (ev_var rfl) (rv_eq rfl))
      fun _ => ev_is (ev_op (ev_cb (ea_cons (ev_call (two_then (ev_var rfl) (ev_var rfl) (ev_if (v := .int (if isH k = true then 0 - by0 else by0)) (et_kind (ev_var rfl)) (fun h => ev_is (ev_op (ev_c (v := .int 0)) (ev_var (v := .int by0) rfl) rv_I0) (by rw [if_pos h])) (fun h => ev_is (ev_var (v := .int by0) rfl) (by rw [if_neg (by rw [h]; decide)])))) (spv_P (k, x, if isH k = true then 0 - by0 else by0) ⟨⟨ox, oby⟩, by show sz x ≤ 8000; omega, zby2⟩)) ea_nil) rc_reprB)
        (ev_cb (ea_cons (ev_op (ev_op (ev_var rfl) ev_c (rv_ixL (i := 1) M' rfl)) ev_c (rv_eq rfl)) ea_nil) rc_reprB) (rv_eq rfl)) ?_) ?_) fun H15 e15 => ?_
    · show V.bl (decide (V.str (PySem.PyData.bool (decide (remM k x (if isH k = true then 0 - by0 else by0) = 0))).shown = V.str (PySem.PyData.bool (decide (V.int (remM k x by0) = V.int 0))).shown)) = V.bl true
      have e : decide (remM k x (if isH k = true then 0 - by0 else by0) = 0) = decide (V.int (remM k x by0) = V.int 0) := by
        apply decide_eq_decide.mpr
        rw [V.int.injEq]
        cases k
        · exact rem_negH
        · exact Iff.rfl
      rw [e, decide_eq_true rfl]
    · show V.bl (decide (V.int (remM k x 0) = V.int x) && true) = V.bl true
      rw [rem_zero ox, decide_eq_true rfl]; rfl
    · have ee : Evl.Ex H11 H15 := (((e12.trans e13).trans f1).trans f2).trans e15
      exact q H15 ((G11.ex_of ee).mono (by omega)) (kp10.trans (Keep.of (e11.trans ee)))
def spLaw (K : PySem.W.Frag) : Sp := fun vs H Q _ => ∃ (a : Addr) (ns : List Int), vs = [.ref a] ∧ SqL K H a (ns.map V.int) ∧ ns.length ≤ 63 ∧ ∀ H', Q (.bl true) H'
end
end Hr
namespace Hr
open PySem PySem.Spec PyProof.Rows L2 Evl
section
variable {P : Program} {w : World} {K : PySem.W.Frag} {mg : Str → Option Value} {base : Heap}
theorem el_cat {σ : L2.St} {H : Hp} {ta tb : TE} {xs ys : List V} (ha : EvL ta σ H xs) (hb : EvL tb σ H ys) (hl : xs.length + ys.length ≤ 100000) : EvL (tOp rCat ta tb) σ H (xs ++ ys) := fun H1 e Q q =>
  ha H1 e _ fun p H2 np e2 hp => hb H2 (e.trans e2) _ fun r H3 nr e3 hr' => ⟨p, r, xs, ys, rfl, rfl, e3 _ _ hp, hr', sz_of hl, fun l nl => q l _ (fresh_back (e2.trans e3) nl) ((e2.trans e3).trans (Evl.Ex.new nl)) upd_same⟩
theorem el_var {σ : L2.St} {H : Hp} {i : Nat} {p : Addr} {xs : List V} (h : σ[i]? = some (some (.ref p))) (hp : H p = some (.lst xs)) : ∀ {tb : TE} {ys : List V}, EvL tb σ H ys → xs.length + ys.length ≤ 100000 → EvL (tOp rCat (tVar i) tb) σ H (xs ++ ys) := fun hb hl H1 e Q q =>
  ⟨_, h, hb H1 e _ fun r H3 nr e3 hr' => ⟨p, r, xs, _, rfl, rfl, e3 _ _ (e _ _ hp), hr', sz_of hl, fun l nl => q l _ (fresh_back e3 nl) (e3.trans (Evl.Ex.new nl)) upd_same⟩⟩
theorem cH {σ : L2.St} {H : Hp} : Ev (tC (.str "hours")) σ H (.str (ks .H)) := ev_c
theorem cB {σ : L2.St} {H : Hp} : Ev (tC (.str "bits")) σ H (.str (ks .B)) := ev_c
theorem cN {σ : L2.St} {H : Hp} {i : Int} : Ev (tUn (rU fun i => .int (-i)) (tC (.int i))) σ H (.int (-i)) := ev_un ev_c ru_neg
theorem rem_val {n d q r : Nat} (hd : 0 < d) (hr : Gf.bl r < Gf.bl d) (h : n = Gf.mul d q ^^^ r) : Gf.quo n d = q ∧ Gf.rem n d = r := by
  obtain ⟨a, b⟩ := Gf.rem_spec (n := n) hd
  have z := Gf.div_one (q := q) (r := r) (q' := Gf.quo n d) (r' := Gf.rem n d) hd hr a (by rw [← h, ← b])
  exact ⟨z.1.symm, z.2.symm⟩
theorem m53 : Gf.mul 5 3 = 15 := by simp [Gf.mul_step 5 3, Gf.mul_step 5 1, Gf.mul_zero]
theorem m63 : Gf.mul 6 3 = 10 := by simp [Gf.mul_step 6 3, Gf.mul_step 6 1, Gf.mul_zero]
theorem v1 : Gf.quo 14 5 = 3 ∧ Gf.rem 14 5 = 1 := rem_val (by decide) (by decide) (by rw [m53]; rfl)
theorem v2 : Gf.quo 10 6 = 3 ∧ Gf.rem 10 6 = 0 := rem_val (by decide) (by decide) (by rw [m63]; rfl)
theorem v3 : Gf.quo 12 5 = 3 ∧ Gf.rem 12 5 = 3 := rem_val (by decide) (by decide) (by rw [m53]; rfl)
def mostM (k : Kd) : Int := if isH k = true then (10 : Int) ^ (29 : Int).toNat else (2 : Int) ^ (39 : Int).toNat
theorem mostM_ok (k : Kd) : 0 < mostM k ∧ sz (mostM k) ≤ 100 := by cases k <;> exact ⟨by decide +kernel, by decide +kernel⟩
theorem kinds_at {i : Nat} {x : V} (h : ([V.str "hours", V.str "bits"] : List V)[i]? = some x) : ∃ k : Kd, x = .str (ks k) := by
  match i, h with
  | 0, h => exact ⟨.H, (Option.some.inj h).symm⟩
  | 1, h => exact ⟨.B, (Option.some.inj h).symm⟩
  | i + 2, h => simp at h
theorem mosts_at {k : Kd} {i : Nat} {x : V} (h : ([V.int 20, V.int 500, V.int (mostM k)] : List V)[i]? = some x) : ∃ m : Int, x = .int m ∧ 0 < m ∧ sz m ≤ 100 := by
  match i, h with
  | 0, h => exact ⟨20, (Option.some.inj h).symm, by decide, by decide +kernel⟩
  | 1, h => exact ⟨500, (Option.some.inj h).symm, by decide, by decide +kernel⟩
  | 2, h => exact ⟨mostM k, (Option.some.inj h).symm, (mostM_ok k).1, (mostM_ok k).2⟩
  | i + 3, h => simp at h
theorem d_law {f : Addr} {fd : FuncData} (F : Fun K "law" "law" s_law f fd) (h_law_generator : Has P w K mg base 2 "_law_generator" P_law_generator (spGen (K := K))) (h_law_right : Has P w K mg base 6 "_law_right" P_law_right spRight)
    (h_added : Has P w K mg base 5 "added" P_added spPlus) (h_less : Has P w K mg base 5 "less" P_less spMinus) (h_product : Has P w K mg base 5 "product" P_product spTimes)
    (h_quotient : Has P w K mg base 5 "quotient" P_quotient spQuotient) (h_rest : Has P w K mg base 4 "rest" P_rest spRestN) (h_is_multiple : Has P w K mg base 5 "is_multiple" P_is_multiple spFactor)
    (z_range : mg "range" = none) : Fq P w K mg base CX0 7 f fd P_law (spLaw K) := by
  refine okq F sc_law (by rintro _ _ _ _ ⟨a, ns, rfl, _⟩; rfl) (fun cdv A out s H vs Q E hr h => ?_)
  obtain ⟨a, ns, rfl, hS, hlen, q⟩ := h
  refine ⟨_, (pss_cons (ps_for PassesOwn.never rfl (pi_range1 (by rfl) z_range (pa_cons pe_int pa_nil)) (pg_name (i := 1) sc_law.nd rfl (.inl rfl)) (pss_cons (ps_set (i := 2) sc_law.nd rfl (.inl rfl) (pe_h h_law_generator hr (pa_cons (pv 0) (pa_cons (pv 1) pa_nil))))
      (pss_one (ps_for PassesOwn.never rfl (pi_list (pe_lst (pa_cons pe_str (pa_cons pe_str pa_nil)))) (pg_name (i := 3) sc_law.nd rfl (.inl rfl)) (pss_one (ps_for PassesOwn.never rfl (pi_list (pe_lst (pa_cons pe_int (pa_cons pe_int (pa_cons (pe_ifExp (pt_cmpR op_eq (pv 3) pe_str (nomark _)) (pe_op op_powX pe_int pe_int) (pe_op op_powX pe_int pe_int)) pa_nil))))) (pg_name (i := 4) sc_law.nd rfl (.inl rfl)) (pss_one (ps_if (pt_not (pt_val (pe_h h_law_right hr (pa_cons (pv 2) (pa_cons (pv 3) (pa_cons (pv 4) pa_nil)))))) (pss_one (ps_ret pe_bl)) pss_nil))))))))
      (pss_cons (ps_set (i := 5) sc_law.nd rfl (.inl rfl) (pe_lst (pa_cons (pe_h h_added hr (pa_cons pe_str (pa_cons pe_int (pa_cons (pe_un un_neg pe_int) pa_nil)))) (pa_cons (pe_h h_added hr (pa_cons pe_str (pa_cons pe_int (pa_cons pe_int pa_nil)))) (pa_cons (pe_h h_less hr (pa_cons pe_str (pa_cons pe_int (pa_cons pe_int pa_nil)))) (pa_cons (pe_h h_product hr (pa_cons pe_str (pa_cons pe_int (pa_cons pe_int pa_nil)))) (pa_cons (pe_h h_product hr (pa_cons pe_str (pa_cons (pe_un un_neg pe_int) (pa_cons pe_int pa_nil)))) pa_nil)))))))
      (pss_cons (ps_set (i := 5) sc_law.nd rfl (.inl rfl) (pe_op op_cat (pv 5) (pe_lst (pa_cons (pe_h h_quotient hr (pa_cons pe_str (pa_cons (pe_un un_neg pe_int) (pa_cons pe_int pa_nil)))) (pa_cons (pe_h h_rest hr (pa_cons pe_str (pa_cons (pe_un un_neg pe_int) (pa_cons pe_int pa_nil)))) (pa_cons (pe_h h_quotient hr (pa_cons pe_str (pa_cons pe_int (pa_cons pe_int pa_nil)))) (pa_cons (pe_h h_rest hr (pa_cons pe_str (pa_cons pe_int (pa_cons pe_int pa_nil)))) pa_nil)))))))
      (pss_cons (ps_set (i := 5) sc_law.nd rfl (.inl rfl) (pe_op op_cat (pv 5) (pe_lst (pa_cons (pe_h h_rest hr (pa_cons pe_str (pa_cons (pe_un un_neg pe_int) (pa_cons pe_int pa_nil)))) (pa_cons (pe_h h_is_multiple hr (pa_cons pe_str (pa_cons pe_int (pa_cons pe_int pa_nil)))) (pa_cons (pe_h h_is_multiple hr (pa_cons pe_str (pa_cons pe_int (pa_cons pe_int pa_nil)))) (pa_cons (pe_h h_is_multiple hr (pa_cons pe_str (pa_cons pe_int (pa_cons pe_int pa_nil)))) (pa_cons (pe_h h_is_multiple hr (pa_cons pe_str (pa_cons pe_int (pa_cons pe_int pa_nil)))) pa_nil))))))))
      (pss_one (ps_ret (pe_cmpR (op_eqD hr.room.units) (pv 5) (pe_lst (pa_cons (pe_un un_neg pe_int) (pa_cons pe_int (pa_cons (pe_un un_neg pe_int) (pa_cons pe_int (pa_cons (pe_un un_neg pe_int) (pa_cons (pe_un un_neg pe_int) (pa_cons pe_int (pa_cons pe_int (pa_cons pe_int (pa_cons (pe_un un_neg pe_int) (pa_cons pe_bl (pa_cons pe_bl (pa_cons pe_bl (pa_cons pe_bl pa_nil))))))))))))))) (nomark _)))))))), ?_⟩
  refine q_forR1 (n := 2) (ea_cons ev_c ea_nil) (by decide) (fun i σ' H' => ∃ y1 y2 y3 y4 : Option V, σ' = [some (.ref a), y1, y2, y3, y4, none] ∧ Evl.Ex H H')
    (fun H1 e1 => ⟨none, none, none, none, rfl, e1⟩) ?_ ?_
  · rintro i σ' H' hi ⟨y1, y2, y3, y4, rfl, e⟩
    -- the generator
    refine ⟨_, rfl, _, rfl, a, ns, i, rfl, ex_l e hS, by omega, fun p H1 np e1 G1 => ?_⟩
    have np0 : H p = none := fresh_back e np
    have l2 : (2 : Nat) ≤ 100000 := by decide
    refine s_forNL (K := K) (xs := [.str "hours", .str "bits"]) (el_lst (ea_cons ev_c (ea_cons ev_c ea_nil)) l2)
      (fun l j σ' H' => ∃ y3 y4 : Option V, σ' = [some (.ref a), some (.int (i : Int)), some (.ref p), y3, y4, none] ∧ Evl.Ex H H' ∧ GenAt H' p (100000 + 3000 * j) ∧ H' l = some (.lst [.str "hours", .str "bits"]) ∧ l ≠ p)
      (fun l H2 nl e2 hl => ⟨y3, y4, rfl, (e.trans e1).trans e2, G1.ex_of e2, hl, fun z => by subst z; obtain ⟨_, _, _, h, _⟩ := G1.ex; rw [nl] at h; cases h⟩)
      (fun l j σ' H' _ ⟨_, _, _, _, _, hl, _⟩ => sq_of hl) ?_ ?_
    · rintro l j u σ' H2 hj ⟨y3, y4, rfl, e2, G2, hl, nlp⟩
      obtain ⟨k, rfl⟩ := kinds_at hj
      refine gn ?_
      have l3 : (3 : Nat) ≤ 100000 := by decide
      refine s_forNL (K := K) (xs := [.int 20, .int 500, .int (mostM k)]) (el_lst (ea_cons ev_c (ea_cons ev_c (ea_cons (ev_if (et_kind (ev_var rfl)) (fun h => ev_is (ev_op ev_c ev_c (rv_I (by constructor <;> decide +kernel))) (by rw [mostM, if_pos h])) (fun h => ev_is (ev_op ev_c ev_c (rv_I (by constructor <;> decide +kernel))) (by rw [mostM, if_neg (by rw [h]; decide)]))) ea_nil))) l3)
        (fun l2 j2 σ' H' => ∃ y4 : Option V, σ' = [some (.ref a), some (.int (i : Int)), some (.ref p), some (.str (ks k)), y4, none] ∧ Evl.Ex H H' ∧ GenAt H' p (100000 + 3000 * j + 1000 * j2) ∧ H' l = some (.lst [.str "hours", .str "bits"]) ∧ H' l2 = some (.lst [.int 20, .int 500, .int (mostM k)]) ∧ l2 ≠ p)
        (fun l2 H3 nl e3 hl2 => ⟨y4, rfl, e2.trans e3, G2.ex_of e3, e3 _ _ hl, hl2, fun z => by subst z; obtain ⟨_, _, _, h, _⟩ := G2.ex; rw [nl] at h; cases h⟩)
        (fun l2 j2 σ' H' _ ⟨_, _, _, _, _, hl, _⟩ => sq_of hl) ?_ ?_
      · rintro l2 j2 u σ' H3 hj2 ⟨y4, rfl, e3, G3, hl', hl2, nl2⟩
        obtain ⟨m, rfl, hm, hmz⟩ := mosts_at hj2
        have hjl : j < 2 := by have := (List.getElem?_eq_some_iff.mp hj).1; exact this
        have hj2l : j2 < 3 := by have := (List.getElem?_eq_some_iff.mp hj2).1; exact this
        refine gn ?_
        refine ⟨_, rfl, _, rfl, _, rfl, p, k, m, _, rfl, G3, hm, hmz, by omega, fun H4 G4 K4 => ⟨true, rfl, ?_⟩⟩
        refine iteF ?_
        exact ⟨_, rfl, fun b o h => K4 b o (e3 b o h) (ne_of_none h np0), G4.mono (by omega), K4 _ _ hl' nlp, K4 _ _ hl2 nl2, nl2⟩
      · rintro l2 σ' H3 ⟨y4, rfl, e3, G3, hl', hl2, nl2⟩
        have l3' : ([V.int 20, V.int 500, V.int (mostM k)] : List V).length = 3 := rfl
        rw [l3'] at G3
        exact ⟨_, _, rfl, e3, G3.mono (by omega), hl', nlp⟩
    · rintro l σ' H2 ⟨y3, y4, rfl, e2, G2, hl, nlp⟩
      exact ⟨_, _, _, _, rfl, e2⟩
  · rintro σ' H1 ⟨y1, y2, y3, y4, rfl, e1⟩
    have l5 : (5 : Nat) ≤ 100000 := by decide
    have l4 : (4 : Nat) ≤ 100000 := by decide
    have z1 : ∀ i : Int, i.natAbs < 16 → sz i ≤ 8000 := fun i h => Nat.le_trans (sz_c (n := 4) h) (by decide)
    have z2 : ∀ i : Int, i.natAbs < 16 → sz i ≤ 10000 := fun i h => Nat.le_trans (sz_c (n := 4) h) (by decide)
    have n0 : ∀ n : Nat, Ok .B (n : Int) := fun n => Int.natCast_nonneg n
    refine q_asgL (xs := [.int (-2), .int 5, .int (-2), .int 10, .int (-18)]) (el_lst (ea_cons (ev_is (ev_call (two_then cH ev_c cN) (c_plus .H 7 (-9) trivial trivial)) rfl)
      (ea_cons (ev_is (ev_call (two_then cB ev_c ev_c) (c_plus .B 6 3 (n0 6) (n0 3))) rfl) (ea_cons (ev_is (ev_call (two_then cH ev_c ev_c) (c_minus .H 7 9 trivial trivial)) rfl)
      (ea_cons (ev_is (ev_call (two_then cB ev_c ev_c) (c_times .B 6 3 (n0 6) (n0 3) (z2 6 (by decide)) (z2 3 (by decide)))) (by show V.int ((Gf.mul 6 3 : Nat) : Int) = _; rw [m63]; rfl)) (ea_cons (ev_is (ev_call (two_then cH cN ev_c) (c_times .H (-6) 3 trivial trivial (z2 (-6) (by decide)) (z2 3 (by decide)))) rfl) ea_nil))))) l5) fun p1 H2 n1 e2 h2 => ?_
    refine q_asgL (xs := [.int (-2), .int 5, .int (-2), .int 10, .int (-18)] ++ [.int (-3), .int 2, .int 3, .int 1]) (el_var rfl h2 (el_lst (ea_cons (ev_is (ev_call (two_then cH cN ev_c) (c_quot .H (-7) 3 trivial (by decide) (z1 (-7) (by decide)) (z1 3 (by decide)))) (by decide +kernel))
      (ea_cons (ev_is (ev_call (two_then cH cN ev_c) (c_rest .H (-7) 3 trivial (by decide) (z1 (-7) (by decide)) (z1 3 (by decide)))) (by decide +kernel)) (ea_cons (ev_is (ev_call (two_then cB ev_c ev_c) (c_quot .B 14 5 (n0 14) (by decide) (z1 14 (by decide)) (z1 5 (by decide)))) (by show V.int ((Gf.quo 14 5 : Nat) : Int) = _; rw [v1.1]; rfl))
      (ea_cons (ev_is (ev_call (two_then cB ev_c ev_c) (c_rest .B 14 5 (n0 14) (by decide) (z1 14 (by decide)) (z1 5 (by decide)))) (by show V.int ((Gf.rem 14 5 : Nat) : Int) = _; rw [v1.2]; rfl)) ea_nil)))) l4) (by show 5 + 4 ≤ 100000; decide)) fun p2 H3 n2 e3 h3 => ?_
    refine q_asgL (xs := ([.int (-2), .int 5, .int (-2), .int 10, .int (-18)] ++ [.int (-3), .int 2, .int 3, .int 1]) ++ [.int (-7), .bl true, .bl false, .bl true, .bl true]) (el_var rfl h3 (el_lst (ea_cons (ev_is (ev_call (two_then cH cN ev_c) (c_rest .H (-7) 0 trivial (by decide) (z1 (-7) (by decide)) (z1 0 (by decide)))) (by decide +kernel))
      (ea_cons (ev_is (ev_call (two_then cB ev_c ev_c) (c_factor .B 10 6 (n0 10) (n0 6) (z1 10 (by decide)) (z1 6 (by decide)))) (by show V.bl (decide (((Gf.rem 10 6 : Nat) : Int) = 0)) = _; rw [v2.2]; rfl)) (ea_cons (ev_is (ev_call (two_then cB ev_c ev_c) (c_factor .B 12 5 (n0 12) (n0 5) (z1 12 (by decide)) (z1 5 (by decide)))) (by show V.bl (decide (((Gf.rem 12 5 : Nat) : Int) = 0)) = _; rw [v3.2]; rfl))
      (ea_cons (ev_is (ev_call (two_then cH ev_c ev_c) (c_factor .H 0 0 trivial trivial (z1 0 (by decide)) (z1 0 (by decide)))) (by decide +kernel)) (ea_cons (ev_is (ev_call (two_then cH ev_c ev_c) (c_factor .H 5 1 trivial trivial (z1 5 (by decide)) (z1 1 (by decide)))) (by decide +kernel)) ea_nil))))) l5) (by show 9 + 5 ≤ 100000; decide)) fun p3 H4 n3 e4 h4 => ?_
    have dI : ∀ (i : Int) (te : TE) (σ : L2.St) (H' : Hp), Ev te σ H' (.int i) → EvD K te σ H' (.int i) := fun _ _ _ _ h => ed_int h
    have big : DpAll K H4 (([.int (-2), .int 5, .int (-2), .int 10, .int (-18)] ++ [.int (-3), .int 2, .int 3, .int 1]) ++ [.int (-7), .bl true, .bl false, .bl true, .bl true]) [.int (-2), .int 5, .int (-2), .int 10, .int (-18), .int (-3), .int 2, .int 3, .int 1, .int (-7), .bool true, .bool false, .bool true, .bool true] :=
      .cons (.int _) (.cons (.int _) (.cons (.int _) (.cons (.int _) (.cons (.int _) (.cons (.int _) (.cons (.int _) (.cons (.int _) (.cons (.int _) (.cons (.int _) (.cons (.bl _) (.cons (.bl _) (.cons (.bl _) (.cons (.bl _) .nil)))))))))))))
    refine s_ret (v := .bl true) (ev_is (ev_eqD (K := K) (ed_var rfl (.lst (sq_of h4) big)) (ed_lst (eds_cons (ed_int cN) (eds_cons (ed_int ev_c) (eds_cons (ed_int cN) (eds_cons (ed_int ev_c) (eds_cons (ed_int cN) (eds_cons (ed_int cN) (eds_cons (ed_int ev_c) (eds_cons (ed_int ev_c) (eds_cons (ed_int ev_c) (eds_cons (ed_int cN)
      (eds_cons (ed_bl ev_c) (eds_cons (ed_bl ev_c) (eds_cons (ed_bl ev_c) (eds_cons (ed_bl ev_c) eds_nil)))))))))))))) (by show 14 ≤ 100000; decide)) (by decide +kernel) (by decide +kernel)) (by decide +kernel)) fun H5 _ => q H5
end
end Hr
namespace Hr
open PySem PySem.Spec PyProof.Rows L2 Evl
/-! ### what the top has written -/
theorem def_mk {K : PySem.W.Frag} {h : Heap} {mg : Str → Option Value} {x : Str} {st : Stmt} {ps : List Str} {f : Addr} {oc kV dc pm cd ct : Value} {od an : Option Addr} {sl : Array (Option Value)} (X : K.In h) (G : h.Ns mainGlobals mg)
    (a : PySem.W.nsIn K mainGlobals x = some (some (.ref f))) (l : K.lookup f = some ⟨oc, od, .func (PySem.W.fnOf x x (defArgs st) (defBody st) (defScope st) .none kV dc pm an cd ct), sl⟩) (c : PySem.W.codeIn K cd x = true) (k : PySem.W.keepIn K (.ref f) = true)
    (b : ∀ (kV dc pm : Value) (an : Option Addr) (cd ct : Value) (us : List Value), us.length = ps.length → bindArgs (PySem.W.fnOf x x (defArgs st) (defBody st) (defScope st) .none kV dc pm an cd ct) ⟨us, []⟩ = pure (ps.zip us)) : Def K mg x st ps :=
  ⟨f, _, PySem.W.mg_of X G a, fun_mk l c k, (fun_mk (st := st) l c k).binds b⟩
theorem kin_tup {K : PySem.W.Frag} {H : Hp} {a : Addr} {dd : Option Addr} {us : Array Value} {n : Nat} {sl : Array (Option Value)} {xs : List V} (l : K.lookup a = some ⟨.type "tuple", dd, .seq us n, sl⟩) (r : Vals xs us.toList) (hl : xs.length ≤ 100000) : SqT K H a xs :=
  .inr ⟨_, us, _, l, rfl, rfl, by rw [← Array.length_toList, ← r.length]; exact sz_of hl, r⟩
theorem all_mk {l : PySem.W.OpenLaw} {w : World} {K : PySem.W.Frag} {h : Heap} {mg : Str → Option Value} {fa : Addr} (X : K.In h) (G : h.Ns mainGlobals mg) (hfa : mg "law" = some (.ref fa))
    {f1 : Addr} {od1 an1 : Option Addr} {sl1 : Array (Option Value)} {oc1 kV1 dc1 pm1 cd1 ct1 : Value}
    {f2 : Addr} {od2 an2 : Option Addr} {sl2 : Array (Option Value)} {oc2 kV2 dc2 pm2 cd2 ct2 : Value}
    {f3 : Addr} {od3 an3 : Option Addr} {sl3 : Array (Option Value)} {oc3 kV3 dc3 pm3 cd3 ct3 : Value}
    {f4 : Addr} {od4 an4 : Option Addr} {sl4 : Array (Option Value)} {oc4 kV4 dc4 pm4 cd4 ct4 : Value}
    {f5 : Addr} {od5 an5 : Option Addr} {sl5 : Array (Option Value)} {oc5 kV5 dc5 pm5 cd5 ct5 : Value}
    {f6 : Addr} {od6 an6 : Option Addr} {sl6 : Array (Option Value)} {oc6 kV6 dc6 pm6 cd6 ct6 : Value}
    {f7 : Addr} {od7 an7 : Option Addr} {sl7 : Array (Option Value)} {oc7 kV7 dc7 pm7 cd7 ct7 : Value}
    {f8 : Addr} {od8 an8 : Option Addr} {sl8 : Array (Option Value)} {oc8 kV8 dc8 pm8 cd8 ct8 : Value}
    {f9 : Addr} {od9 an9 : Option Addr} {sl9 : Array (Option Value)} {oc9 kV9 dc9 pm9 cd9 ct9 : Value}
    {f10 : Addr} {od10 an10 : Option Addr} {sl10 : Array (Option Value)} {oc10 kV10 dc10 pm10 cd10 ct10 : Value}
    {f11 : Addr} {od11 an11 : Option Addr} {sl11 : Array (Option Value)} {oc11 kV11 dc11 pm11 cd11 ct11 : Value}
    {f12 : Addr} {od12 an12 : Option Addr} {sl12 : Array (Option Value)} {oc12 kV12 dc12 pm12 cd12 ct12 : Value}
    {f13 : Addr} {od13 an13 : Option Addr} {sl13 : Array (Option Value)} {oc13 kV13 dc13 pm13 cd13 ct13 : Value}
    {f14 : Addr} {od14 an14 : Option Addr} {sl14 : Array (Option Value)} {oc14 kV14 dc14 pm14 cd14 ct14 : Value}
    {f15 : Addr} {od15 an15 : Option Addr} {sl15 : Array (Option Value)} {oc15 kV15 dc15 pm15 cd15 ct15 : Value}
    {f16 : Addr} {od16 an16 : Option Addr} {sl16 : Array (Option Value)} {oc16 kV16 dc16 pm16 cd16 ct16 : Value}
    {f17 : Addr} {od17 an17 : Option Addr} {sl17 : Array (Option Value)} {oc17 kV17 dc17 pm17 cd17 ct17 : Value}
    {f18 : Addr} {od18 an18 : Option Addr} {sl18 : Array (Option Value)} {oc18 kV18 dc18 pm18 cd18 ct18 : Value}
    {f19 : Addr} {od19 an19 : Option Addr} {sl19 : Array (Option Value)} {oc19 kV19 dc19 pm19 cd19 ct19 : Value}
    {f20 : Addr} {od20 an20 : Option Addr} {sl20 : Array (Option Value)} {oc20 kV20 dc20 pm20 cd20 ct20 : Value}
    {f21 : Addr} {od21 an21 : Option Addr} {sl21 : Array (Option Value)} {oc21 kV21 dc21 pm21 cd21 ct21 : Value}
    {f22 : Addr} {od22 an22 : Option Addr} {sl22 : Array (Option Value)} {oc22 kV22 dc22 pm22 cd22 ct22 : Value}
    {f23 : Addr} {od23 an23 : Option Addr} {sl23 : Array (Option Value)} {oc23 kV23 dc23 pm23 cd23 ct23 : Value}
    {f24 : Addr} {od24 an24 : Option Addr} {sl24 : Array (Option Value)} {oc24 kV24 dc24 pm24 cd24 ct24 : Value}
    {f25 : Addr} {od25 an25 : Option Addr} {sl25 : Array (Option Value)} {oc25 kV25 dc25 pm25 cd25 ct25 : Value}
    {f26 : Addr} {od26 an26 : Option Addr} {sl26 : Array (Option Value)} {oc26 kV26 dc26 pm26 cd26 ct26 : Value}
    {f27 : Addr} {od27 an27 : Option Addr} {sl27 : Array (Option Value)} {oc27 kV27 dc27 pm27 cd27 ct27 : Value}
    {f28 : Addr} {od28 an28 : Option Addr} {sl28 : Array (Option Value)} {oc28 kV28 dc28 pm28 cd28 ct28 : Value}
    {f29 : Addr} {od29 an29 : Option Addr} {sl29 : Array (Option Value)} {oc29 kV29 dc29 pm29 cd29 ct29 : Value}
    {f30 : Addr} {od30 an30 : Option Addr} {sl30 : Array (Option Value)} {oc30 kV30 dc30 pm30 cd30 ct30 : Value}
    {f31 : Addr} {od31 an31 : Option Addr} {sl31 : Array (Option Value)} {oc31 kV31 dc31 pm31 cd31 ct31 : Value}
    {f32 : Addr} {od32 an32 : Option Addr} {sl32 : Array (Option Value)} {oc32 kV32 dc32 pm32 cd32 ct32 : Value}
    {kd : Addr} {ddk : Option Addr} {tk1 tk2 : Tok} {nk : Nat} {slk : Array (Option Value)}
    (a1 : PySem.W.nsIn K mainGlobals "plus" = some (some (.ref f1))) (l1 : K.lookup f1 = some ⟨oc1, od1, .func (PySem.W.fnOf "plus" "plus" (defArgs s_plus) (defBody s_plus) (defScope s_plus) .none kV1 dc1 pm1 an1 cd1 ct1), sl1⟩) (c1 : PySem.W.codeIn K cd1 "plus" = true) (k1 : PySem.W.keepIn K (.ref f1) = true)
    (a2 : PySem.W.nsIn K mainGlobals "minus" = some (some (.ref f2))) (l2 : K.lookup f2 = some ⟨oc2, od2, .func (PySem.W.fnOf "minus" "minus" (defArgs s_minus) (defBody s_minus) (defScope s_minus) .none kV2 dc2 pm2 an2 cd2 ct2), sl2⟩) (c2 : PySem.W.codeIn K cd2 "minus" = true) (k2 : PySem.W.keepIn K (.ref f2) = true)
    (a3 : PySem.W.nsIn K mainGlobals "times" = some (some (.ref f3))) (l3 : K.lookup f3 = some ⟨oc3, od3, .func (PySem.W.fnOf "times" "times" (defArgs s_times) (defBody s_times) (defScope s_times) .none kV3 dc3 pm3 an3 cd3 ct3), sl3⟩) (c3 : PySem.W.codeIn K cd3 "times" = true) (k3 : PySem.W.keepIn K (.ref f3) = true)
    (a4 : PySem.W.nsIn K mainGlobals "split_by" = some (some (.ref f4))) (l4 : K.lookup f4 = some ⟨oc4, od4, .func (PySem.W.fnOf "split_by" "split_by" (defArgs s_split_by) (defBody s_split_by) (defScope s_split_by) .none kV4 dc4 pm4 an4 cd4 ct4), sl4⟩) (c4 : PySem.W.codeIn K cd4 "split_by" = true) (k4 : PySem.W.keepIn K (.ref f4) = true)
    (a5 : PySem.W.nsIn K mainGlobals "rest_by" = some (some (.ref f5))) (l5 : K.lookup f5 = some ⟨oc5, od5, .func (PySem.W.fnOf "rest_by" "rest_by" (defArgs s_rest_by) (defBody s_rest_by) (defScope s_rest_by) .none kV5 dc5 pm5 an5 cd5 ct5), sl5⟩) (c5 : PySem.W.codeIn K cd5 "rest_by" = true) (k5 : PySem.W.keepIn K (.ref f5) = true)
    (a6 : PySem.W.nsIn K mainGlobals "has_factor" = some (some (.ref f6))) (l6 : K.lookup f6 = some ⟨oc6, od6, .func (PySem.W.fnOf "has_factor" "has_factor" (defArgs s_has_factor) (defBody s_has_factor) (defScope s_has_factor) .none kV6 dc6 pm6 an6 cd6 ct6), sl6⟩) (c6 : PySem.W.codeIn K cd6 "has_factor" = true) (k6 : PySem.W.keepIn K (.ref f6) = true)
    (a7 : PySem.W.nsIn K mainGlobals "is_kind" = some (some (.ref f7))) (l7 : K.lookup f7 = some ⟨oc7, od7, .func (PySem.W.fnOf "is_kind" "is_kind" (defArgs s_is_kind) (defBody s_is_kind) (defScope s_is_kind) .none kV7 dc7 pm7 an7 cd7 ct7), sl7⟩) (c7 : PySem.W.codeIn K cd7 "is_kind" = true) (k7 : PySem.W.keepIn K (.ref f7) = true)
    (a8 : PySem.W.nsIn K mainGlobals "is_whole" = some (some (.ref f8))) (l8 : K.lookup f8 = some ⟨oc8, od8, .func (PySem.W.fnOf "is_whole" "is_whole" (defArgs s_is_whole) (defBody s_is_whole) (defScope s_is_whole) .none kV8 dc8 pm8 an8 cd8 ct8), sl8⟩) (c8 : PySem.W.codeIn K cd8 "is_whole" = true) (k8 : PySem.W.keepIn K (.ref f8) = true)
    (a9 : PySem.W.nsIn K mainGlobals "is_count" = some (some (.ref f9))) (l9 : K.lookup f9 = some ⟨oc9, od9, .func (PySem.W.fnOf "is_count" "is_count" (defArgs s_is_count) (defBody s_is_count) (defScope s_is_count) .none kV9 dc9 pm9 an9 cd9 ct9), sl9⟩) (c9 : PySem.W.codeIn K cd9 "is_count" = true) (k9 : PySem.W.keepIn K (.ref f9) = true)
    (a10 : PySem.W.nsIn K mainGlobals "is_number" = some (some (.ref f10))) (l10 : K.lookup f10 = some ⟨oc10, od10, .func (PySem.W.fnOf "is_number" "is_number" (defArgs s_is_number) (defBody s_is_number) (defScope s_is_number) .none kV10 dc10 pm10 an10 cd10 ct10), sl10⟩) (c10 : PySem.W.codeIn K cd10 "is_number" = true) (k10 : PySem.W.keepIn K (.ref f10) = true)
    (a11 : PySem.W.nsIn K mainGlobals "check_kind" = some (some (.ref f11))) (l11 : K.lookup f11 = some ⟨oc11, od11, .func (PySem.W.fnOf "check_kind" "check_kind" (defArgs s_check_kind) (defBody s_check_kind) (defScope s_check_kind) .none kV11 dc11 pm11 an11 cd11 ct11), sl11⟩) (c11 : PySem.W.codeIn K cd11 "check_kind" = true) (k11 : PySem.W.keepIn K (.ref f11) = true)
    (a12 : PySem.W.nsIn K mainGlobals "check_number" = some (some (.ref f12))) (l12 : K.lookup f12 = some ⟨oc12, od12, .func (PySem.W.fnOf "check_number" "check_number" (defArgs s_check_number) (defBody s_check_number) (defScope s_check_number) .none kV12 dc12 pm12 an12 cd12 ct12), sl12⟩) (c12 : PySem.W.codeIn K cd12 "check_number" = true) (k12 : PySem.W.keepIn K (.ref f12) = true)
    (a13 : PySem.W.nsIn K mainGlobals "check_count" = some (some (.ref f13))) (l13 : K.lookup f13 = some ⟨oc13, od13, .func (PySem.W.fnOf "check_count" "check_count" (defArgs s_check_count) (defBody s_check_count) (defScope s_check_count) .none kV13 dc13 pm13 an13 cd13 ct13), sl13⟩) (c13 : PySem.W.codeIn K cd13 "check_count" = true) (k13 : PySem.W.keepIn K (.ref f13) = true)
    (a14 : PySem.W.nsIn K mainGlobals "check_two" = some (some (.ref f14))) (l14 : K.lookup f14 = some ⟨oc14, od14, .func (PySem.W.fnOf "check_two" "check_two" (defArgs s_check_two) (defBody s_check_two) (defScope s_check_two) .none kV14 dc14 pm14 an14 cd14 ct14), sl14⟩) (c14 : PySem.W.codeIn K cd14 "check_two" = true) (k14 : PySem.W.keepIn K (.ref f14) = true)
    (a15 : PySem.W.nsIn K mainGlobals "added" = some (some (.ref f15))) (l15 : K.lookup f15 = some ⟨oc15, od15, .func (PySem.W.fnOf "added" "added" (defArgs s_added) (defBody s_added) (defScope s_added) .none kV15 dc15 pm15 an15 cd15 ct15), sl15⟩) (c15 : PySem.W.codeIn K cd15 "added" = true) (k15 : PySem.W.keepIn K (.ref f15) = true)
    (a16 : PySem.W.nsIn K mainGlobals "less" = some (some (.ref f16))) (l16 : K.lookup f16 = some ⟨oc16, od16, .func (PySem.W.fnOf "less" "less" (defArgs s_less) (defBody s_less) (defScope s_less) .none kV16 dc16 pm16 an16 cd16 ct16), sl16⟩) (c16 : PySem.W.codeIn K cd16 "less" = true) (k16 : PySem.W.keepIn K (.ref f16) = true)
    (a17 : PySem.W.nsIn K mainGlobals "product" = some (some (.ref f17))) (l17 : K.lookup f17 = some ⟨oc17, od17, .func (PySem.W.fnOf "product" "product" (defArgs s_product) (defBody s_product) (defScope s_product) .none kV17 dc17 pm17 an17 cd17 ct17), sl17⟩) (c17 : PySem.W.codeIn K cd17 "product" = true) (k17 : PySem.W.keepIn K (.ref f17) = true)
    (a18 : PySem.W.nsIn K mainGlobals "quotient" = some (some (.ref f18))) (l18 : K.lookup f18 = some ⟨oc18, od18, .func (PySem.W.fnOf "quotient" "quotient" (defArgs s_quotient) (defBody s_quotient) (defScope s_quotient) .none kV18 dc18 pm18 an18 cd18 ct18), sl18⟩) (c18 : PySem.W.codeIn K cd18 "quotient" = true) (k18 : PySem.W.keepIn K (.ref f18) = true)
    (a19 : PySem.W.nsIn K mainGlobals "rest" = some (some (.ref f19))) (l19 : K.lookup f19 = some ⟨oc19, od19, .func (PySem.W.fnOf "rest" "rest" (defArgs s_rest) (defBody s_rest) (defScope s_rest) .none kV19 dc19 pm19 an19 cd19 ct19), sl19⟩) (c19 : PySem.W.codeIn K cd19 "rest" = true) (k19 : PySem.W.keepIn K (.ref f19) = true)
    (a20 : PySem.W.nsIn K mainGlobals "is_multiple" = some (some (.ref f20))) (l20 : K.lookup f20 = some ⟨oc20, od20, .func (PySem.W.fnOf "is_multiple" "is_multiple" (defArgs s_is_multiple) (defBody s_is_multiple) (defScope s_is_multiple) .none kV20 dc20 pm20 an20 cd20 ct20), sl20⟩) (c20 : PySem.W.codeIn K cd20 "is_multiple" = true) (k20 : PySem.W.keepIn K (.ref f20) = true)
    (a21 : PySem.W.nsIn K mainGlobals "_law_hash" = some (some (.ref f21))) (l21 : K.lookup f21 = some ⟨oc21, od21, .func (PySem.W.fnOf "_law_hash" "_law_hash" (defArgs s_law_hash) (defBody s_law_hash) (defScope s_law_hash) .none kV21 dc21 pm21 an21 cd21 ct21), sl21⟩) (c21 : PySem.W.codeIn K cd21 "_law_hash" = true) (k21 : PySem.W.keepIn K (.ref f21) = true)
    (a22 : PySem.W.nsIn K mainGlobals "_law_random" = some (some (.ref f22))) (l22 : K.lookup f22 = some ⟨oc22, od22, .func (PySem.W.fnOf "_law_random" "_law_random" (defArgs s_law_random) (defBody s_law_random) (defScope s_law_random) .none kV22 dc22 pm22 an22 cd22 ct22), sl22⟩) (c22 : PySem.W.codeIn K cd22 "_law_random" = true) (k22 : PySem.W.keepIn K (.ref f22) = true)
    (a23 : PySem.W.nsIn K mainGlobals "_law_cell" = some (some (.ref f23))) (l23 : K.lookup f23 = some ⟨oc23, od23, .func (PySem.W.fnOf "_law_cell" "_law_cell" (defArgs s_law_cell) (defBody s_law_cell) (defScope s_law_cell) .none kV23 dc23 pm23 an23 cd23 ct23), sl23⟩) (c23 : PySem.W.codeIn K cd23 "_law_cell" = true) (k23 : PySem.W.keepIn K (.ref f23) = true)
    (a24 : PySem.W.nsIn K mainGlobals "_law_generator" = some (some (.ref f24))) (l24 : K.lookup f24 = some ⟨oc24, od24, .func (PySem.W.fnOf "_law_generator" "_law_generator" (defArgs s_law_generator) (defBody s_law_generator) (defScope s_law_generator) .none kV24 dc24 pm24 an24 cd24 ct24), sl24⟩) (c24 : PySem.W.codeIn K cd24 "_law_generator" = true) (k24 : PySem.W.keepIn K (.ref f24) = true)
    (a25 : PySem.W.nsIn K mainGlobals "_law_add" = some (some (.ref f25))) (l25 : K.lookup f25 = some ⟨oc25, od25, .func (PySem.W.fnOf "_law_add" "_law_add" (defArgs s_law_add) (defBody s_law_add) (defScope s_law_add) .none kV25 dc25 pm25 an25 cd25 ct25), sl25⟩) (c25 : PySem.W.codeIn K cd25 "_law_add" = true) (k25 : PySem.W.keepIn K (.ref f25) = true)
    (a26 : PySem.W.nsIn K mainGlobals "_law_less" = some (some (.ref f26))) (l26 : K.lookup f26 = some ⟨oc26, od26, .func (PySem.W.fnOf "_law_less" "_law_less" (defArgs s_law_less) (defBody s_law_less) (defScope s_law_less) .none kV26 dc26 pm26 an26 cd26 ct26), sl26⟩) (c26 : PySem.W.codeIn K cd26 "_law_less" = true) (k26 : PySem.W.keepIn K (.ref f26) = true)
    (a27 : PySem.W.nsIn K mainGlobals "_law_times" = some (some (.ref f27))) (l27 : K.lookup f27 = some ⟨oc27, od27, .func (PySem.W.fnOf "_law_times" "_law_times" (defArgs s_law_times) (defBody s_law_times) (defScope s_law_times) .none kV27 dc27 pm27 an27 cd27 ct27), sl27⟩) (c27 : PySem.W.codeIn K cd27 "_law_times" = true) (k27 : PySem.W.keepIn K (.ref f27) = true)
    (a28 : PySem.W.nsIn K mainGlobals "_law_rest" = some (some (.ref f28))) (l28 : K.lookup f28 = some ⟨oc28, od28, .func (PySem.W.fnOf "_law_rest" "_law_rest" (defArgs s_law_rest) (defBody s_law_rest) (defScope s_law_rest) .none kV28 dc28 pm28 an28 cd28 ct28), sl28⟩) (c28 : PySem.W.codeIn K cd28 "_law_rest" = true) (k28 : PySem.W.keepIn K (.ref f28) = true)
    (a29 : PySem.W.nsIn K mainGlobals "_law_is_multiple" = some (some (.ref f29))) (l29 : K.lookup f29 = some ⟨oc29, od29, .func (PySem.W.fnOf "_law_is_multiple" "_law_is_multiple" (defArgs s_law_is_multiple) (defBody s_law_is_multiple) (defScope s_law_is_multiple) .none kV29 dc29 pm29 an29 cd29 ct29), sl29⟩) (c29 : PySem.W.codeIn K cd29 "_law_is_multiple" = true) (k29 : PySem.W.keepIn K (.ref f29) = true)
    (a30 : PySem.W.nsIn K mainGlobals "_law_number" = some (some (.ref f30))) (l30 : K.lookup f30 = some ⟨oc30, od30, .func (PySem.W.fnOf "_law_number" "_law_number" (defArgs s_law_number) (defBody s_law_number) (defScope s_law_number) .none kV30 dc30 pm30 an30 cd30 ct30), sl30⟩) (c30 : PySem.W.codeIn K cd30 "_law_number" = true) (k30 : PySem.W.keepIn K (.ref f30) = true)
    (a31 : PySem.W.nsIn K mainGlobals "_law_right" = some (some (.ref f31))) (l31 : K.lookup f31 = some ⟨oc31, od31, .func (PySem.W.fnOf "_law_right" "_law_right" (defArgs s_law_right) (defBody s_law_right) (defScope s_law_right) .none kV31 dc31 pm31 an31 cd31 ct31), sl31⟩) (c31 : PySem.W.codeIn K cd31 "_law_right" = true) (k31 : PySem.W.keepIn K (.ref f31) = true)
    (a32 : PySem.W.nsIn K mainGlobals "law" = some (some (.ref f32))) (l32 : K.lookup f32 = some ⟨oc32, od32, .func (PySem.W.fnOf "law" "law" (defArgs s_law) (defBody s_law) (defScope s_law) .none kV32 dc32 pm32 an32 cd32 ct32), sl32⟩) (c32 : PySem.W.codeIn K cd32 "law" = true) (k32 : PySem.W.keepIn K (.ref f32) = true)
    (bz_divmod : PySem.W.nsIn K mainGlobals "divmod" = some none)
    (bz_isinstance : PySem.W.nsIn K mainGlobals "isinstance" = some none)
    (bz_str : PySem.W.nsIn K mainGlobals "str" = some none)
    (bz_int : PySem.W.nsIn K mainGlobals "int" = some none)
    (bz_bool : PySem.W.nsIn K mainGlobals "bool" = some none)
    (bz_range : PySem.W.nsIn K mainGlobals "range" = some none)
    (bz_len : PySem.W.nsIn K mainGlobals "len" = some none)
    (bz_sum : PySem.W.nsIn K mainGlobals "sum" = some none)
    (bz_max : PySem.W.nsIn K mainGlobals "max" = some none)
    (bz_repr : PySem.W.nsIn K mainGlobals "repr" = some none)
    (bz_abs : PySem.W.nsIn K mainGlobals "abs" = some none)
    (bm_KINDS : PySem.W.nsIn K mainGlobals "KINDS" = some (some (.ref kd))) (lm_KINDS : K.lookup kd = some ⟨.type "tuple", ddk, .seq #[.str "hours" tk1, .str "bits" tk2] nk, slk⟩)
    : ∃ fd : FuncData, (∀ (s : Shared) (v : Value), BindsTo s fd ⟨[v], []⟩ [("_law_script", v)]) ∧ ∀ base : Heap, K.In base → base.Ns mainGlobals mg → Fq l.prog w K mg base CX0 7 fa fd ["_law_script"] (spLaw K) := by
  have e := hfa.symm.trans (PySem.W.mg_of X G a32)
  cases e
  have z_divmod := PySem.W.mg_none_of X G bz_divmod
  have z_isinstance := PySem.W.mg_none_of X G bz_isinstance
  have z_str := PySem.W.mg_none_of X G bz_str
  have z_int := PySem.W.mg_none_of X G bz_int
  have z_bool := PySem.W.mg_none_of X G bz_bool
  have z_range := PySem.W.mg_none_of X G bz_range
  have z_len := PySem.W.mg_none_of X G bz_len
  have z_sum := PySem.W.mg_none_of X G bz_sum
  have z_max := PySem.W.mg_none_of X G bz_max
  have z_repr := PySem.W.mg_none_of X G bz_repr
  have z_abs := PySem.W.mg_none_of X G bz_abs
  have m_KINDS := PySem.W.mg_of X G bm_KINDS
  have hK : ∀ H, SqT K H kd [.str "hours", .str "bits"] := fun H => kin_tup lm_KINDS (.cons ⟨_, rfl⟩ (.cons ⟨_, rfl⟩ .nil)) (by show 2 ≤ 100000; decide)
  have D_plus : Def K mg "plus" s_plus P_plus := def_mk X G a1 l1 c1 k1 fun _ _ _ _ _ _ us hl => match us, hl with | [_, _, _], _ => rfl
  have D_minus : Def K mg "minus" s_minus P_minus := def_mk X G a2 l2 c2 k2 fun _ _ _ _ _ _ us hl => match us, hl with | [_, _, _], _ => rfl
  have D_times : Def K mg "times" s_times P_times := def_mk X G a3 l3 c3 k3 fun _ _ _ _ _ _ us hl => match us, hl with | [_, _, _], _ => rfl
  have D_split_by : Def K mg "split_by" s_split_by P_split_by := def_mk X G a4 l4 c4 k4 fun _ _ _ _ _ _ us hl => match us, hl with | [_, _, _], _ => rfl
  have D_rest_by : Def K mg "rest_by" s_rest_by P_rest_by := def_mk X G a5 l5 c5 k5 fun _ _ _ _ _ _ us hl => match us, hl with | [_, _, _], _ => rfl
  have D_has_factor : Def K mg "has_factor" s_has_factor P_has_factor := def_mk X G a6 l6 c6 k6 fun _ _ _ _ _ _ us hl => match us, hl with | [_, _, _], _ => rfl
  have D_is_kind : Def K mg "is_kind" s_is_kind P_is_kind := def_mk X G a7 l7 c7 k7 fun _ _ _ _ _ _ us hl => match us, hl with | [_], _ => rfl
  have D_is_whole : Def K mg "is_whole" s_is_whole P_is_whole := def_mk X G a8 l8 c8 k8 fun _ _ _ _ _ _ us hl => match us, hl with | [_], _ => rfl
  have D_is_count : Def K mg "is_count" s_is_count P_is_count := def_mk X G a9 l9 c9 k9 fun _ _ _ _ _ _ us hl => match us, hl with | [_], _ => rfl
  have D_is_number : Def K mg "is_number" s_is_number P_is_number := def_mk X G a10 l10 c10 k10 fun _ _ _ _ _ _ us hl => match us, hl with | [_, _], _ => rfl
  have D_check_kind : Def K mg "check_kind" s_check_kind P_check_kind := def_mk X G a11 l11 c11 k11 fun _ _ _ _ _ _ us hl => match us, hl with | [_], _ => rfl
  have D_check_number : Def K mg "check_number" s_check_number P_check_number := def_mk X G a12 l12 c12 k12 fun _ _ _ _ _ _ us hl => match us, hl with | [_, _], _ => rfl
  have D_check_count : Def K mg "check_count" s_check_count P_check_count := def_mk X G a13 l13 c13 k13 fun _ _ _ _ _ _ us hl => match us, hl with | [_], _ => rfl
  have D_check_two : Def K mg "check_two" s_check_two P_check_two := def_mk X G a14 l14 c14 k14 fun _ _ _ _ _ _ us hl => match us, hl with | [_, _, _], _ => rfl
  have D_added : Def K mg "added" s_added P_added := def_mk X G a15 l15 c15 k15 fun _ _ _ _ _ _ us hl => match us, hl with | [_, _, _], _ => rfl
  have D_less : Def K mg "less" s_less P_less := def_mk X G a16 l16 c16 k16 fun _ _ _ _ _ _ us hl => match us, hl with | [_, _, _], _ => rfl
  have D_product : Def K mg "product" s_product P_product := def_mk X G a17 l17 c17 k17 fun _ _ _ _ _ _ us hl => match us, hl with | [_, _, _], _ => rfl
  have D_quotient : Def K mg "quotient" s_quotient P_quotient := def_mk X G a18 l18 c18 k18 fun _ _ _ _ _ _ us hl => match us, hl with | [_, _, _], _ => rfl
  have D_rest : Def K mg "rest" s_rest P_rest := def_mk X G a19 l19 c19 k19 fun _ _ _ _ _ _ us hl => match us, hl with | [_, _, _], _ => rfl
  have D_is_multiple : Def K mg "is_multiple" s_is_multiple P_is_multiple := def_mk X G a20 l20 c20 k20 fun _ _ _ _ _ _ us hl => match us, hl with | [_, _, _], _ => rfl
  have D_law_hash : Def K mg "_law_hash" s_law_hash P_law_hash := def_mk X G a21 l21 c21 k21 fun _ _ _ _ _ _ us hl => match us, hl with | [_, _], _ => rfl
  have D_law_random : Def K mg "_law_random" s_law_random P_law_random := def_mk X G a22 l22 c22 k22 fun _ _ _ _ _ _ us hl => match us, hl with | [_, _], _ => rfl
  have D_law_cell : Def K mg "_law_cell" s_law_cell P_law_cell := def_mk X G a23 l23 c23 k23 fun _ _ _ _ _ _ us hl => match us, hl with | [_, _], _ => rfl
  have D_law_generator : Def K mg "_law_generator" s_law_generator P_law_generator := def_mk X G a24 l24 c24 k24 fun _ _ _ _ _ _ us hl => match us, hl with | [_, _], _ => rfl
  have D_law_add : Def K mg "_law_add" s_law_add P_law_add := def_mk X G a25 l25 c25 k25 fun _ _ _ _ _ _ us hl => match us, hl with | [_, _, _], _ => rfl
  have D_law_less : Def K mg "_law_less" s_law_less P_law_less := def_mk X G a26 l26 c26 k26 fun _ _ _ _ _ _ us hl => match us, hl with | [_, _, _], _ => rfl
  have D_law_times : Def K mg "_law_times" s_law_times P_law_times := def_mk X G a27 l27 c27 k27 fun _ _ _ _ _ _ us hl => match us, hl with | [_, _, _], _ => rfl
  have D_law_rest : Def K mg "_law_rest" s_law_rest P_law_rest := def_mk X G a28 l28 c28 k28 fun _ _ _ _ _ _ us hl => match us, hl with | [_, _, _], _ => rfl
  have D_law_is_multiple : Def K mg "_law_is_multiple" s_law_is_multiple P_law_is_multiple := def_mk X G a29 l29 c29 k29 fun _ _ _ _ _ _ us hl => match us, hl with | [_, _, _], _ => rfl
  have D_law_number : Def K mg "_law_number" s_law_number P_law_number := def_mk X G a30 l30 c30 k30 fun _ _ _ _ _ _ us hl => match us, hl with | [_, _, _], _ => rfl
  have D_law_right : Def K mg "_law_right" s_law_right P_law_right := def_mk X G a31 l31 c31 k31 fun _ _ _ _ _ _ us hl => match us, hl with | [_, _, _], _ => rfl
  have FL := fun_mk (st := s_law) l32 c32 k32
  refine ⟨PySem.W.fnOf "law" "law" (defArgs s_law) (defBody s_law) (defScope s_law) .none kV32 dc32 pm32 an32 cd32 ct32, fun s v => .of_eq rfl, fun base _ _ => ?_⟩
  have h_plus : Has l.prog w K mg base _ "plus" P_plus _ := d_plus D_plus 
  have h_minus : Has l.prog w K mg base _ "minus" P_minus _ := d_minus D_minus 
  have h_times : Has l.prog w K mg base _ "times" P_times _ := d_times D_times 
  have h_split_by : Has l.prog w K mg base _ "split_by" P_split_by _ := d_split_by D_split_by (z_divmod := z_divmod)
  have h_rest_by : Has l.prog w K mg base _ "rest_by" P_rest_by _ := d_rest_by D_rest_by (h_split_by := h_split_by)
  have h_has_factor : Has l.prog w K mg base _ "has_factor" P_has_factor _ := d_has_factor D_has_factor (h_rest_by := h_rest_by)
  have h_is_kind : Has l.prog w K mg base _ "is_kind" P_is_kind _ := d_is_kind D_is_kind (z_isinstance := z_isinstance) (z_str := z_str) (m_KINDS := m_KINDS) (hK := hK)
  have h_is_whole : Has l.prog w K mg base _ "is_whole" P_is_whole _ := d_is_whole D_is_whole (z_isinstance := z_isinstance) (z_int := z_int) (z_bool := z_bool)
  have h_is_count : Has l.prog w K mg base _ "is_count" P_is_count _ := d_is_count D_is_count (h_is_whole := h_is_whole)
  have h_is_number : Has l.prog w K mg base _ "is_number" P_is_number _ := d_is_number D_is_number (h_is_whole := h_is_whole)
  have h_check_kind : Has l.prog w K mg base _ "check_kind" P_check_kind _ := d_check_kind D_check_kind (h_is_kind := h_is_kind)
  have h_check_number : Has l.prog w K mg base _ "check_number" P_check_number _ := d_check_number D_check_number (h_is_number := h_is_number)
  have h_check_count : Has l.prog w K mg base _ "check_count" P_check_count _ := d_check_count D_check_count (h_is_count := h_is_count)
  have h_check_two : Has l.prog w K mg base _ "check_two" P_check_two _ := d_check_two D_check_two (h_check_kind := h_check_kind) (h_check_number := h_check_number)
  have h_added : Has l.prog w K mg base _ "added" P_added _ := d_added D_added (h_check_two := h_check_two) (h_plus := h_plus)
  have h_less : Has l.prog w K mg base _ "less" P_less _ := d_less D_less (h_check_two := h_check_two) (h_minus := h_minus)
  have h_product : Has l.prog w K mg base _ "product" P_product _ := d_product D_product (h_check_two := h_check_two) (h_times := h_times)
  have h_quotient : Has l.prog w K mg base _ "quotient" P_quotient _ := d_quotient D_quotient (h_check_two := h_check_two) (h_split_by := h_split_by)
  have h_rest : Has l.prog w K mg base _ "rest" P_rest _ := d_rest D_rest (h_check_kind := h_check_kind) (h_check_number := h_check_number) (h_check_count := h_check_count) (h_rest_by := h_rest_by)
  have h_is_multiple : Has l.prog w K mg base _ "is_multiple" P_is_multiple _ := d_is_multiple D_is_multiple (h_check_two := h_check_two) (h_has_factor := h_has_factor)
  have h_law_hash : Has l.prog w K mg base _ "_law_hash" P_law_hash _ := d_law_hash D_law_hash (z_int := z_int)
  have h_law_random : Has l.prog w K mg base _ "_law_random" P_law_random _ := d_law_random D_law_random (h_law_hash := h_law_hash) (z_int := z_int) (z_range := z_range)
  have h_law_cell : Has l.prog w K mg base _ "_law_cell" P_law_cell _ := d_law_cell D_law_cell (z_len := z_len) (z_sum := z_sum)
  have h_law_generator : Has l.prog w K mg base _ "_law_generator" P_law_generator _ := d_law_generator D_law_generator (h_law_cell := h_law_cell) (z_int := z_int) (z_max := z_max)
  have h_law_add : Has l.prog w K mg base _ "_law_add" P_law_add _ := d_law_add D_law_add 
  have h_law_less : Has l.prog w K mg base _ "_law_less" P_law_less _ := d_law_less D_law_less 
  have h_law_times : Has l.prog w K mg base _ "_law_times" P_law_times _ := d_law_times D_law_times (z_int := z_int) (z_range := z_range)
  have h_law_rest : Has l.prog w K mg base _ "_law_rest" P_law_rest _ := d_law_rest D_law_rest (z_int := z_int)
  have h_law_is_multiple : Has l.prog w K mg base _ "_law_is_multiple" P_law_is_multiple _ := d_law_is_multiple D_law_is_multiple (h_law_rest := h_law_rest)
  have h_law_number : Has l.prog w K mg base _ "_law_number" P_law_number _ := d_law_number D_law_number (h_law_random := h_law_random)
  have h_law_right : Has l.prog w K mg base _ "_law_right" P_law_right _ := d_law_right D_law_right (h_law_number := h_law_number) (h_law_random := h_law_random) (h_law_add := h_law_add) (h_law_less := h_law_less) (h_law_times := h_law_times) (h_law_rest := h_law_rest) (h_law_is_multiple := h_law_is_multiple) (h_added := h_added) (h_less := h_less) (h_product := h_product) (h_quotient := h_quotient) (h_rest := h_rest) (h_is_multiple := h_is_multiple) (z_repr := z_repr) (z_isinstance := z_isinstance) (z_int := z_int) (z_bool := z_bool) (z_abs := z_abs)
  exact d_law FL (h_law_generator := h_law_generator) (h_law_right := h_law_right) (h_added := h_added) (h_less := h_less) (h_product := h_product) (h_quotient := h_quotient) (h_rest := h_rest) (h_is_multiple := h_is_multiple) (z_range := z_range)
end Hr
open PySem PySem.W PyProof.Rows
set_option maxRecDepth 100000 in
set_option maxHeartbeats 0 in
theorem PySem.Challenge.cw_hourrings_k07_whole_sums_and_products_holds : PySem.Challenge.rw_hourrings_k07_whole_sums_and_products.Holds := by
  w_on; o_law; k_head; (case hw => w_witness2)
  k_fill
  refine Hr.rowq (l := PySem.Challenge.rw_hourrings_k07_whole_sums_and_products) (n := 63) (k := 7) (x := "_law_script") (sp := Hr.spLaw) rfl (by decide) rfl ⟨⟨rfl, by decide, by decide⟩, rfl⟩ (fun w h Y => PySem.W.kIn_of Y) ?F (fun K H a ns hl _ hS => ⟨a, ns, rfl, hS, hl, fun _ => rfl⟩)
  case F =>
    intro w mg fa h KX G hmg
    refine' Hr.all_mk KX G hmg ?a1 ?l1 ?c1 ?k1 ?a2 ?l2 ?c2 ?k2 ?a3 ?l3 ?c3 ?k3 ?a4 ?l4 ?c4 ?k4 ?a5 ?l5 ?c5 ?k5 ?a6 ?l6 ?c6 ?k6 ?a7 ?l7 ?c7 ?k7 ?a8 ?l8 ?c8 ?k8 ?a9 ?l9 ?c9 ?k9 ?a10 ?l10 ?c10 ?k10 ?a11 ?l11 ?c11 ?k11 ?a12 ?l12 ?c12 ?k12 ?a13 ?l13 ?c13 ?k13 ?a14 ?l14 ?c14 ?k14 ?a15 ?l15 ?c15 ?k15 ?a16 ?l16 ?c16 ?k16 ?a17 ?l17 ?c17 ?k17 ?a18 ?l18 ?c18 ?k18 ?a19 ?l19 ?c19 ?k19 ?a20 ?l20 ?c20 ?k20 ?a21 ?l21 ?c21 ?k21 ?a22 ?l22 ?c22 ?k22 ?a23 ?l23 ?c23 ?k23 ?a24 ?l24 ?c24 ?k24 ?a25 ?l25 ?c25 ?k25 ?a26 ?l26 ?c26 ?k26 ?a27 ?l27 ?c27 ?k27 ?a28 ?l28 ?c28 ?k28 ?a29 ?l29 ?c29 ?k29 ?a30 ?l30 ?c30 ?k30 ?a31 ?l31 ?c31 ?k31 ?a32 ?l32 ?c32 ?k32 ?bz_divmod ?bz_isinstance ?bz_str ?bz_int ?bz_bool ?bz_range ?bz_len ?bz_sum ?bz_max ?bz_repr ?bz_abs ?bm_KINDS ?lm_KINDS
    (case a1 => k_is)
    (case l1 => k_is)
    (case c1 => k_is)
    (case k1 => k_is)
    (case a2 => k_is)
    (case l2 => k_is)
    (case c2 => k_is)
    (case k2 => k_is)
    (case a3 => k_is)
    (case l3 => k_is)
    (case c3 => k_is)
    (case k3 => k_is)
    (case a4 => k_is)
    (case l4 => k_is)
    (case c4 => k_is)
    (case k4 => k_is)
    (case a5 => k_is)
    (case l5 => k_is)
    (case c5 => k_is)
    (case k5 => k_is)
    (case a6 => k_is)
    (case l6 => k_is)
    (case c6 => k_is)
    (case k6 => k_is)
    (case a7 => k_is)
    (case l7 => k_is)
    (case c7 => k_is)
    (case k7 => k_is)
    (case a8 => k_is)
    (case l8 => k_is)
    (case c8 => k_is)
    (case k8 => k_is)
    (case a9 => k_is)
    (case l9 => k_is)
    (case c9 => k_is)
    (case k9 => k_is)
    (case a10 => k_is)
    (case l10 => k_is)
    (case c10 => k_is)
    (case k10 => k_is)
    (case a11 => k_is)
    (case l11 => k_is)
    (case c11 => k_is)
    (case k11 => k_is)
    (case a12 => k_is)
    (case l12 => k_is)
    (case c12 => k_is)
    (case k12 => k_is)
    (case a13 => k_is)
    (case l13 => k_is)
    (case c13 => k_is)
    (case k13 => k_is)
    (case a14 => k_is)
    (case l14 => k_is)
    (case c14 => k_is)
    (case k14 => k_is)
    (case a15 => k_is)
    (case l15 => k_is)
    (case c15 => k_is)
    (case k15 => k_is)
    (case a16 => k_is)
    (case l16 => k_is)
    (case c16 => k_is)
    (case k16 => k_is)
    (case a17 => k_is)
    (case l17 => k_is)
    (case c17 => k_is)
    (case k17 => k_is)
    (case a18 => k_is)
    (case l18 => k_is)
    (case c18 => k_is)
    (case k18 => k_is)
    (case a19 => k_is)
    (case l19 => k_is)
    (case c19 => k_is)
    (case k19 => k_is)
    (case a20 => k_is)
    (case l20 => k_is)
    (case c20 => k_is)
    (case k20 => k_is)
    (case a21 => k_is)
    (case l21 => k_is)
    (case c21 => k_is)
    (case k21 => k_is)
    (case a22 => k_is)
    (case l22 => k_is)
    (case c22 => k_is)
    (case k22 => k_is)
    (case a23 => k_is)
    (case l23 => k_is)
    (case c23 => k_is)
    (case k23 => k_is)
    (case a24 => k_is)
    (case l24 => k_is)
    (case c24 => k_is)
    (case k24 => k_is)
    (case a25 => k_is)
    (case l25 => k_is)
    (case c25 => k_is)
    (case k25 => k_is)
    (case a26 => k_is)
    (case l26 => k_is)
    (case c26 => k_is)
    (case k26 => k_is)
    (case a27 => k_is)
    (case l27 => k_is)
    (case c27 => k_is)
    (case k27 => k_is)
    (case a28 => k_is)
    (case l28 => k_is)
    (case c28 => k_is)
    (case k28 => k_is)
    (case a29 => k_is)
    (case l29 => k_is)
    (case c29 => k_is)
    (case k29 => k_is)
    (case a30 => k_is)
    (case l30 => k_is)
    (case c30 => k_is)
    (case k30 => k_is)
    (case a31 => k_is)
    (case l31 => k_is)
    (case c31 => k_is)
    (case k31 => k_is)
    (case a32 => k_is)
    (case l32 => k_is)
    (case c32 => k_is)
    (case k32 => k_is)
    (case bz_divmod => k_is)
    (case bz_isinstance => k_is)
    (case bz_str => k_is)
    (case bz_int => k_is)
    (case bz_bool => k_is)
    (case bz_range => k_is)
    (case bz_len => k_is)
    (case bz_sum => k_is)
    (case bz_max => k_is)
    (case bz_repr => k_is)
    (case bz_abs => k_is)
    (case bm_KINDS => k_is)
    (case lm_KINDS => k_is)
