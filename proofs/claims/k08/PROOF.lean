import PyProof.Rows.All
import Wide.All
import OpenK.AllK
import Wide.FinOn
import PyProof.EqAt
import PyProof.EqKinds
import PyProof.TupleCall
import PyProof.ReprRoads
import PyProof.ReprLen
import PyProof.StrLawsRepr
import HandS.ForMost
import HandS.Wide
import HandS.WideBits
import HandS.IsInst
import HandS.Gcd
import HandS.Style
import HandS.Evl
import HandS.RaiseMore
import HandS.TupAny
import HandS.TryOnly
import HandS.Conv
import HandS.TupLe
import PySem.Challenge.RW_hourrings_k08_whole_divisors_and_multipl
set_option Elab.async false
set_option linter.all false
set_option maxRecDepth 100000
set_option maxHeartbeats 4000000
/-! words of bits, added without carries -/
namespace Gf
theorem two_xor (a b : Nat) : 2 * (a ^^^ b) = 2 * a ^^^ 2 * b := by
  have h := Nat.shiftLeft_xor_distrib (a := a) (b := b) (i := 1)
  simpa [Nat.shiftLeft_eq, Nat.mul_comm] using h
/-- the product without carries -/
def mul (a b : Nat) : Nat := if h : b = 0 then 0 else (if b % 2 = 1 then a else 0) ^^^ 2 * mul a (b / 2)
termination_by b
decreasing_by omega
theorem mul_zero (a : Nat) : mul a 0 = 0 := by unfold mul; simp
theorem mul_step (a b : Nat) : mul a b = (if b % 2 = 1 then a else 0) ^^^ 2 * mul a (b / 2) := by
  by_cases h : b = 0
  · subst h; simp [mul_zero]
  · conv => lhs; unfold mul
    simp [h]
theorem zero_mul (b : Nat) : mul 0 b = 0 := by
  induction b using Nat.strongRecOn with
  | _ b ih =>
    by_cases h : b = 0
    · subst h; exact mul_zero 0
    · rw [mul_step, ih (b / 2) (by omega)]; simp
theorem mul_double (a b : Nat) : mul a (2 * b) = 2 * mul a b := by
  rw [mul_step]
  have h1 : (2 * b) % 2 = 0 := by omega
  have h2 : (2 * b) / 2 = b := by omega
  rw [h1, h2]; simp
theorem double_mul (a b : Nat) : mul (2 * a) b = 2 * mul a b := by
  induction b using Nat.strongRecOn with
  | _ b ih =>
    by_cases h : b = 0
    · subst h; simp [mul_zero]
    · rw [mul_step, mul_step a b, ih (b / 2) (by omega), two_xor]
      by_cases e : b % 2 = 1 <;> simp [e]
theorem mul_one (a : Nat) : mul a 1 = a := by
  rw [mul_step]; simp [mul_zero]
theorem one_mul (b : Nat) : mul 1 b = b := by
  induction b using Nat.strongRecOn with
  | _ b ih =>
    by_cases h : b = 0
    · subst h; exact mul_zero 1
    · rw [mul_step, ih (b / 2) (by omega)]
      have e2 : (b % 2) ^^^ 2 * (b / 2) = b := by
        apply Nat.eq_of_testBit_eq
        intro i
        rw [Nat.testBit_xor]
        cases i with
        | zero => 
          simp [Nat.testBit_zero]
        | succ i =>
          have e : Nat.testBit (b % 2) (i + 1) = false := by
            apply Nat.testBit_lt_two_pow
            have : b % 2 < 2 := Nat.mod_lt _ (by decide)
            have : 2 ≤ 2 ^ (i + 1) := by
              rw [Nat.pow_succ]; have := Nat.one_le_two_pow (n := i); omega
            omega
          rw [e, Nat.testBit_succ, Nat.testBit_succ]
          have : 2 * (b / 2) / 2 = b / 2 := by omega
          rw [this]; simp
      rcases Nat.mod_two_eq_zero_or_one b with e | e
      · rw [e] at e2 ⊢; simpa using e2
      · rw [e] at e2 ⊢; simpa using e2
/-- a number is its last bit and twice the rest -/
theorem split2 (b : Nat) : b = (b % 2) ^^^ 2 * (b / 2) := by
  have h := one_mul b
  rw [mul_step, one_mul] at h
  rcases Nat.mod_two_eq_zero_or_one b with e | e
  · rw [e] at h ⊢; simpa using h.symm
  · rw [e] at h ⊢; simpa using h.symm
theorem xor_half (b c : Nat) : (b ^^^ c) / 2 = b / 2 ^^^ c / 2 := by
  have h := Nat.shiftRight_xor_distrib (a := b) (b := c) (i := 1)
  simpa [Nat.shiftRight_eq_div_pow] using h
theorem xor_odd (b c : Nat) : (b ^^^ c) % 2 = (b % 2) ^^^ (c % 2) := by
  have h := Nat.xor_mod_two_pow (a := b) (b := c) (n := 1)
  simpa using h
theorem xor_mul (a a' b : Nat) : mul (a ^^^ a') b = mul a b ^^^ mul a' b := by
  induction b using Nat.strongRecOn with
  | _ b ih =>
    by_cases h : b = 0
    · subst h; simp [mul_zero]
    · rw [mul_step, mul_step a b, mul_step a' b, ih (b / 2) (by omega), two_xor]
      by_cases e : b % 2 = 1
      · simp only [e, if_true]; ac_rfl
      · simp only [e, if_false]; simp
theorem mul_xor (a b c : Nat) : mul a (b ^^^ c) = mul a b ^^^ mul a c := by
  induction b using Nat.strongRecOn generalizing c with
  | _ b ih =>
    by_cases h : b = 0
    · subst h; simp [mul_zero]
    · rw [mul_step, mul_step a b, mul_step a c, xor_half, ih (b / 2) (by omega), two_xor, xor_odd]
      rcases Nat.mod_two_eq_zero_or_one b with e | e <;> rcases Nat.mod_two_eq_zero_or_one c with f | f <;> simp only [e, f]
      · simp
      · simp only [Nat.zero_xor, if_true, show ¬ (0 : Nat) = 1 by decide, if_false]; ac_rfl
      · simp only [Nat.xor_zero, if_true, show ¬ (0 : Nat) = 1 by decide, if_false, Nat.zero_xor]; ac_rfl
      · have z : a ^^^ a = 0 := Nat.xor_self a
        simp only [Nat.xor_self, show ¬ (0 : Nat) = 1 by decide, if_false, if_true, Nat.zero_xor]
        have : a ^^^ 2 * mul a (b / 2) ^^^ (a ^^^ 2 * mul a (c / 2)) = (a ^^^ a) ^^^ (2 * mul a (b / 2) ^^^ 2 * mul a (c / 2)) := by ac_rfl
        rw [this, z]; simp
theorem mul_comm (a b : Nat) : mul a b = mul b a := by
  induction b using Nat.strongRecOn generalizing a with
  | _ b ih =>
    by_cases h : b = 0
    · subst h; rw [mul_zero, zero_mul]
    · rw [mul_step, ih (b / 2) (by omega)]
      conv => rhs; rw [split2 b]
      rw [xor_mul, double_mul]
      rcases Nat.mod_two_eq_zero_or_one b with e | e <;> simp [e, zero_mul, one_mul]
theorem mul_assoc (a b c : Nat) : mul (mul a b) c = mul a (mul b c) := by
  induction c using Nat.strongRecOn with
  | _ c ih =>
    by_cases h : c = 0
    · subst h; simp [mul_zero]
    · rw [mul_step, mul_step b c, mul_xor, mul_double, ih (c / 2) (by omega)]
      by_cases e : c % 2 = 1 <;> simp [e, mul_zero]
/-! ### sizes -/
/-- how many bits a number has -/
def bl (n : Nat) : Nat := if n = 0 then 0 else n.log2 + 1
theorem bl_zero : bl 0 = 0 := rfl
theorem bl_pos {n : Nat} (h : 0 < n) : 0 < bl n := by unfold bl; rw [if_neg (by omega)]; omega
theorem bl_le {n k : Nat} : bl n ≤ k ↔ n < 2 ^ k := by
  unfold bl
  by_cases h : n = 0
  · subst h; simp [Nat.two_pow_pos]
  · rw [if_neg h, Nat.succ_le_iff, Nat.log2_lt h]
theorem lt_bl {n k : Nat} : k < bl n ↔ 2 ^ k ≤ n := by
  have := @bl_le n k; omega
theorem bl_eq {n k : Nat} (h1 : 2 ^ k ≤ n) (h2 : n < 2 ^ (k + 1)) : bl n = k + 1 := by
  have a := lt_bl.mpr h1; have b := bl_le.mpr h2; omega
theorem bl_eq_zero {n : Nat} : bl n = 0 ↔ n = 0 := by
  constructor
  · intro h; have := (bl_le (n := n) (k := 0)).mp (by omega); simpa using this
  · rintro rfl; rfl
theorem top_bit {n k : Nat} (h1 : 2 ^ k ≤ n) (h2 : n < 2 ^ (k + 1)) : n.testBit k = true := by
  have e : n / 2 ^ k = 1 := by
    rw [Nat.pow_succ] at h2
    exact Nat.div_eq_of_lt_le (by omega) (by omega)
  rw [Nat.testBit_eq_decide_div_mod_eq, e]; rfl
theorem xor_lt_top {x y k : Nat} (hx : 2 ^ k ≤ x) (hx2 : x < 2 ^ (k + 1)) (hy : 2 ^ k ≤ y) (hy2 : y < 2 ^ (k + 1)) : x ^^^ y < 2 ^ k := by
  apply Nat.lt_pow_two_of_testBit
  intro i hi
  rw [Nat.testBit_xor]
  by_cases e : i = k
  · subst e; rw [top_bit hx hx2, top_bit hy hy2]; rfl
  · have l : 2 ^ (k + 1) ≤ 2 ^ i := Nat.pow_le_pow_right (by decide) (by omega)
    rw [Nat.testBit_lt_two_pow (Nat.lt_of_lt_of_le hx2 l), Nat.testBit_lt_two_pow (Nat.lt_of_lt_of_le hy2 l)]; rfl
theorem mul_span {i j a b : Nat} (ha : 2 ^ i ≤ a) (ha2 : a < 2 ^ (i + 1)) (hb : 2 ^ j ≤ b) (hb2 : b < 2 ^ (j + 1)) : 2 ^ (i + j) ≤ mul a b ∧ mul a b < 2 ^ (i + j + 1) := by
  induction j generalizing b with
  | zero =>
    have : b = 1 := by simp at hb hb2; omega
    subst this; rw [mul_one]; exact ⟨ha, ha2⟩
  | succ j ih =>
    have p : 2 ^ (j + 1) = 2 * 2 ^ j := by rw [Nat.pow_succ]; omega
    have p2 : 2 ^ (j + 1 + 1) = 2 * 2 ^ (j + 1) := by rw [Nat.pow_succ]; omega
    obtain ⟨l, u⟩ := ih (b := b / 2) (by omega) (by omega)
    rw [mul_step]
    have q : 2 ^ (i + (j + 1)) = 2 * 2 ^ (i + j) := by rw [← Nat.add_assoc, Nat.pow_succ]; omega
    have q2 : 2 ^ (i + (j + 1) + 1) = 2 * 2 ^ (i + j + 1) := by rw [← Nat.add_assoc, Nat.pow_succ]; omega
    have c : (if b % 2 = 1 then a else 0) < 2 ^ (i + (j + 1)) := by
      have : 2 ^ (i + 1) ≤ 2 ^ (i + (j + 1)) := Nat.pow_le_pow_right (by decide) (by omega)
      have := Nat.two_pow_pos (i + (j + 1))
      split <;> omega
    have u2 : 2 * mul a (b / 2) < 2 ^ (i + (j + 1) + 1) := by omega
    constructor
    · apply Nat.ge_two_pow_of_testBit
      rw [Nat.testBit_xor, Nat.testBit_lt_two_pow c, top_bit (by omega) u2]; rfl
    · apply Nat.xor_lt_two_pow _ u2
      have := Nat.pow_le_pow_right (n := 2) (by decide) (show i + (j + 1) ≤ i + (j + 1) + 1 by omega)
      omega
theorem span {n : Nat} (h : 0 < n) : 2 ^ (bl n - 1) ≤ n ∧ n < 2 ^ (bl n - 1 + 1) := by
  have p := bl_pos h
  exact ⟨lt_bl.mp (by omega), bl_le.mp (by omega)⟩
theorem bl_mul {a b : Nat} (ha : 0 < a) (hb : 0 < b) : bl (mul a b) = bl a + bl b - 1 := by
  obtain ⟨a1, a2⟩ := span ha
  obtain ⟨b1, b2⟩ := span hb
  obtain ⟨l, u⟩ := mul_span a1 a2 b1 b2
  have := bl_pos ha; have := bl_pos hb
  rw [bl_eq l u]; omega
theorem mul_pos {a b : Nat} (ha : 0 < a) (hb : 0 < b) : 0 < mul a b := by
  have := bl_mul ha hb; have := bl_pos ha; have := bl_pos hb
  have h : bl (mul a b) ≠ 0 := by omega
  have : mul a b ≠ 0 := fun e => h (bl_eq_zero.mpr e)
  omega
theorem mul_eq_zero {a b : Nat} : mul a b = 0 ↔ a = 0 ∨ b = 0 := by
  constructor
  · intro h
    by_cases ha : a = 0
    · exact .inl ha
    · by_cases hb : b = 0
      · exact .inr hb
      · have := mul_pos (a := a) (b := b) (by omega) (by omega); omega
  · rintro (rfl | rfl)
    · exact zero_mul b
    · exact mul_zero a
theorem xor_eq_zero {a b : Nat} : a ^^^ b = 0 ↔ a = b := by
  constructor
  · intro h
    have : a ^^^ b ^^^ b = 0 ^^^ b := by rw [h]
    rw [Nat.xor_assoc, Nat.xor_self, Nat.xor_zero, Nat.zero_xor] at this
    exact this
  · rintro rfl; exact Nat.xor_self a
theorem mul_cancel {a b c : Nat} (ha : 0 < a) (h : mul a b = mul a c) : b = c := by
  have : mul a (b ^^^ c) = 0 := by rw [mul_xor, h, Nat.xor_self]
  rcases mul_eq_zero.mp this with z | z
  · omega
  · exact xor_eq_zero.mp z
theorem mul_pow (a k : Nat) : mul a (2 ^ k) = a * 2 ^ k := by
  induction k with
  | zero => simp [mul_one]
  | succ k ih => rw [Nat.pow_succ, Nat.mul_comm (2 ^ k) 2, mul_double, ih]; ac_rfl
end Gf
/-! ### division -/
namespace Gf
theorem step_lt {n d : Nat} (hd : 0 < d) (h : bl d ≤ bl n) : n ^^^ d * 2 ^ (bl n - bl d) < 2 ^ (bl n - 1) := by
  have p := bl_pos hd
  have hn : 0 < n := by
    rcases Nat.eq_zero_or_pos n with e | e
    · subst e; rw [bl_zero] at h; omega
    · exact e
  obtain ⟨n1, n2⟩ := span hn
  obtain ⟨d1, d2⟩ := span hd
  have e1 : 2 ^ (bl n - 1) = 2 ^ (bl d - 1) * 2 ^ (bl n - bl d) := by
    rw [← Nat.pow_add]; congr 1; omega
  have e2 : 2 ^ (bl n - 1 + 1) = 2 ^ (bl d - 1 + 1) * 2 ^ (bl n - bl d) := by
    rw [← Nat.pow_add]; congr 1; omega
  refine xor_lt_top n1 n2 ?_ ?_
  · rw [e1]; exact Nat.mul_le_mul_right _ d1
  · rw [e2]; exact Nat.mul_lt_mul_of_pos_right d2 (Nat.two_pow_pos _)
theorem step_less {n d : Nat} (hd : 0 < d) (h : bl d ≤ bl n) : n ^^^ d * 2 ^ (bl n - bl d) < n := by
  have p := bl_pos hd
  have := step_lt hd h
  have := lt_bl.mp (show bl n - 1 < bl n by omega)
  omega
/-- the rest by d -/
def rem (n d : Nat) : Nat := if h : 0 < d ∧ bl d ≤ bl n then rem (n ^^^ d * 2 ^ (bl n - bl d)) d else n
termination_by n
decreasing_by exact step_less h.1 h.2
def quo (n d : Nat) : Nat := if h : 0 < d ∧ bl d ≤ bl n then 2 ^ (bl n - bl d) ^^^ quo (n ^^^ d * 2 ^ (bl n - bl d)) d else 0
termination_by n
decreasing_by exact step_less h.1 h.2
theorem rem_go {n d : Nat} (hd : 0 < d) (h : bl d ≤ bl n) : rem n d = rem (n ^^^ d * 2 ^ (bl n - bl d)) d := by
  conv => lhs; unfold rem
  rw [dif_pos ⟨hd, h⟩]
theorem rem_end {n d : Nat} (h : bl n < bl d) : rem n d = n := by
  unfold rem; rw [dif_neg (by omega)]
theorem rem_zero (n : Nat) : rem n 0 = n := by
  unfold rem; rw [dif_neg (by omega)]
theorem quo_go {n d : Nat} (hd : 0 < d) (h : bl d ≤ bl n) : quo n d = 2 ^ (bl n - bl d) ^^^ quo (n ^^^ d * 2 ^ (bl n - bl d)) d := by
  conv => lhs; unfold quo
  rw [dif_pos ⟨hd, h⟩]
theorem quo_end {n d : Nat} (h : bl n < bl d) : quo n d = 0 := by
  unfold quo; rw [dif_neg (by omega)]
theorem rem_spec {n d : Nat} (hd : 0 < d) : bl (rem n d) < bl d ∧ n = mul d (quo n d) ^^^ rem n d := by
  induction n using Nat.strongRecOn with
  | _ n ih =>
    by_cases h : bl d ≤ bl n
    · obtain ⟨a, b⟩ := ih _ (step_less hd h)
      rw [rem_go hd h, quo_go hd h, mul_xor, mul_pow]
      refine ⟨a, ?_⟩
      have e : d * 2 ^ (bl n - bl d) ^^^ mul d (quo (n ^^^ d * 2 ^ (bl n - bl d)) d) ^^^ rem (n ^^^ d * 2 ^ (bl n - bl d)) d = d * 2 ^ (bl n - bl d) ^^^ (mul d (quo (n ^^^ d * 2 ^ (bl n - bl d)) d) ^^^ rem (n ^^^ d * 2 ^ (bl n - bl d)) d) := by ac_rfl
      rw [e, ← b]
      have e3 : d * 2 ^ (bl n - bl d) ^^^ (n ^^^ d * 2 ^ (bl n - bl d)) = n ^^^ (d * 2 ^ (bl n - bl d) ^^^ d * 2 ^ (bl n - bl d)) := by ac_rfl
      rw [e3, Nat.xor_self, Nat.xor_zero]
    · rw [rem_end (by omega), quo_end (by omega), mul_zero, Nat.zero_xor]
      exact ⟨by omega, rfl⟩
theorem bl_xor_lt {a b k : Nat} (ha : bl a < k) (hb : bl b < k) : bl (a ^^^ b) < k := by
  obtain ⟨j, rfl⟩ : ∃ j, k = j + 1 := ⟨k - 1, by omega⟩
  have := Nat.xor_lt_two_pow (bl_le.mp (Nat.le_of_lt_succ ha)) (bl_le.mp (Nat.le_of_lt_succ hb))
  have := bl_le.mpr this; omega
theorem div_one {d q r q' r' : Nat} (hd : 0 < d) (hr : bl r < bl d) (hr' : bl r' < bl d) (h : mul d q ^^^ r = mul d q' ^^^ r') : q = q' ∧ r = r' := by
  have e : mul d (q ^^^ q') = r ^^^ r' := by
    rw [mul_xor]
    have : mul d q = mul d q' ^^^ r' ^^^ r := by
      rw [← h]; rw [Nat.xor_assoc, Nat.xor_self, Nat.xor_zero]
    rw [this]
    have e3 : mul d q' ^^^ r' ^^^ r ^^^ mul d q' = (mul d q' ^^^ mul d q') ^^^ (r ^^^ r') := by ac_rfl
    rw [e3, Nat.xor_self, Nat.zero_xor]
  have l := bl_xor_lt hr hr'
  by_cases z : q ^^^ q' = 0
  · rw [z, mul_zero] at e
    exact ⟨xor_eq_zero.mp z, xor_eq_zero.mp e.symm⟩
  · have := bl_mul hd (b := q ^^^ q') (by omega)
    have := bl_pos (n := q ^^^ q') (by omega)
    rw [e] at *
    omega
/-- d has n as a multiple -/
def Dv (d n : Nat) : Prop := ∃ q, n = mul d q
theorem dv_rem {n d : Nat} : rem n d = 0 ↔ Dv d n := by
  rcases Nat.eq_zero_or_pos d with e | hd
  · subst e
    rw [rem_zero]
    constructor
    · rintro rfl; exact ⟨0, by rw [mul_zero]⟩
    · rintro ⟨q, rfl⟩; exact zero_mul q
  · obtain ⟨a, b⟩ := rem_spec (n := n) hd
    constructor
    · intro h; rw [h, Nat.xor_zero] at b; exact ⟨_, b⟩
    · rintro ⟨q, hq⟩
      have p := bl_pos hd
      exact (div_one (q := q) (r := 0) (q' := quo n d) hd (by rw [bl_zero]; omega) a (by rw [Nat.xor_zero]; exact hq.symm.trans b)).2.symm
theorem quo_mul {d q : Nat} (hd : 0 < d) : quo (mul d q) d = q ∧ rem (mul d q) d = 0 := by
  obtain ⟨a, b⟩ := rem_spec (n := mul d q) hd
  have p := bl_pos hd
  have := div_one (q := q) (r := 0) (q' := quo (mul d q) d) hd (by rw [bl_zero]; omega) a (by rw [Nat.xor_zero]; exact b)
  exact ⟨this.1.symm, this.2.symm⟩
theorem Dv.refl (a : Nat) : Dv a a := ⟨1, (mul_one a).symm⟩
theorem Dv.zero (a : Nat) : Dv a 0 := ⟨0, (mul_zero a).symm⟩
theorem Dv.one (a : Nat) : Dv 1 a := ⟨a, (one_mul a).symm⟩
theorem Dv.trans {a b c : Nat} : Dv a b → Dv b c → Dv a c := by
  rintro ⟨q, rfl⟩ ⟨p, rfl⟩; exact ⟨mul q p, by rw [mul_assoc]⟩
theorem Dv.mul_right {a b : Nat} (c : Nat) : Dv a b → Dv a (mul b c) := by
  rintro ⟨q, rfl⟩; exact ⟨mul q c, by rw [mul_assoc]⟩
theorem Dv.xor {a b c : Nat} : Dv a b → Dv a c → Dv a (b ^^^ c) := by
  rintro ⟨q, rfl⟩ ⟨p, rfl⟩; exact ⟨q ^^^ p, by rw [mul_xor]⟩
theorem Dv.le {a b : Nat} (hb : 0 < b) : Dv a b → bl a ≤ bl b := by
  rintro ⟨q, rfl⟩
  have ha : 0 < a := by
    rcases Nat.eq_zero_or_pos a with e | e
    · subst e; rw [zero_mul] at hb; omega
    · exact e
  have hq : 0 < q := by
    rcases Nat.eq_zero_or_pos q with e | e
    · subst e; rw [mul_zero] at hb; omega
    · exact e
  have := bl_mul ha hq; have := bl_pos hq; omega
theorem Dv.antisymm {a b : Nat} : Dv a b → Dv b a → a = b := by
  rintro ⟨q, rfl⟩ ⟨p, hp⟩
  rcases Nat.eq_zero_or_pos a with e | ha
  · subst e; rw [zero_mul]
  · rw [mul_assoc] at hp
    have e1 : mul q p = 1 := mul_cancel ha (by rw [mul_one]; exact hp.symm)
    have hq : 0 < q := by
      rcases Nat.eq_zero_or_pos q with e | e
      · subst e; rw [zero_mul] at e1; omega
      · exact e
    have hp' : 0 < p := by
      rcases Nat.eq_zero_or_pos p with e | e
      · subst e; rw [mul_zero] at e1; omega
      · exact e
    have s := bl_mul hq hp'
    rw [e1] at s
    have b1 : bl 1 = 1 := by decide
    have := bl_pos hq; have := bl_pos hp'
    have : bl q ≤ 1 := by omega
    have := bl_le.mp this
    have : q = 1 := by omega
    rw [this, mul_one]
theorem dv_zero {a : Nat} : Dv 0 a → a = 0 := by rintro ⟨q, rfl⟩; exact zero_mul q
/-- Euclid -/
theorem rem_less {a b : Nat} (hb : 0 < b) : rem a b < b := by
  have := (rem_spec (n := a) hb).1
  have p := bl_pos hb
  have h1 := lt_bl.mp (show bl b - 1 < bl b by omega)
  have h2 := bl_le.mp (show bl (rem a b) ≤ bl b - 1 by omega)
  omega
def gcd (a b : Nat) : Nat := if h : 0 < b then gcd b (rem a b) else a
termination_by b
decreasing_by exact rem_less h
theorem gcd_zero (a : Nat) : gcd a 0 = a := by unfold gcd; simp
theorem gcd_step {a b : Nat} (h : 0 < b) : gcd a b = gcd b (rem a b) := by
  conv => lhs; unfold gcd
  rw [dif_pos h]
theorem gcd_dv (a b : Nat) : Dv (gcd a b) a ∧ Dv (gcd a b) b := by
  induction b using Nat.strongRecOn generalizing a with
  | _ b ih =>
    rcases Nat.eq_zero_or_pos b with e | hb
    · subst e; rw [gcd_zero]; exact ⟨.refl a, .zero a⟩
    · rw [gcd_step hb]
      obtain ⟨h1, h2⟩ := ih _ (rem_less (a := a) hb) b
      refine ⟨?_, h1⟩
      have e := (rem_spec (n := a) hb).2
      have := (h1.mul_right (quo a b)).xor h2
      rwa [← e] at this
theorem gcd_bez (a b : Nat) : ∃ x y, gcd a b = mul a x ^^^ mul b y := by
  induction b using Nat.strongRecOn generalizing a with
  | _ b ih =>
    rcases Nat.eq_zero_or_pos b with e | hb
    · subst e; exact ⟨1, 0, by rw [gcd_zero, mul_one, mul_zero, Nat.xor_zero]⟩
    · obtain ⟨x, y, h⟩ := ih _ (rem_less (a := a) hb) b
      have e := (rem_spec (n := a) hb).2
      have er : rem a b = a ^^^ mul b (quo a b) := by
        conv => rhs; rw [e]
        have : mul b (quo a b) ^^^ rem a b ^^^ mul b (quo a b) = (mul b (quo a b) ^^^ mul b (quo a b)) ^^^ rem a b := by ac_rfl
        rw [← e] at this ⊢
        rw [this, Nat.xor_self, Nat.zero_xor]
      refine ⟨y, x ^^^ mul (quo a b) y, ?_⟩
      rw [gcd_step hb, h, mul_xor, ← mul_assoc]
      conv => lhs; rw [er]
      rw [xor_mul]
      ac_rfl
theorem dv_gcd {c a b : Nat} (h1 : Dv c a) (h2 : Dv c b) : Dv c (gcd a b) := by
  obtain ⟨x, y, e⟩ := gcd_bez a b
  rw [e]; exact (h1.mul_right x).xor (h2.mul_right y)
theorem gcd_mul (m a b : Nat) : gcd (mul m a) (mul m b) = mul m (gcd a b) := by
  apply Dv.antisymm
  · obtain ⟨x, y, e⟩ := gcd_bez a b
    rw [e, mul_xor, ← mul_assoc, ← mul_assoc]
    obtain ⟨h1, h2⟩ := gcd_dv (mul m a) (mul m b)
    exact (h1.mul_right x).xor (h2.mul_right y)
  · obtain ⟨⟨p, hp⟩, ⟨q, hq⟩⟩ := gcd_dv a b
    exact dv_gcd ⟨p, by rw [mul_assoc, ← hp]⟩ ⟨q, by rw [mul_assoc, ← hq]⟩
theorem gcd_comm (a b : Nat) : gcd a b = gcd b a :=
  Dv.antisymm (dv_gcd (gcd_dv a b).2 (gcd_dv a b).1) (dv_gcd (gcd_dv b a).2 (gcd_dv b a).1)
theorem gcd_eq_zero {a b : Nat} : gcd a b = 0 ↔ a = 0 ∧ b = 0 := by
  constructor
  · intro h
    obtain ⟨h1, h2⟩ := gcd_dv a b
    rw [h] at h1 h2; exact ⟨dv_zero h1, dv_zero h2⟩
  · rintro ⟨rfl, rfl⟩; exact gcd_zero 0
end Gf
namespace Gf
theorem bl_double (a : Nat) : bl (2 * a) ≤ bl a + 1 := by
  rw [bl_le, Nat.pow_succ]
  have := bl_le.mp (Nat.le_refl (bl a)); omega
theorem bl_half {b : Nat} (h : 0 < b) : bl (b / 2) + 1 = bl b := by
  obtain ⟨l, u⟩ := span h
  have p := bl_pos h
  have e : 2 ^ (bl b - 1 + 1) = 2 * 2 ^ (bl b - 1) := by rw [Nat.pow_succ]; omega
  rcases Nat.eq_zero_or_pos (bl b - 1) with z | z
  · rw [z] at l u
    have : b = 1 := by simp at l u; omega
    subst this; decide
  · have e2 : 2 ^ (bl b - 1) = 2 * 2 ^ (bl b - 1 - 1) := by
      have : 2 ^ (bl b - 1 - 1 + 1) = 2 * 2 ^ (bl b - 1 - 1) := by rw [Nat.pow_succ]; omega
      rw [← this]; congr 1; omega
    have := bl_eq (n := b / 2) (k := bl b - 1 - 1) (by omega) (by rw [show bl b - 1 - 1 + 1 = bl b - 1 by omega]; omega)
    omega
theorem mul_odd {a b : Nat} (h : b % 2 = 1) : mul a b = a ^^^ mul (2 * a) (b / 2) := by rw [mul_step, if_pos h, double_mul]
theorem mul_even {a b : Nat} (h : ¬ b % 2 = 1) : mul a b = mul (2 * a) (b / 2) := by rw [mul_step, if_neg h, double_mul, Nat.zero_xor]
theorem bl_mul_le (a b : Nat) : bl (mul a b) ≤ bl a + bl b := by
  rcases Nat.eq_zero_or_pos a with e | ha
  · subst e; rw [zero_mul, bl_zero]; omega
  · rcases Nat.eq_zero_or_pos b with e | hb
    · subst e; rw [mul_zero, bl_zero]; omega
    · rw [bl_mul ha hb]; omega
theorem bl_xor (a b : Nat) {k : Nat} (ha : bl a ≤ k) (hb : bl b ≤ k) : bl (a ^^^ b) ≤ k := by
  have := bl_xor_lt (a := a) (b := b) (k := k + 1) (by omega) (by omega); omega
theorem bl_shl (a k : Nat) : bl (a * 2 ^ k) ≤ bl a + k := by
  rw [bl_le, Nat.pow_add]
  exact Nat.mul_lt_mul_of_pos_right (bl_le.mp (Nat.le_refl _)) (Nat.two_pow_pos _)
end Gf
namespace Hr
open PySem PySem.Spec PyProof.Rows L2
/-! ### defs whose run is promised where no text of an object is being written -/
/-- nothing is being shown, and there is room -/
structure Rm (k : Nat) (A : Around) : Prop where
  room : Room k A
  quiet : A.guards = some []
theorem Rm.mono {j k : Nat} {A : Around} (r : Rm k A) (h : j ≤ k) : Rm j A := ⟨r.room.mono h, r.quiet⟩
theorem Rm.deeper {k : Nat} {A : Around} (r : Rm (k + 1) A) (e : Env) : Rm k (A.deeper e) := ⟨r.room.deeper e, r.quiet⟩
structure Fq (P : Program) (w : World) (K : PySem.W.Frag) (mg : Str → Option Value) (base : Heap) (CX : CXT) (k : Nat) (f : Addr) (fd : FuncData) (ps : List Str) (sp : Sp) : Prop where
  len : ∀ vs H Q E, sp vs H Q E → vs.length = ps.length
  go : ∀ (A : Around) (out : List Env) (s : Shared) (H : Hp) (args : Args) (us : List Value) (vs : List V) (Q : VK) (E : XK),
    Rm k A → Env0 P w K mg base A out s H → BindsTo s fd args (ps.zip us) → Vals vs us → sp vs H Q E →
    codeAny (model P w) A (.call (.ref f) args) (CR CX out P w H s Q E) s
section
variable {P : Program} {w : World} {K : PySem.W.Frag} {mg : Str → Option Value} {base : Heap} {CX : CXT} {f : Addr} {fd : FuncData} {ps : List Str} {sp sp' : Sp} {j k : Nat}
theorem Fq.mono (F : Fq P w K mg base CX j f fd ps sp) (h : j ≤ k) : Fq P w K mg base CX k f fd ps sp :=
  { len := F.len, go := fun A out s H args us vs Q E r => F.go A out s H args us vs Q E (r.mono h) }
theorem Fq.imp (F : Fq P w K mg base CX k f fd ps sp) (h : ∀ vs H Q E, sp' vs H Q E → sp vs H Q E) : Fq P w K mg base CX k f fd ps sp' :=
  { len := fun vs H Q E q => F.len vs H Q E (h _ _ _ _ q)
    go := fun A out s H args us vs Q E r e b v q => F.go A out s H args us vs Q E r e b v (h _ _ _ _ q) }
end
section
variable {X : Cx} {CX : CXT} {k : Nat} {f : Addr} {fd : FuncData} {ps ks : List Str} {sp : Sp} {dvs : List V} {ds : List Value} {E : XK} {x : Str} {p pos : Pos} {e : Expr} {es : List Expr} {ta : TA} {kws : List Keyword} {tk : TA}
theorem end_of {pins : List (Addr × Obj)} {σ : L2.St} {H : Hp} {s : Shared} {Q : VK} (hx : Passes CX X E) (I : Inv X pins σ H s) :
    ∀ (r : Result) (s' : Shared), CR CX X.stack X.prog X.w H s Q E r s' → wants (EP X pins σ Q) X.xe r s' := by
  intro r s' hq
  cases r with
  | error z => exact hx pins σ H s z s' I hq
  | ok fl => cases fl <;> first | exact I.after hq | exact hq.elim
theorem fq_run {pins : List (Addr × Obj)} {σ : L2.St} {H : Hp} {s : Shared} {Q : VK} {us : List Value} {vs : List V} (F : Fq X.prog X.w X.K X.mg X.base CX k f fd ps sp)
    (hr : Rm k X.A) (hb : Binds X.K fd ps ds) (hd : Vals dvs ds) (hx : Passes CX X E) (I : Inv X pins σ H s) (r : Vals vs us) (h : sp (vs ++ dvs) H Q E) :
    wpAny (model X.prog X.w) X.A (call (.ref f) us) (EP X pins σ Q) X.xe s := by
  have rr := r.append hd
  have hl : (us ++ ds).length = ps.length := rr.length.symm.trans (F.len _ _ _ _ h)
  exact wpAny_call (codeAny_mono (F.go X.A X.stack s H _ _ _ Q E hr I.env0 (hb s us I.kIn hl) rr h) (end_of hx I))
theorem pe_q (F : Fq X.prog X.w X.K X.mg X.base CX k f fd ps sp) (hr : Rm k X.A) (hg : Gl X x) (hm : X.mg x = some (.ref f)) (hk : PySem.W.keepIn X.K (.ref f) = true)
    (hb : Binds X.K fd ps ds) (hd : Vals dvs ds) (hx : Passes CX X E) (ha : PA X (e :: es) ta) (hdb : (x == ("__debug__" : Str)) = false := by decide)
    (he : starEach (e :: es) X.env = (false, eval e X.env) :: starEach es X.env := by rfl) (hpl : (backTo pos (starEach es X.env)).any (·.1) = false := by rfl) :
    PE X (.Call (.Name x p) (e :: es) [] pos) (tCall sp dvs E ta) :=
  ⟨fun pins s σ H Q I h => wpAny_Call_Name_kw (ld_glob I hg hm (PySem.W.callWith_K (h₀ := X.base) I.ok.mod.kin hk
    (thn (ha.run pos pins s σ H _ I h) fun _ _ ⟨_, _, I1, r, q⟩ => ⟨I1.kIn, fq_run F hr hb hd hx I1 r q⟩) he hpl) hdb)⟩
theorem pe_q0 (F : Fq X.prog X.w X.K X.mg X.base CX k f fd ps sp) (hr : Rm k X.A) (hg : Gl X x) (hm : X.mg x = some (.ref f)) (hk : PySem.W.keepIn X.K (.ref f) = true)
    (hb : Binds X.K fd ps ds) (hd : Vals dvs ds) (hx : Passes CX X E) (hdb : (x == ("__debug__" : Str)) = false := by decide) :
    PE X (.Call (.Name x p) [] [] pos) (tCall sp dvs E tNil) :=
  ⟨fun pins s σ H Q I h => wpAny_Call_Name_kw (ld_glob I hg hm (PySem.W.callWith_K0 I.kIn hk (fq_run (us := []) F hr hb hd hx I .nil h)) hdb)⟩
end
/-! ### repr of plain data -/
mutual
def neat : PyData → Bool
  | .none => true
  | .bool _ => true
  | .int i => decide (i.natAbs.log2 < 1920)
  | .str x => x.cps.toList.all fun c => decide (c < 16 ^ 8)
  | .list xs => neats xs
  | .tuple xs => neats xs
  | .dict _ => false
def neats : List PyData → Bool
  | [] => true
  | x :: xs => neat x && neats xs
end
mutual
def cost : PyData → Nat
  | .none => 5
  | .bool _ => 5
  | .int _ => 1921
  | .str x => 10 * x.length + 2
  | .list xs => costs xs + 3
  | .tuple xs => costs xs + 3
  | .dict _ => 0
def costs : List PyData → Nat
  | [] => 0
  | x :: xs => cost x + 2 + costs xs
end
theorem sums_eq : ∀ xs : List PyData, PyData.shownAll xs = xs.map PyData.shown
  | [] => rfl
  | x :: xs => by rw [PyData.shownAll, sums_eq xs]; rfl
mutual
theorem neat_ok : ∀ d : PyData, neat d = true → d.showable = true ∧ d.hasDict = false ∧ d.shown.length ≤ cost d
  | .none, _ => ⟨rfl, rfl, by decide +kernel⟩
  | .bool b, _ => ⟨rfl, rfl, by cases b <;> decide +kernel⟩
  | .int i, h => by
    have h' : i.natAbs.log2 < 1920 := of_decide_eq_true h
    exact ⟨decide_eq_true h', rfl, PyProof.Rows.int_text_len_1921 h'⟩
  | .str x, h => by
    refine ⟨rfl, rfl, ?_⟩
    have h' : (x.cps.toList.all fun c => decide (c < 16 ^ 8)) = true := h
    exact StrLaws.reprText_len x fun c hc => of_decide_eq_true (List.all_eq_true.mp h' c hc)
  | .list xs, h => by
    obtain ⟨a, b, c⟩ := neats_ok xs h
    refine ⟨a, b, ?_⟩
    have l := listText_len_le (PyData.shownAll xs)
    show (listText (PyData.shownAll xs)).length ≤ costs xs + 3
    omega
  | .tuple xs, h => by
    obtain ⟨a, b, c⟩ := neats_ok xs h
    refine ⟨a, b, ?_⟩
    have l := tupleText_len_le (PyData.shownAll xs)
    show (tupleText (PyData.shownAll xs)).length ≤ costs xs + 3
    omega
  | .dict _, h => by cases h
theorem neats_ok : ∀ xs : List PyData, neats xs = true → PyData.showableAll xs = true ∧ PyData.hasDictAll xs = false ∧ ((PyData.shownAll xs).map (·.length)).sum + 2 * (PyData.shownAll xs).length ≤ costs xs
  | [], _ => ⟨rfl, rfl, Nat.le_refl _⟩
  | x :: xs, h => by
    have h' : (neat x && neats xs) = true := h
    rw [Bool.and_eq_true] at h'
    obtain ⟨a, b, c⟩ := neat_ok x h'.1
    obtain ⟨a2, b2, c2⟩ := neats_ok xs h'.2
    refine ⟨by rw [PyData.showableAll, a, a2]; rfl, by rw [PyData.hasDictAll, b, b2]; rfl, ?_⟩
    rw [PyData.shownAll, List.map_cons, List.sum_cons, List.length_cons, costs]
    omega
end
theorem repr_any {u : Value} {d : PyData} {as : List Addr} {A : Around} {E : Value → Shared → Prop} {s : Shared} {Q : Value → Shared → Prop} {P : Program} {w : World} (r : Reads s.heap u d as)
    (hn : neat d = true) (hc : cost d ≤ 10000000) (h4 : d.depth ≤ 50) (hg : A.guards = some []) (hu : A.units + 64 < cLine)
    (hQ : ∀ h' v tk, (∀ b o, s.heap.get? b = some o → h'.get? b = some o) → Q (.str d.shown v) { s with heap := h', toks := tk }) :
    wpAny (model P w) A (call (.builtin "repr") [u]) Q E s := by
  obtain ⟨h1, h2, h3⟩ := neat_ok d hn
  have h5 : d.shown.length ≤ sizeLine := by rw [sizeLine_eq]; omega
  cases u with
  | ref a => exact repr_of_reads' r h1 (fun h => by rw [h2] at h; cases h) hg (by omega) (fun _ _ e => e) hQ h5
  | none => cases r; exact PySem.P.repr_of_none (hQ _ _ _ fun _ _ e => e)
  | bool b => cases r; exact PySem.P.repr_of_bool (hQ _ _ _ fun _ _ e => e)
  | int i t => cases r; exact PySem.P.repr_of_int (of_decide_eq_true h1) (hQ _ _ _ fun _ _ e => e)
  | str x t => cases r; exact PySem.P.repr_of_str (hQ _ _ _ fun _ _ e => e) h5
  | _ => cases r
section
variable {X : Cx}
def rRepr (K : PySem.W.Frag) : List V → Hp → VK → Prop := fun xs H Q => ∃ (x : V) (d : PyData), xs = [x] ∧ Dp K H x d ∧ neat d = true ∧ cost d ≤ 10000000 ∧ d.depth ≤ 50 ∧ Q (.str d.shown) H
theorem cr_repr {k : Nat} (hr : Rm k X.A) : CallR X (.builtin "repr") (rRepr X.K) := by
  intro pins s σ H xs us Q I r h
  obtain ⟨x, d, rfl, hd, h1, h2, h3, q⟩ := h
  obtain ⟨u, rfl, rv⟩ := vals1 r
  obtain ⟨as, rd⟩ := Dp.reads I d x u hd rv
  exact repr_any rd h1 h2 h3 hr.quiet hr.room.units fun h' v tk k => ⟨.str d.shown, H, I.kept (t' := tk) k, ⟨v, rfl⟩, q⟩
end
/-! ### a def by its body -/
section
variable {P : Program} {w : World} {K : PySem.W.Frag} {mg : Str → Option Value} {base : Heap} {CX : CXT} {k : Nat} {f : Addr} {N ps : List Str} {sp : Sp}
theorem fq_of {name qual : Str} {params : Arguments} {body : List Stmt} {scope : Scope} {dV kV doc pm cdv ct oc : Value} {an od : Option Addr} {osl : Array (Option Value)}
    (lk : K.lookup f = some ⟨oc, od, .func (PySem.W.fnOf name qual params body scope dV kV doc pm an cdv ct), osl⟩) (hcd : PySem.W.codeIn K cdv qual = true) (S : FnScope N ps scope)
    (len : ∀ vs H Q E, sp vs H Q E → vs.length = ps.length)
    (hbody : ∀ (A : Around) (out : List Env) (s : Shared) (H : Hp) (vs : List V) (Q : VK) (E : XK), Rm k (A.deeper (envOfC qual scope s.heap.objs.size f cdv)) → sp vs H Q E →
      ∃ t, PSs (cxOf CX P w K mg base N qual scope f cdv A out s H E) body t ∧ t { nx := fun _ H' => Q .non H', rt := Q } (start N vs) H) :
    Fq P w K mg base CX (k + 1) f (PySem.W.fnOf name qual params body scope dV kV doc pm an cdv ct) ps sp := by
  constructor
  · exact len
  intro A out s H args us vs Q E hr e0 hb r hsp
  have old : ∀ b o, base.get? b = some o → s.heap.get? b = some o := fun b o e => (e0.bs b o e).1
  have KX := e0.mod.kin.keeps old
  have par : ∀ y ∈ ps.zip us, scope.names.lookup y.1 = some .local ∨ (scope.names.lookup y.1 = some .cell ∧ ((cellsFrom (s.heap.objs.size + 1) scope.names []).lookup y.1).isSome = true) := by
    intro y hy
    exact (S.par y.1 (List.of_mem_zip hy).1).imp id fun q => ⟨q, PySem.W.cellsFrom_some _ _ _ (.inl q)⟩
  refine codeAny_call_function hr.room.depth (KX _ _ lk) rfl S.co S.gen rfl (PySem.W.codeRec_of KX hcd) (hb _ _ _ _ ?_)
  refine wpAny_newFunctionEnv_cells S.kind par fun env he s1 x => ?_
  subst he
  refine ⟨(e0.mod.nolimit.keeps old).keeps x.toInCall.keep, codeAny_func ?_⟩
  obtain ⟨t, ht, hq⟩ := hbody A out s H vs Q E (hr.deeper _) hsp
  have I := inv_start (CX := CX) (E := E) S hr.room.hd e0 (len _ _ _ _ hsp) r x
  refine wpAny_mono (ht.run [] s1 (start N vs) H _ I hq) (fun fl s' hs => ?_) fun _ _ hs => hs
  cases fl
  case ret u =>
    obtain ⟨v, σ', H', J, rv, q⟩ := hs
    exact ⟨v, H', J.os, J.bare, J.base, J.hok, rv, q⟩
  case next =>
    obtain ⟨σ', H', J, q⟩ := hs
    exact ⟨V.non, H', J.os, J.bare, J.base, J.hok, rfl, q⟩
  case brk => obtain ⟨_, _, _, q⟩ := hs; exact q.elim
  case cont => obtain ⟨_, _, _, q⟩ := hs; exact q.elim
/-- a def of the text -/
theorem okq {x qual : Str} {st : Stmt} {fd : FuncData} (F : Fun K x qual st f fd) (S : FnScope N ps (defScope st)) (len : ∀ vs H Q E, sp vs H Q E → vs.length = ps.length)
    (hbody : ∀ (cdv : Value) (A : Around) (out : List Env) (s : Shared) (H : Hp) (vs : List V) (Q : VK) (E : XK), Rm k (A.deeper (envOfC qual (defScope st) s.heap.objs.size f cdv)) → sp vs H Q E →
      ∃ t, PSs (cxOf CX0 P w K mg base N qual (defScope st) f cdv A out s H E).nox (defBody st) t ∧ t { nx := fun _ H' => Q .non H', rt := Q } (start N vs) H) :
    Fq P w K mg base CX0 (k + 1) f fd ps sp := by
  obtain ⟨oc, od, kV, doc, pm, an, cdv, ct, osl, rfl, lk, hcd⟩ := F.ex
  refine fq_of lk hcd S len fun A out s H vs Q E hr h => ?_
  obtain ⟨t, a, b⟩ := hbody cdv A out s H vs Q E hr h
  exact ⟨t, a.nox, b⟩
end
/-! ### the law's own call -/
theorem vals_of_ints {vs : List Value} {ns : List Int} (h : IntsAre vs ns) : Vals (ns.map V.int) vs := by
  induction h with
  | nil => exact .nil
  | cons n t _ ih => exact .cons ⟨t, rfl⟩ ih
section
variable {P : Program} {w : World} {K : PySem.W.Frag} {mg mb : Str → Option Value} {k : Nat} {fa a : Addr} {fd : FuncData} {x : Str} {sp : Sp} {s₁ : Shared} {vs : List Value} {ns : List Int}
/-- the heap that knows at most the script -/
theorem call_from {H : Hp} (KX : K.In s₁.heap) (hns : s₁.heap.Ns mainGlobals mg) (hb : s₁.heap.Ns builtinsNs mb) (hbb : ∀ y : Str, y ≠ "__name__" → mb y = bootBuiltins y) (hlim : s₁.heap.NoLimit)
    (hg : s₁.gens = #[]) (ha : s₁.heap.get? a = some { cls := .type "list", data := .seq vs.toArray }) (hr : Rm k callerA)
    (F : ∀ base : Heap, K.In base → base.Ns mainGlobals mg → Fq P w K mg base CX0 k fa fd [x] sp) (hbind : ∀ (s : Shared) (u : Value), BindsTo s fd ⟨[u], []⟩ [(x, u)])
    (hsp : sp [.ref a] H (fun v _ => v = .bl true) fun _ _ _ => False)
    (hO : Only H) (hok : HOk P w H s₁.heap) (hA : ∀ b u, H b = some u → b = a) (hK : ∀ u, H a = some u → K.lookup a = none) :
    codeAny (model P w) callerA (.call (.ref fa) ⟨[.ref a], []⟩) (fun r s' => r = .ok (.ret (.bool true)) ∧ OldK s₁.heap s'.heap ∧ s'.os = s₁.os ∧ AllBare s'.gens) s₁ := by
  have free : ∀ {b : Addr} {o : Obj} {es : Array DictEntry} {ep : Nat}, s₁.heap.get? b = some o → o.data = .dict es ep → H b = none := by
    intro b o es ep e d
    cases q : H b
    case none => rfl
    case some u =>
      cases hA b u q
      cases ha.symm.trans e
      cases (show Data.seq vs.toArray _ = Data.dict es ep from d)
  have ns' : ∀ {b : Addr} {m : Str → Option Value}, s₁.heap.Ns b m → (hidT s₁.heap H).Ns b m := by
    rintro b m ⟨o, es, ep, e, d, r⟩
    exact ⟨o, es, ep, hidT_get e (free e d), d, r⟩
  have KB : K.In (hidT s₁.heap H) := by
    intro b o e
    refine hidT_get (KX b o e) ?_
    cases q : H b
    case none => rfl
    case some u =>
      cases hA b u q
      have z := hK u q
      rw [e] at z; cases z
  have M : Mod K mg (hidT s₁.heap H) := by
    obtain ⟨mc, h1, h2⟩ := hlim
    exact ⟨KB, ns' hns, ⟨mb, ns' hb, hbb⟩, ⟨mc, ns' h1, h2⟩⟩
  have e0 : Env0 P w K mg (hidT s₁.heap H) callerA [] s₁ H := {
    frames := rfl
    mod := M
    bs := fun b o e => of_hidT e
    bsz := Nat.le_of_eq (hidT_size _ _)
    funs := trivial
    frf := fun b hb => by cases (show b ∈ ([] : List Addr) from hb)
    hok := hok
    bare := .of_eq hg }
  refine codeAny_mono ((F _ KB (ns' hns)).go callerA [] s₁ H ⟨[.ref a], []⟩ [.ref a] [.ref a] _ _ hr e0 (hbind s₁ (.ref a)) (.cons rfl .nil) hsp) ?_
  rintro (e | fl) s' h
  · exact h.elim
  cases fl
  case next => exact h.elim
  case brk => exact h.elim
  case cont => exact h.elim
  case ret u =>
    obtain ⟨v, H', os, bare, un, hok', r', q⟩ := h
    cases (show v = .bl true from q)
    cases (show u = Value.bool true from r')
    refine ⟨rfl, OldK.of_keep fun b o e => ?_, os, bare⟩
    cases q : H b
    case none => exact un.keep b o e q (by intro z; cases (show b ∈ ([] : List Addr) from z)) (by simp)
    case some u =>
      rcases hO b with z | ⟨ob, xs, z⟩
      · rw [q] at z; cases z
      · obtain ⟨e1, _⟩ := hok b _ z
        obtain ⟨e2, _⟩ := hok' b _ (un.frzs b ob _ z)
        cases e.symm.trans e1
        exact e2
end
/-- from the law's promise to the row -/
theorem rowq {l : PySem.W.OpenLaw} {n k : Nat} {q : Program} {loose : List Str} {XP : (Str → Option Value) → Heap → Prop} {YP : World → Heap → Prop} {d : DefRec} {K : Params → PySem.W.Frag} {sp : PySem.W.Frag → Sp} {x : Str}
    (hn : l.most = some n) (hn2 : n ≤ sizeLine) (hdf : d.params.defaults = []) (hr : Rm k callerA)
    (hY : ∀ (w : World) (h : Heap), YP w h → (K w.params).In h)
    (F : ∀ (w : World) (mg : Str → Option Value) (fa : Addr) (h : Heap), (K w.params).In h → h.Ns mainGlobals mg → mg d.name = some (.ref fa) →
      ∃ fd : FuncData, (∀ (s : Shared) (u : Value), BindsTo s fd ⟨[u], []⟩ [(x, u)]) ∧
        ∀ base : Heap, (K w.params).In base → base.Ns mainGlobals mg → Fq l.prog w (K w.params) mg base CX0 k fa fd [x] (sp (K w.params)))
    (hsp : ∀ (K : PySem.W.Frag) (H : Hp) (a : Addr) (ns : List Int), ns.length ≤ n → Only H → SqL K H a (ns.map V.int) → sp K [.ref a] H (fun v _ => v = .bl true) fun _ _ _ => False) :
    PySem.W.WalkO q loose XP YP l.row.toRowW d [] (fun f vs => PySem.call f vs) := by
  refine Att.attach_call hn hdf fun w s₀ s₁ mg mb fa o pm cd doc a vs ns G Y ho hd hcd hmg ha hi hlen hg => ?_
  have KX := hY w _ Y
  obtain ⟨fd, hb, hF⟩ := F w mg fa _ KX G.T.g hmg
  have rv := vals_of_ints hi
  have hl : ns.length ≤ sizeLine := Nat.le_trans hlen hn2
  cases hk : (K w.params).lookup a
  case some o =>
    cases (KX a o hk).symm.trans ha
    have hS : SqL (K w.params) (fun _ => none) a (ns.map V.int) := .inr ⟨_, vs.toArray, _, hk, rfl, rfl, rfl, by rw [List.size_toArray, hi.length]; exact hl, by simpa using rv⟩
    exact call_from (H := fun _ => none) KX G.T.g G.T.b G.T.builtins G.T.nolimit hg ha hr hF hb (hsp _ _ a ns hlen (fun _ => .inl rfl) hS) (fun _ => .inl rfl)
      (fun b u z => by cases (show (none : Option HO) = some u from z)) (fun b u z => by cases z) (fun u z => by cases z)
  case none =>
    let H : Hp := fun b => if b = a then some (.frz { cls := .type "list", data := .seq vs.toArray } (.lst (ns.map V.int))) else none
    have Ha : H a = some (.frz { cls := .type "list", data := .seq vs.toArray } (.lst (ns.map V.int))) := if_pos rfl
    have Hn : ∀ b, b ≠ a → H b = none := fun b h => if_neg h
    have hO : Only H := fun b => by
      by_cases e : b = a
      · subst e; exact .inr ⟨_, _, Ha⟩
      · exact .inl (Hn b e)
    have hA : ∀ b u, H b = some u → b = a := fun b u z => by
      by_cases e : b = a
      · exact e
      · rw [Hn b e] at z; cases z
    refine call_from (H := H) KX G.T.g G.T.b G.T.builtins G.T.nolimit hg ha hr hF hb (hsp _ _ a ns hlen hO (.inl (.inr ⟨_, Ha⟩))) hO (fun b u z => ?_) hA (fun _ _ => hk)
    cases hA b u z
    cases Ha.symm.trans z
    exact ⟨ha, by rw [List.length_map]; exact hl, vs, _, rv, ha⟩
end Hr
namespace Hr
open PySem PySem.Spec PyProof.Rows L2
/-! ### defs by name -/
structure Def (K : PySem.W.Frag) (mg : Str → Option Value) (x : Str) (st : Stmt) (ps : List Str) : Prop where
  ex : ∃ f fd, mg x = some (.ref f) ∧ Fun K x x st f fd ∧ L2.Binds K fd ps []
structure Has (P : Program) (w : World) (K : PySem.W.Frag) (mg : Str → Option Value) (base : Heap) (k : Nat) (x : Str) (ps : List Str) (sp : Sp) : Prop where
  ex : ∃ f fd, mg x = some (.ref f) ∧ PySem.W.keepIn K (.ref f) = true ∧ L2.Binds K fd ps [] ∧ Fq P w K mg base CX0 k f fd ps sp
/-- a promise: arguments f x, what must hold of them, what comes out -/
def spX {α : Type} (f : α → List V) (pre : α → Hp → Prop) (post : α → Hp → V → Hp → Prop) : Sp := fun vs H Q _ => ∃ x : α, vs = f x ∧ pre x H ∧ ∀ v H', post x H v H' → Q v H'
section
variable {P : Program} {w : World} {K : PySem.W.Frag} {mg : Str → Option Value} {base : Heap} {k j : Nat} {x : Str} {ps N : List Str} {st : Stmt} {sp : Sp}
theorem Has.mono (h : Has P w K mg base j x ps sp) (l : j ≤ k) : Has P w K mg base k x ps sp := by
  obtain ⟨f, fd, a, b, c, d⟩ := h.ex
  exact ⟨f, fd, a, b, c, d.mono l⟩
theorem Def.has {α : Type} {f : α → List V} {pre : α → Hp → Prop} {post : α → Hp → V → Hp → Prop} (D : Def K mg x st ps) (S : FnScope N ps (defScope st)) (hl : ∀ z, (f z).length = ps.length)
    (hbody : ∀ (g : Addr) (cdv : Value) (A : Around) (out : List Env) (s : Shared) (H : Hp) (z : α) (Q : VK) (E : XK), Rm k (A.deeper (envOfC x (defScope st) s.heap.objs.size g cdv)) → pre z H → (∀ v H', post z H v H' → Q v H') →
      ∃ t, PSs (cxOf CX0 P w K mg base N x (defScope st) g cdv A out s H E).nox (defBody st) t ∧ t { nx := fun _ H' => Q .non H', rt := Q } (start N (f z)) H) :
    Has P w K mg base (k + 1) x ps (spX f pre post) := by
  obtain ⟨g, fd, a, F, c⟩ := D.ex
  refine ⟨g, fd, a, F.kp, c, okq F S ?_ ?_⟩
  · rintro vs H Q E ⟨z, rfl, _⟩; exact hl z
  · rintro cdv A out s H vs Q E hr ⟨z, rfl, hp, q⟩
    exact hbody g cdv A out s H z Q E hr hp q
end
section
variable {X : Cx} {k l : Nat} {ps : List Str} {sp : Sp} {x : Str} {p pos : Pos} {e : Expr} {es : List Expr} {ta : TA}
theorem pe_h (h : Has X.prog X.w X.K X.mg X.base k x ps sp) (hr : Rm l X.A) (ha : PA X (e :: es) ta) (hkl : k ≤ l := by decide) (hg : Gl X x := by rfl) (hdb : (x == ("__debug__" : Str)) = false := by decide)
    (he : starEach (e :: es) X.env = (false, eval e X.env) :: starEach es X.env := by rfl) (hpl : (backTo pos (starEach es X.env)).any (·.1) = false := by rfl) :
    PE X (.Call (.Name x p) (e :: es) [] pos) (tCall sp [] E0 ta) := by
  obtain ⟨f, fd, a, b, c, F⟩ := h.ex
  exact pe_q F (hr.mono hkl) hg a b c .nil pass0 ha hdb he hpl
end
/-! ### whole numbers of any size -/
section
variable {X : Cx}
def CPowX (i j : Int) : Prop := 0 ≤ j ∧ (Builtin.Int.intBits i : Int) * j ≤ 134217728
theorem op_powX : OpR X (binaryOp .Pow) (rI CPowX fun i j => .int (i ^ j.toNat)) := opI fun _ _ _ _ _ _ _ hc q => pow_int hc.1 hc.2 q
theorem op_xorN : OpR X (binaryOp .BitXor) (fun x y H Q => ∃ n m : Nat, x = .int (n : Int) ∧ y = .int (m : Int) ∧ Q (.int ((n ^^^ m : Nat) : Int)) H) := by
  intro pins s σ H x y v u Q I rx ry h
  obtain ⟨n, m, rfl, rfl, q⟩ := h
  refine op_xor pins s σ H _ _ v u Q I rx ry ⟨_, _, rfl, rfl, ?_⟩
  show Q (V.int (Builtin.bitXor (n : Int) (m : Int))) H
  rw [_root_.Bits.bitXor_pp (Int.natCast_nonneg n) (Int.natCast_nonneg m), Int.toNat_natCast, Int.toNat_natCast]
  exact q
theorem op_orN : OpR X (binaryOp .BitOr) (fun x y H Q => ∃ n m : Nat, x = .int (n : Int) ∧ y = .int (m : Int) ∧ Q (.int ((n ||| m : Nat) : Int)) H) := by
  intro pins s σ H x y v u Q I rx ry h
  obtain ⟨n, m, rfl, rfl, q⟩ := h
  refine op_or pins s σ H _ _ v u Q I rx ry ⟨_, _, rfl, rfl, ?_⟩
  show Q (V.int (Builtin.bitOr (n : Int) (m : Int))) H
  rw [bitOr_nn (Int.natCast_nonneg n) (Int.natCast_nonneg m), Int.toNat_natCast, Int.toNat_natCast]
  exact q
/-- n << k of naturals -/
theorem op_shlNN : OpR X (binaryOp .LShift) (fun x y H Q => ∃ n k : Nat, x = .int (n : Int) ∧ y = .int (k : Int) ∧ n.log2 ≤ 1000000 ∧ k ≤ 1000000 ∧ Q (.int ((n * 2 ^ k : Nat) : Int)) H) := by
  intro pins s σ H x y v u Q I rx ry h
  obtain ⟨n, k, rfl, rfl, hn, hk, q⟩ := h
  have hc : CShl (n : Int) (k : Int) := by
    refine ⟨Int.natCast_nonneg _, ?_⟩
    have e27 : (2 : Int) ^ 27 = 134217728 := by decide
    have b : Builtin.Int.intBits (n : Int) ≤ n.log2 + 1 := by
      unfold Builtin.Int.intBits
      split
      · omega
      · exact Nat.le_refl _
    rw [e27]; omega
  refine op_shlW pins s σ H _ _ v u Q I rx ry ⟨_, _, rfl, rfl, hc, ?_⟩
  have e : ((n : Int) * 2 ^ ((k : Int).toNat) : Int) = ((n * 2 ^ k : Nat) : Int) := by
    rw [Int.toNat_natCast, Int.natCast_mul, Int.natCast_pow]; rfl
  show Q (V.int ((n : Int) * 2 ^ ((k : Int).toNat))) H
  rw [e]; exact q
end
theorem bits_bl (n : Nat) : Builtin.Int.intBits (n : Int) = if n = 0 then 0 else n.log2 + 1 := by
  unfold Builtin.Int.intBits
  by_cases h : n = 0
  · subst h; rfl
  · rw [if_neg h, if_neg (by simpa using h)]; rfl
/-! ### a while with an invariant, the test known at each turn -/
theorem same_new {H : Hp} {p : Addr} {o : HO} (h : H p = none) : Same H (upd H p o) := fun b u e => by
  rw [upd_ne (ne_of_none e h)]; exact e
end Hr
namespace Hr
open PySem PySem.Spec PyProof.Rows L2 Evl
/-! ### sizes -/
def sz (a : Int) : Nat := Gf.bl a.natAbs
theorem sz_zero : sz 0 = 0 := rfl
theorem sz_le {a : Int} {n : Nat} : sz a ≤ n ↔ a.natAbs < 2 ^ n := Gf.bl_le
theorem sz_nat (n : Nat) : sz (n : Int) = Gf.bl n := rfl
theorem sz_neg (a : Int) : sz (-a) = sz a := by unfold sz; rw [Int.natAbs_neg]
theorem sz_abs (a : Int) : sz (a.natAbs : Int) = sz a := rfl
theorem bits_sz (a : Int) : Builtin.Int.intBits a = sz a := by
  unfold Builtin.Int.intBits sz Gf.bl
  by_cases h : a = 0
  · subst h; rfl
  · rw [if_neg (by simpa using h), if_neg (by omega)]
theorem sz_mono {a b : Int} (h : a.natAbs ≤ b.natAbs) : sz a ≤ sz b := sz_le.mpr (Nat.lt_of_le_of_lt h (sz_le.mp (Nat.le_refl _)))
theorem sz_mul (a b : Int) : sz (a * b) ≤ sz a + sz b := by
  rw [sz_le, Int.natAbs_mul, Nat.pow_add]
  exact Nat.mul_lt_mul'' (sz_le.mp (Nat.le_refl _)) (sz_le.mp (Nat.le_refl _))
theorem sz_add {a b : Int} {n : Nat} (ha : sz a ≤ n) (hb : sz b ≤ n) : sz (a + b) ≤ n + 1 := by
  rw [sz_le] at *
  have := Int.natAbs_add_le a b
  rw [Nat.pow_succ]; omega
theorem sz_sub {a b : Int} {n : Nat} (ha : sz a ≤ n) (hb : sz b ≤ n) : sz (a - b) ≤ n + 1 := by
  rw [Int.sub_eq_add_neg]
  exact sz_add ha (by rw [sz_neg]; exact hb)
theorem cmul_ok {a b : Int} (h : sz a + sz b ≤ 134217728) : CMulX a b := by
  unfold CMulX; rw [bits_sz, bits_sz]; omega
theorem log_sz (a : Int) : a.natAbs.log2 ≤ sz a := by
  unfold sz Gf.bl
  split
  · rename_i h; rw [h]; decide
  · omega
theorem log_bl (a : Nat) : a.log2 ≤ Gf.bl a := by
  unfold Gf.bl
  split
  · rename_i h; rw [h]; decide
  · omega
theorem cdiv_ok {a b : Int} (h : 0 < b) (hs : sz b < 9000) : CDivW a b := ⟨h, by have := log_sz b; omega⟩
/-! ### the two kinds -/
inductive Kd where
  | H | B
def ks : Kd → Str
  | .H => "hours"
  | .B => "bits"
def Ok : Kd → Int → Prop
  | .H, _ => True
  | .B, a => 0 ≤ a
theorem Ok.nn {a : Int} (h : Ok .B a) : ∃ n : Nat, a = (n : Int) := Int.eq_ofNat_of_zero_le h
theorem Ok.of_nat (k : Kd) (n : Nat) : Ok k (n : Int) := by cases k; trivial; exact Int.natCast_nonneg n
theorem Ok.of_le {k : Kd} {a : Int} (h : 0 ≤ a) : Ok k a := by cases k; trivial; exact h
def plusM : Kd → Int → Int → Int
  | .H, a, b => a + b
  | .B, a, b => ((a.toNat ^^^ b.toNat : Nat) : Int)
def minusM : Kd → Int → Int → Int
  | .H, a, b => a - b
  | .B, a, b => ((a.toNat ^^^ b.toNat : Nat) : Int)
def timesM : Kd → Int → Int → Int
  | .H, a, b => a * b
  | .B, a, b => ((Gf.mul a.toNat b.toNat : Nat) : Int)
def quoM : Kd → Int → Int → Int
  | .H, a, b => a.fdiv b
  | .B, a, b => ((Gf.quo a.toNat b.toNat : Nat) : Int)
def remM : Kd → Int → Int → Int
  | .H, a, b => if b = 0 then a else a.fmod b
  | .B, a, b => ((Gf.rem a.toNat b.toNat : Nat) : Int)
/-! ### evaluating -/
def isH : Kd → Bool
  | .H => true
  | .B => false
theorem isH_eq : ∀ k : Kd, decide (V.str (ks k) = V.str "hours") = isH k
  | .H => by decide +kernel
  | .B => by decide +kernel
theorem ev_kind {σ : L2.St} {H : Hp} {k : Kd} {ta : TE} (h : Ev ta σ H (.str (ks k))) : Ev (tOp rEq ta (tC (.str "hours"))) σ H (.bl (isH k)) :=
  ev_is (ev_op h ev_c (rv_eq rfl)) (by rw [isH_eq])
theorem et_kind {σ : L2.St} {H : Hp} {k : Kd} {ta : TE} (h : Ev ta σ H (.str (ks k))) : EvT (tTest (tOp rEq ta (tC (.str "hours")))) σ H (isH k) := et_test (ev_kind h)
theorem rv_xorN {H : Hp} {n m : Nat} : RV (fun x y H Q => ∃ n m : Nat, x = .int (n : Int) ∧ y = .int (m : Int) ∧ Q (.int ((n ^^^ m : Nat) : Int)) H) (.int (n : Int)) (.int (m : Int)) H (.int ((n ^^^ m : Nat) : Int)) :=
  fun H1 _ _ q => ⟨n, m, rfl, rfl, q H1 (Evl.Ex.refl H1)⟩
theorem rv_orN {H : Hp} {n m : Nat} : RV (fun x y H Q => ∃ n m : Nat, x = .int (n : Int) ∧ y = .int (m : Int) ∧ Q (.int ((n ||| m : Nat) : Int)) H) (.int (n : Int)) (.int (m : Int)) H (.int ((n ||| m : Nat) : Int)) :=
  fun H1 _ _ q => ⟨n, m, rfl, rfl, q H1 (Evl.Ex.refl H1)⟩
theorem rv_shlN {H : Hp} {n k : Nat} (hn : n.log2 ≤ 1000000) (hk : k ≤ 1000000) : RV (fun x y H Q => ∃ n k : Nat, x = .int (n : Int) ∧ y = .int (k : Int) ∧ n.log2 ≤ 1000000 ∧ k ≤ 1000000 ∧ Q (.int ((n * 2 ^ k : Nat) : Int)) H) (.int (n : Int)) (.int (k : Int)) H (.int ((n * 2 ^ k : Nat) : Int)) :=
  fun H1 _ _ q => ⟨n, k, rfl, rfl, hn, hk, q H1 (Evl.Ex.refl H1)⟩
theorem rv_odd {H : Hp} {n : Nat} : RV (fun x y H Q => ∃ n : Nat, x = .int (n : Int) ∧ y = .int 1 ∧ Q (.int ((n % 2 : Nat) : Int)) H) (.int (n : Int)) (.int 1) H (.int ((n % 2 : Nat) : Int)) :=
  fun H1 _ _ q => ⟨n, rfl, rfl, q H1 (Evl.Ex.refl H1)⟩
theorem rv_half {H : Hp} {n : Nat} : RV (fun x y H Q => ∃ n : Nat, x = .int (n : Int) ∧ y = .int 1 ∧ Q (.int ((n / 2 : Nat) : Int)) H) (.int (n : Int)) (.int 1) H (.int ((n / 2 : Nat) : Int)) :=
  fun H1 _ _ q => ⟨n, rfl, rfl, q H1 (Evl.Ex.refl H1)⟩
theorem et_int {σ : L2.St} {H : Hp} {K : PySem.W.Frag} {ta : TE} {i : Int} (h : Ev ta σ H (.int i)) : EvT (fun σ H Q => ta σ H fun x H' => ∃ k, TruV K x H' k ∧ Q k H') σ H (i != 0) :=
  fun H1 e _ q => h H1 e _ fun H2 e2 => ⟨_, rfl, q H2 e2⟩
theorem et_bool {σ : L2.St} {H : Hp} {K : PySem.W.Frag} {ta : TE} {b : Bool} (h : Ev ta σ H (.bl b)) : EvT (fun σ H Q => ta σ H fun x H' => ∃ k, TruV K x H' k ∧ Q k H') σ H b :=
  fun H1 e _ q => h H1 e _ fun H2 e2 => ⟨_, rfl, q H2 e2⟩
theorem ev_bits {σ : L2.St} {H : Hp} {ta : TE} {i : Int} (h : Ev ta σ H (.int i)) : Ev (tBits ta) σ H (.int (sz i : Nat)) :=
  fun H1 e Q q => h H1 e _ fun H2 e2 => ⟨i, rfl, by rw [bits_sz]; exact q H2 e2⟩
/-! ### built-ins -/
theorem rc_int {H : Hp} {i : Int} : RC (fun xs H Q => (∃ i, xs = [.int i] ∧ Q (.int i) H) ∨ ∃ k, xs = [.bl k] ∧ Q (.int (if k then 1 else 0)) H) [.int i] H (.int i) :=
  fun H1 _ _ q => .inl ⟨i, rfl, q H1 (Evl.Ex.refl H1)⟩
theorem rc_abs {H : Hp} {i : Int} : RC (fun xs H Q => ∃ i, xs = [.int i] ∧ Q (.int (if i < 0 then -i else i)) H) [.int i] H (.int (i.natAbs : Int)) :=
  fun H1 _ Q q => ⟨i, rfl, by
    have e : (if i < 0 then -i else i) = (i.natAbs : Int) := by split <;> omega
    rw [e]; exact q H1 (Evl.Ex.refl H1)⟩
theorem rc_isi {H : Hp} {K : PySem.W.Frag} {x : V} {T : String} {t : String} {b : Bool} (ht : ∀ H1, Evl.Ex H H1 → TyX K H1 x (.type t)) (hb : kitB t T = some b) : RC (rIsi K) [x, .ty T] H (.bl b) :=
  fun H1 e _ q => ⟨x, .ty T, .type t, .type T, b, rfl, .ty T, ht H1 e, kit_ty hb, q H1 (Evl.Ex.refl H1)⟩
theorem rc_isiI {H : Hp} {K : PySem.W.Frag} {i : Int} {T : String} {b : Bool} (hb : kitB "int" T = some b) : RC (rIsi K) [.int i, .ty T] H (.bl b) := rc_isi (fun _ _ => .base (.int i)) hb
theorem rc_isiS {H : Hp} {K : PySem.W.Frag} {i : Str} {T : String} {b : Bool} (hb : kitB "str" T = some b) : RC (rIsi K) [.str i, .ty T] H (.bl b) := rc_isi (fun _ _ => .base (.str i)) hb
theorem rc_isiB {H : Hp} {K : PySem.W.Frag} {i : Bool} {T : String} {b : Bool} (hb : kitB "bool" T = some b) : RC (rIsi K) [.bl i, .ty T] H (.bl b) := rc_isi (fun _ _ => .base (.bl i)) hb
theorem rc_isiN {H : Hp} {K : PySem.W.Frag} {T : String} {b : Bool} (hb : kitB "NoneType" T = some b) : RC (rIsi K) [.non, .ty T] H (.bl b) := rc_isi (fun _ _ => .base .non) hb
theorem ex_ty {H H1 : Hp} {K : PySem.W.Frag} {a : Addr} {xs : List V} (e : Evl.Ex H H1) (h : H a = some (.tup xs)) : TyX K H1 (.ref a) (.type "tuple") := .base (.tup (e _ _ h))
theorem rc_repr {H : Hp} {K : PySem.W.Frag} {x : V} {d : PyData} (h : ∀ H1, Evl.Ex H H1 → Dp K H1 x d) (h1 : neat d = true) (h2 : cost d ≤ 10000000) (h3 : d.depth ≤ 50) : RC (rRepr K) [x] H (.str d.shown) :=
  fun H1 e _ q => ⟨x, d, rfl, h H1 e, h1, h2, h3, q H1 (Evl.Ex.refl H1)⟩
theorem rc_reprI {H : Hp} {K : PySem.W.Frag} {i : Int} (h : sz i ≤ 1900) : RC (rRepr K) [.int i] H (.str (PyData.int i).shown) :=
  rc_repr (fun _ _ => .int i) (decide_eq_true (by have := log_sz i; omega)) (by show (1921 : Nat) ≤ 10000000; decide) (by show (0 : Nat) ≤ 50; decide)
theorem rc_reprB {H : Hp} {K : PySem.W.Frag} {i : Bool} : RC (rRepr K) [.bl i] H (.str (PyData.bool i).shown) :=
  rc_repr (fun _ _ => .bl i) rfl (by show (5 : Nat) ≤ 10000000; decide) (by show (0 : Nat) ≤ 50; decide)
def rDivmod : List V → Hp → VK → Prop := fun xs H Q => ∃ i j : Int, xs = [.int i, .int j] ∧ (j ≠ 0 ∧ Builtin.divisionGoesByPylong i j = false) ∧ ∀ p, H p = none → Q (.ref p) (upd H p (.tup [.int (i.fdiv j), .int (i.fmod j)]))
theorem call_divmodF {X : Cx} : CallR X (.builtin "divmod") rDivmod := by
  intro pins s σ H xs us Q I r h
  obtain ⟨i, j, rfl, ⟨h1, h2⟩, q⟩ := h
  obtain ⟨u, w', rfl, ⟨t, rfl⟩, ⟨t', rfl⟩⟩ := vals2 r
  refine divmod_int h1 ?_ (.inl h2)
  have hn : H s.heap.objs.size = none := I.hok.fresh (Nat.le_refl _)
  refine ⟨.ref s.heap.objs.size, _, ?_, rfl, q _ hn⟩
  refine I.laid (fun b o e => Heap.get?_push_of_some _ e) (Nat.le_refl _) ⟨by simp only [List.length_cons, List.length_nil]; rw [sizeLine_eq]; decide, [.int (i.fdiv j) s.toks, .int (i.fmod j) (s.toks + 1)], .cons ⟨_, rfl⟩ (.cons ⟨_, rfl⟩ .nil), ?_⟩
  exact ⟨_, Heap.get?_push_size s.heap rfl, rfl, 0, rfl⟩
theorem nolong {i j : Int} (h : sz j < 9000) : Builtin.divisionGoesByPylong i j = false := by
  have l := log_sz j
  exact PyProof.noPylong_of_log2 (by omega)
/-- a promise of a value that hangs on the arguments alone -/
def spP {α : Type} (f : α → List V) (pre : α → Prop) (res : α → V) : Sp := fun vs H Q _ => ∃ x : α, vs = f x ∧ pre x ∧ ∀ H', Evl.Ex H H' → Q (res x) H'
theorem spv_P {α : Type} {f : α → List V} {pre : α → Prop} {res : α → V} {H : Hp} (x : α) (h : pre x) : SpV (spP f pre res) (f x) H (res x) :=
  fun H1 _ Q q _ => ⟨x, rfl, h, fun H' e => q H' e⟩
section
variable {P : Program} {w : World} {K : PySem.W.Frag} {mg : Str → Option Value} {base : Heap} {k j : Nat} {x : Str} {ps N : List Str} {st : Stmt}
theorem Def.hasP {α : Type} {f : α → List V} {pre : α → Prop} {res : α → V} (D : Def K mg x st ps) (S : FnScope N ps (defScope st)) (hl : ∀ z, (f z).length = ps.length)
    (hbody : ∀ (g : Addr) (cdv : Value) (A : Around) (out : List Env) (s : Shared) (H : Hp) (z : α) (Q : VK) (E : XK), Rm k (A.deeper (envOfC x (defScope st) s.heap.objs.size g cdv)) → pre z → (∀ H', Evl.Ex H H' → Q (res z) H') →
      ∃ t, PSs (cxOf CX0 P w K mg base N x (defScope st) g cdv A out s H E).nox (defBody st) t ∧ t { nx := fun _ H' => Q .non H', rt := Q } (start N (f z)) H) :
    Has P w K mg base (k + 1) x ps (spP f pre res) := by
  obtain ⟨g, fd, a, F, c⟩ := D.ex
  refine ⟨g, fd, a, F.kp, c, okq F S ?_ ?_⟩
  · rintro vs H Q E ⟨z, rfl, _⟩; exact hl z
  · rintro cdv A out s H vs Q E hr ⟨z, rfl, hp, q⟩
    exact hbody g cdv A out s H z Q E hr hp q
end
/-! ### a new tuple made by a def; its items -/
def SpU (sp : Sp) (vs : List V) (H : Hp) (xs : List V) : Prop := ∀ H1, Evl.Ex H H1 → ∀ Q : VK, (∀ p H2, H1 p = none → Evl.Ex H1 H2 → H2 p = some (.tup xs) → Q (.ref p) H2) → ∀ E : XK, sp vs H1 Q E
theorem eu_call {σ : L2.St} {H : Hp} {sp : Sp} {dvs vs xs : List V} {E : XK} {ta : TA} (h : EvA ta σ H vs) (hs : SpU sp (vs ++ dvs) H xs) : EvU (tCall sp dvs E ta) σ H xs := fun H1 e Q q =>
  h H1 e _ fun H2 e2 => hs H2 (e.trans e2) Q (fun p H3 hp e3 h3 => q p H3 (fresh_back e2 hp) (e2.trans e3) h3) E
def spU {α : Type} (f : α → List V) (pre : α → Prop) (res : α → List V) : Sp := fun vs H Q _ => ∃ x : α, vs = f x ∧ pre x ∧ ∀ p H', H p = none → Evl.Ex H H' → H' p = some (.tup (res x)) → Q (.ref p) H'
theorem spu_U {α : Type} {f : α → List V} {pre : α → Prop} {res : α → List V} {H : Hp} (x : α) (h : pre x) : SpU (spU f pre res) (f x) H (res x) :=
  fun H1 _ Q q _ => ⟨x, rfl, h, fun p H' hp e hq => q p H' hp e hq⟩
theorem ev_ixU {σ : L2.St} {H : Hp} {K : PySem.W.Frag} {ta tb : TE} {xs : List V} {i : Int} {v : V} (h : EvU ta σ H xs) (hb : Ev tb σ H (.int i)) (ha : atI xs i = some v) : Ev (tOp (rIxT K) ta tb) σ H v :=
  fun H1 e Q q => h H1 e _ fun p H2 hp e2 h2 => hb H2 (e.trans e2) _ fun H3 e3 => ⟨p, xs, i, v, rfl, rfl, st_of (e3 _ _ h2), ha, q H3 (e2.trans e3)⟩
theorem eu_cb {σ : L2.St} {H : Hp} {r : List V → Hp → VK → Prop} {ta : TA} {vs xs : List V} (h : EvA ta σ H vs)
    (hr : ∀ H1, Evl.Ex H H1 → ∀ Q : VK, (∀ p H2, H1 p = none → Evl.Ex H1 H2 → H2 p = some (.tup xs) → Q (.ref p) H2) → r vs H1 Q) : EvU (tCB r ta) σ H xs := fun H1 e Q q =>
  h H1 e _ fun H2 e2 => hr H2 (e.trans e2) Q fun p H3 hp e3 h3 => q p H3 (fresh_back e2 hp) (e2.trans e3) h3
theorem eu_divmod {σ : L2.St} {H : Hp} {ta : TA} {i j : Int} (h : EvA ta σ H [.int i, .int j]) (hj : j ≠ 0) (hz : sz j < 9000) : EvU (tCB rDivmod ta) σ H [.int (i.fdiv j), .int (i.fmod j)] :=
  eu_cb h fun H1 _ Q q => ⟨i, j, rfl, ⟨hj, nolong hz⟩, fun p hp => q p _ hp (Evl.Ex.new hp) upd_same⟩
section
variable {P : Program} {w : World} {K : PySem.W.Frag} {mg : Str → Option Value} {base : Heap} {k j : Nat} {x : Str} {ps N : List Str} {st : Stmt}
theorem Def.hasU {α : Type} {f : α → List V} {pre : α → Prop} {res : α → List V} (D : Def K mg x st ps) (S : FnScope N ps (defScope st)) (hl : ∀ z, (f z).length = ps.length)
    (hbody : ∀ (g : Addr) (cdv : Value) (A : Around) (out : List Env) (s : Shared) (H : Hp) (z : α) (Q : VK) (E : XK), Rm k (A.deeper (envOfC x (defScope st) s.heap.objs.size g cdv)) → pre z → (∀ p H', H p = none → Evl.Ex H H' → H' p = some (.tup (res z)) → Q (.ref p) H') →
      ∃ t, PSs (cxOf CX0 P w K mg base N x (defScope st) g cdv A out s H E).nox (defBody st) t ∧ t { nx := fun _ H' => Q .non H', rt := Q } (start N (f z)) H) :
    Has P w K mg base (k + 1) x ps (spU f pre res) := by
  obtain ⟨g, fd, a, F, c⟩ := D.ex
  refine ⟨g, fd, a, F.kp, c, okq F S ?_ ?_⟩
  · rintro vs H Q E ⟨z, rfl, _⟩; exact hl z
  · rintro cdv A out s H vs Q E hr ⟨z, rfl, hp, q⟩
    exact hbody g cdv A out s H z Q E hr hp q
end
theorem or_bit {t s : Nat} (h : t.testBit s = false) : t ||| 2 ^ s = t ^^^ 2 ^ s := by
  apply Nat.eq_of_testBit_eq
  intro i
  rw [Nat.testBit_or, Nat.testBit_xor, Nat.testBit_two_pow]
  by_cases e : s = i
  · subst e; rw [h]; simp
  · simp [e]
end Hr
namespace Hr
open PySem PySem.Spec PyProof.Rows L2 Evl
/-! ### expressions whose values bear data -/
mutual
theorem dp_ex {K : PySem.W.Frag} {H H1 : Hp} (e : Evl.Ex H H1) : ∀ (d : PyData) (v : V), Dp K H v d → Dp K H1 v d
  | .none, _, h => by cases h; exact .non
  | .bool _, _, h => by cases h; exact .bl _
  | .int _, _, h => by cases h; exact .int _
  | .str _, _, h => by cases h; exact .str _
  | .list ds, _, h => by
    cases h with
    | lst a b => exact .lst (ex_l e a) (dps_ex e ds _ b)
  | .tuple ds, _, h => by
    cases h with
    | tup a b => exact .tup (ex_t e a) (dps_ex e ds _ b)
  | .dict _, _, h => by cases h
theorem dps_ex {K : PySem.W.Frag} {H H1 : Hp} (e : Evl.Ex H H1) : ∀ (ds : List PyData) (vs : List V), DpAll K H vs ds → DpAll K H1 vs ds
  | [], _, h => by cases h; exact .nil
  | d :: ds, _, h => by
    cases h with
    | cons a b => exact .cons (dp_ex e d _ a) (dps_ex e ds _ b)
end
theorem dps_at {K : PySem.W.Frag} {H : Hp} : ∀ {vs : List V} {ds : List PyData}, DpAll K H vs ds → ∀ {i : Nat} {x : V}, vs[i]? = some x → ∃ d, ds[i]? = some d ∧ Dp K H x d
  | _, _, .nil, i, x, h => by simp at h
  | _, _, .cons a b, 0, x, h => by cases (Option.some.inj h); exact ⟨_, rfl, a⟩
  | _, _, .cons a b, i + 1, x, h => dps_at b (i := i) h
theorem dps_to {K : PySem.W.Frag} {H : Hp} : ∀ {vs : List V} {ds : List PyData}, DpAll K H vs ds → ∀ {i : Nat} {d : PyData}, ds[i]? = some d → ∃ x, vs[i]? = some x ∧ Dp K H x d
  | _, _, .nil, i, x, h => by simp at h
  | _, _, .cons a b, 0, x, h => by cases (Option.some.inj h); exact ⟨_, rfl, a⟩
  | _, _, .cons a b, i + 1, x, h => dps_to b (i := i) h
theorem dps_len {K : PySem.W.Frag} {H : Hp} : ∀ {vs : List V} {ds : List PyData}, DpAll K H vs ds → vs.length = ds.length
  | _, _, .nil => rfl
  | _, _, .cons _ b => by rw [List.length_cons, List.length_cons, dps_len b]
theorem dps_ints {K : PySem.W.Frag} {H : Hp} : ∀ (ns : List Int), DpAll K H (ns.map V.int) (ns.map PyData.int)
  | [] => .nil
  | n :: ns => .cons (.int n) (dps_ints ns)
section
variable {K : PySem.W.Frag} {σ : L2.St} {H : Hp} {te ta tb : TE} {tr : TA} {d e : PyData} {ds : List PyData} {v : V}
def EvD (K : PySem.W.Frag) (te : TE) (σ : L2.St) (H : Hp) (d : PyData) : Prop := ∀ H1, Evl.Ex H H1 → ∀ Q : VK, (∀ x H2, Evl.Ex H1 H2 → Dp K H2 x d → Q x H2) → te σ H1 Q
def EvDs (K : PySem.W.Frag) (ta : TA) (σ : L2.St) (H : Hp) (ds : List PyData) : Prop := ∀ H1, Evl.Ex H H1 → ∀ Q : List V → Hp → Prop, (∀ xs H2, Evl.Ex H1 H2 → DpAll K H2 xs ds → Q xs H2) → ta σ H1 Q
theorem ed_var {i : Nat} (h : σ[i]? = some (some v)) (hd : Dp K H v d) : EvD K (tVar i) σ H d := fun H1 e _ q => ⟨v, h, q v H1 (Evl.Ex.refl H1) (dp_ex e d v hd)⟩
theorem ed_ev (h : Ev te σ H v) (hd : ∀ H1, Evl.Ex H H1 → Dp K H1 v d) : EvD K te σ H d := fun H1 e _ q => h H1 e _ fun H2 e2 => q v H2 e2 (hd H2 (e.trans e2))
theorem ed_int {i : Int} (h : Ev te σ H (.int i)) : EvD K te σ H (.int i) := ed_ev h fun _ _ => .int i
theorem ed_bl {i : Bool} (h : Ev te σ H (.bl i)) : EvD K te σ H (.bool i) := ed_ev h fun _ _ => .bl i
theorem ed_str {i : Str} (h : Ev te σ H (.str i)) : EvD K te σ H (.str i) := ed_ev h fun _ _ => .str i
theorem ed_non (h : Ev te σ H .non) : EvD K te σ H .none := ed_ev h fun _ _ => .non
theorem ed_mono {H' : Hp} (e : Evl.Ex H H') (h : EvD K te σ H d) : EvD K te σ H' d := fun H1 e1 Q q => h H1 (e.trans e1) Q q
theorem eds_nil : EvDs K tNil σ H [] := fun H1 _ _ q => q [] H1 (Evl.Ex.refl H1) .nil
theorem eds_cons (h : EvD K te σ H d) (hr : EvDs K tr σ H ds) : EvDs K (tCons te tr) σ H (d :: ds) := fun H1 e _ q =>
  h H1 e _ fun x H2 e2 hx => hr H2 (e.trans e2) _ fun xs H3 e3 hs => q _ H3 (e2.trans e3) (.cons (dp_ex e3 _ _ hx) hs)
theorem ed_lst (h : EvDs K tr σ H ds) (hl : ds.length ≤ 100000) : EvD K (tLst tr) σ H (.list ds) := fun H1 e _ q =>
  h H1 e _ fun xs H2 e2 hs => ⟨sz_of (by rw [dps_len hs]; exact hl), fun p hp => q _ _ (e2.trans (Evl.Ex.new hp)) (.lst (sq_of upd_same) (dps_ex (Evl.Ex.new hp) _ _ hs))⟩
theorem ed_tup (h : EvDs K tr σ H ds) (hl : ds.length ≤ 100000) : EvD K (tTup tr) σ H (.tuple ds) := fun H1 e _ q =>
  h H1 e _ fun xs H2 e2 hs => ⟨sz_of (by rw [dps_len hs]; exact hl), fun p hp => q _ _ (e2.trans (Evl.Ex.new hp)) (.tup (st_of upd_same) (dps_ex (Evl.Ex.new hp) _ _ hs))⟩
theorem ev_reprD (h : EvD K te σ H d) (h1 : neat d = true) (h2 : cost d ≤ 10000000) (h3 : d.depth ≤ 50) : Ev (tCB (rRepr K) (tCons te tNil)) σ H (.str d.shown) := fun H1 e _ q =>
  h H1 e _ fun x H2 e2 hx => ⟨x, d, rfl, hx, h1, h2, h3, q H2 e2⟩
theorem ev_eqD (ha : EvD K ta σ H d) (hb : EvD K tb σ H e) (h1 : SeqAt.shaped d = true) (h2 : SeqAt.shaped e = true) : Ev (tOp (rEqD K) ta tb) σ H (.bl (PyData.eqv d e)) := fun H1 x _ q =>
  ha H1 x _ fun v H2 e2 hv => hb H2 (x.trans e2) _ fun u H3 e3 hu => ⟨d, e, dp_ex e3 _ _ hv, hu, h1, h2, q H3 (e2.trans e3)⟩
theorem ev_neD (ha : EvD K ta σ H d) (hb : EvD K tb σ H e) (h1 : SeqAt.shaped d = true) (h2 : SeqAt.shaped e = true) : Ev (tOp (rNeD K) ta tb) σ H (.bl (!PyData.eqv d e)) := fun H1 x _ q =>
  ha H1 x _ fun v H2 e2 hv => hb H2 (x.trans e2) _ fun u H3 e3 hu => ⟨d, e, dp_ex e3 _ _ hv, hu, h1, h2, q H3 (e2.trans e3)⟩
theorem s_asgD {D : Ends} {i : Nat} (h : EvD K te σ H d) (k : ∀ x H1, Evl.Ex H H1 → Dp K H1 x d → D.nx (σ.set i (some x)) H1) : tAsg te (gName i) D σ H := h H (Evl.Ex.refl H) _ fun x H1 e hx => k x H1 e hx
theorem q_asgD {D : Ends} {i : Nat} {tz : TS} (h : EvD K te σ H d) (k : ∀ x H1, Evl.Ex H H1 → Dp K H1 x d → tz D (σ.set i (some x)) H1) : tSeq (tAsg te (gName i)) tz D σ H := s_asgD (D := { D with nx := tz D }) h k
theorem s_retD {D : Ends} (h : EvD K te σ H d) (k : ∀ x H1, Evl.Ex H H1 → Dp K H1 x d → D.rt x H1) : tRet te D σ H := h H (Evl.Ex.refl H) _ fun x H1 e hx => k x H1 e hx
/-- an item of a list (of a tuple) of data -/
theorem ed_ixL {i : Int} (ha : EvD K ta σ H (.list ds)) (hb : Ev tb σ H (.int i)) (hi : atI ds i = some d) : EvD K (tOp (rIxL K) ta tb) σ H d := fun H1 x _ q =>
  ha H1 x _ fun v H2 e2 hv => hb H2 (x.trans e2) _ fun H3 e3 => by
    cases dp_ex e3 _ _ hv with
    | lst a b =>
      unfold atI at hi
      obtain ⟨j, h1, h2⟩ := Option.bind_eq_some_iff.mp hi
      obtain ⟨y, h3, h4⟩ := dps_to b h2
      refine ⟨_, _, i, y, rfl, rfl, a, ?_, q y H3 (e2.trans e3) h4⟩
      unfold atI
      rw [dps_len b, h1]; exact h3
theorem ed_ixT {i : Int} (ha : EvD K ta σ H (.tuple ds)) (hb : Ev tb σ H (.int i)) (hi : atI ds i = some d) : EvD K (tOp (rIxT K) ta tb) σ H d := fun H1 x _ q =>
  ha H1 x _ fun v H2 e2 hv => hb H2 (x.trans e2) _ fun H3 e3 => by
    cases dp_ex e3 _ _ hv with
    | tup a b =>
      unfold atI at hi
      obtain ⟨j, h1, h2⟩ := Option.bind_eq_some_iff.mp hi
      obtain ⟨y, h3, h4⟩ := dps_to b h2
      refine ⟨_, _, i, y, rfl, rfl, a, ?_, q y H3 (e2.trans e3) h4⟩
      unfold atI
      rw [dps_len b, h1]; exact h3
/-- what bears an int is that int -/
theorem ev_ofI {i : Int} (h : EvD K te σ H (.int i)) : Ev te σ H (.int i) := fun H1 e _ q => h H1 e _ fun x H2 e2 hx => by cases hx; exact q H2 e2
theorem ev_ofB {i : Bool} (h : EvD K te σ H (.bool i)) : Ev te σ H (.bl i) := fun H1 e _ q => h H1 e _ fun x H2 e2 hx => by cases hx; exact q H2 e2
theorem ev_ofS {i : Str} (h : EvD K te σ H (.str i)) : Ev te σ H (.str i) := fun H1 e _ q => h H1 e _ fun x H2 e2 hx => by cases hx; exact q H2 e2
theorem ev_ofN (h : EvD K te σ H .none) : Ev te σ H .non := fun H1 e _ q => h H1 e _ fun x H2 e2 hx => by cases hx; exact q H2 e2
/-- a loop over a list of data, the heap growing; H1: the heap at its start -/
theorem s_forD {D : Ends} {g : TG} {tu : TS} (h : EvD K te σ H (.list ds)) (Pv : Hp → Nat → L2.St → Hp → Prop) (h0 : ∀ H1, Evl.Ex H H1 → Pv H1 0 σ H1) (hp : ∀ H1 i σ' H', Pv H1 i σ' H' → Evl.Ex H1 H')
    (hs : ∀ H1 i x d σ' H', Evl.Ex H H1 → ds[i]? = some d → Dp K H' x d → Pv H1 i σ' H' → g x σ' H' fun σ2 H2 => tu { D with nx := Pv H1 (i + 1), ct := Pv H1 (i + 1), bk := D.nx } σ2 H2)
    (hd : ∀ H1 σ' H', Pv H1 ds.length σ' H' → D.nx σ' H') : tFor (iList K te) g tu D σ H :=
  h H (Evl.Ex.refl H) _ fun x H1 e1 hx => by
    cases hx with
    | lst a b =>
      rename_i p xs
      refine ⟨p, rfl, ⟨xs, a⟩, for_list (xs := xs) (Pv H1) (h0 H1 e1) (fun i σ' H' _ hP => ex_l (hp _ _ _ _ hP) a) ?_ ?_⟩
      · intro i x σ' H' hi hP
        obtain ⟨d, hd1, hd2⟩ := dps_at b hi
        exact hs H1 i x d σ' H' e1 hd1 (dp_ex (hp _ _ _ _ hP) _ _ hd2) hP
      · intro σ' H' hP
        rw [dps_len b] at hP
        exact hd H1 σ' H' hP
theorem q_forD {D : Ends} {g : TG} {tu tz : TS} (h : EvD K te σ H (.list ds)) (Pv : Hp → Nat → L2.St → Hp → Prop) (h0 : ∀ H1, Evl.Ex H H1 → Pv H1 0 σ H1) (hp : ∀ H1 i σ' H', Pv H1 i σ' H' → Evl.Ex H1 H')
    (hs : ∀ H1 i x d σ' H', Evl.Ex H H1 → ds[i]? = some d → Dp K H' x d → Pv H1 i σ' H' → g x σ' H' fun σ2 H2 => tu { D with nx := Pv H1 (i + 1), ct := Pv H1 (i + 1), bk := tz D } σ2 H2)
    (hd : ∀ H1 σ' H', Pv H1 ds.length σ' H' → tz D σ' H') : tSeq (tFor (iList K te) g tu) tz D σ H := s_forD (D := { D with nx := tz D }) h Pv h0 hp hs hd
/-- a pair is taken apart -/
theorem g_pair {i j : Nat} {x : V} {d1 d2 : PyData} {R : L2.St → Hp → Prop} (hx : Dp K H x (.tuple [d1, d2])) (k : ∀ x1 x2, Dp K H x1 d1 → Dp K H x2 d2 → R ((σ.set i (some x1)).set j (some x2)) H) :
    gTup K 2 (gCons (gName i) (gCons (gName j) gNil)) x σ H R := by
  cases hx with
  | tup a b =>
    cases b with
    | cons b1 b =>
      cases b with
      | cons b2 b =>
        cases b
        exact ⟨_, _, rfl, a, rfl, _, _, rfl, _, _, rfl, rfl, k _ _ b1 b2⟩
end
end Hr
namespace Hr
/-! ### the arithmetic of both kinds -/
theorem toN (n : Nat) : ((n : Int)).toNat = n := rfl
theorem ok_plus {k : Kd} {a b : Int} (_ : Ok k a) (_ : Ok k b) : Ok k (plusM k a b) := by cases k; trivial; exact Int.natCast_nonneg _
theorem ok_minus {k : Kd} {a b : Int} (_ : Ok k a) (_ : Ok k b) : Ok k (minusM k a b) := by cases k; trivial; exact Int.natCast_nonneg _
theorem ok_times {k : Kd} {a b : Int} (_ : Ok k a) (_ : Ok k b) : Ok k (timesM k a b) := by cases k; trivial; exact Int.natCast_nonneg _
theorem ok_quo {k : Kd} {a b : Int} : Ok k (quoM k a b) := by cases k; trivial; exact Int.natCast_nonneg _
theorem ok_rem {k : Kd} {a b : Int} : Ok k (remM k a b) := by cases k; trivial; exact Int.natCast_nonneg _
theorem times_comm {k : Kd} {a b : Int} : timesM k a b = timesM k b a := by
  cases k
  · exact Int.mul_comm a b
  · show ((Gf.mul a.toNat b.toNat : Nat) : Int) = ((Gf.mul b.toNat a.toNat : Nat) : Int)
    rw [Gf.mul_comm]
theorem plus_comm {k : Kd} {a b : Int} : plusM k a b = plusM k b a := by
  cases k
  · exact Int.add_comm a b
  · show ((a.toNat ^^^ b.toNat : Nat) : Int) = ((b.toNat ^^^ a.toNat : Nat) : Int)
    rw [Nat.xor_comm]
theorem plus_minus {k : Kd} {a b : Int} (ha : Ok k a) (hb : Ok k b) : plusM k (minusM k a b) b = a := by
  cases k
  · show a - b + b = a; omega
  · obtain ⟨n, rfl⟩ := ha.nn
    obtain ⟨m, rfl⟩ := hb.nn
    show ((n ^^^ m ^^^ m : Nat) : Int) = (n : Int)
    rw [Nat.xor_assoc, Nat.xor_self, Nat.xor_zero]
theorem plus_times {k : Kd} {a b c : Int} (ha : Ok k a) (hb : Ok k b) (hc : Ok k c) : timesM k (plusM k a b) c = plusM k (timesM k a c) (timesM k b c) := by
  cases k
  · exact Int.add_mul a b c
  · obtain ⟨n, rfl⟩ := ha.nn
    obtain ⟨m, rfl⟩ := hb.nn
    obtain ⟨l, rfl⟩ := hc.nn
    show ((Gf.mul (n ^^^ m) l : Nat) : Int) = ((Gf.mul n l ^^^ Gf.mul m l : Nat) : Int)
    rw [Gf.xor_mul]
theorem sz_plus {k : Kd} {a b : Int} {n : Nat} (oa : Ok k a) (ob : Ok k b) (ha : sz a ≤ n) (hb : sz b ≤ n) : sz (plusM k a b) ≤ n + 1 := by
  cases k
  · exact sz_add ha hb
  · obtain ⟨x, rfl⟩ := oa.nn
    obtain ⟨y, rfl⟩ := ob.nn
    exact Nat.le_succ_of_le (Gf.bl_xor x y ha hb)
theorem sz_minus {k : Kd} {a b : Int} {n : Nat} (oa : Ok k a) (ob : Ok k b) (ha : sz a ≤ n) (hb : sz b ≤ n) : sz (minusM k a b) ≤ n + 1 := by
  cases k
  · exact sz_sub ha hb
  · obtain ⟨x, rfl⟩ := oa.nn
    obtain ⟨y, rfl⟩ := ob.nn
    exact Nat.le_succ_of_le (Gf.bl_xor x y ha hb)
theorem sz_times {k : Kd} {a b : Int} (oa : Ok k a) (ob : Ok k b) : sz (timesM k a b) ≤ sz a + sz b := by
  cases k
  · exact sz_mul a b
  · obtain ⟨x, rfl⟩ := oa.nn
    obtain ⟨y, rfl⟩ := ob.nn
    exact Gf.bl_mul_le x y
theorem fdiv_abs {a b : Int} (hb : 0 < b) : (a.fdiv b).natAbs ≤ a.natAbs := by
  rw [Int.fdiv_eq_ediv_of_nonneg a (by omega)]
  rcases Int.le_total 0 a with h | h
  · have h1 := Int.ediv_nonneg h (Int.le_of_lt hb)
    have h2 := Int.ediv_le_self b h
    omega
  · have h1 : a / b ≤ 0 := Int.ediv_nonpos_of_nonpos_of_neg h (by omega)
    have h2 : a ≤ a / b := by
      have e := Int.emod_nonneg a (show b ≠ 0 by omega)
      have e2 := Int.mul_ediv_add_emod a b
      rcases Int.lt_or_le (a / b) a with z | z
      · have l := Int.emod_lt_of_pos a hb
        have : a / b + 1 ≤ a := by omega
        have m := Int.mul_le_mul_of_nonneg_left this (Int.le_of_lt hb)
        rw [Int.mul_add, Int.mul_one] at m
        have m2 : b * a ≤ a := by
          have := Int.mul_le_mul_of_nonpos_right (show (1 : Int) ≤ b by omega) h
          rw [Int.one_mul] at this; exact this
        omega
      · exact z
    omega
theorem Gf.bl_quo {n d : Nat} (hd : 0 < d) : Gf.bl (Gf.quo n d) ≤ Gf.bl n := by
  by_cases h : Gf.bl d ≤ Gf.bl n
  · obtain ⟨a, b⟩ := Gf.rem_spec (n := n) hd
    rcases Nat.eq_zero_or_pos (Gf.quo n d) with z | z
    · rw [z, Gf.bl_zero]; omega
    · have m := Gf.bl_mul hd z
      have e : Gf.mul d (Gf.quo n d) = n ^^^ Gf.rem n d := by
        conv => rhs; lhs; rw [b]
        rw [Nat.xor_assoc, Nat.xor_self, Nat.xor_zero]
      have l := Gf.bl_xor n (Gf.rem n d) (k := Gf.bl n) (Nat.le_refl _) (by omega)
      rw [← e, m] at l
      have := Gf.bl_pos hd; omega
  · rw [Gf.quo_end (by omega), Gf.bl_zero]; omega
theorem sz_quo {k : Kd} {a b : Int} (oa : Ok k a) (hb : 0 < b) : sz (quoM k a b) ≤ sz a := by
  cases k
  · exact sz_mono (fdiv_abs hb)
  · obtain ⟨x, rfl⟩ := oa.nn
    obtain ⟨y, rfl⟩ := Int.eq_ofNat_of_zero_le (Int.le_of_lt hb)
    exact Gf.bl_quo (by omega)
theorem sz_rem {k : Kd} {a b : Int} (oa : Ok k a) (hb : 0 < b) : sz (remM k a b) ≤ sz b := by
  cases k
  · show sz (if b = 0 then a else a.fmod b) ≤ sz b
    rw [if_neg (by omega), Int.fmod_eq_emod_of_nonneg a (by omega)]
    have h1 := Int.emod_nonneg a (show b ≠ 0 by omega)
    have h2 := Int.emod_lt_of_pos a hb
    exact sz_mono (by omega)
  · obtain ⟨x, rfl⟩ := oa.nn
    obtain ⟨y, rfl⟩ := Int.eq_ofNat_of_zero_le (Int.le_of_lt hb)
    exact Nat.le_of_lt (Gf.rem_spec (n := x) (d := y) (by omega)).1
/-- the quotient and the rest come to the number -/
theorem quo_rem {k : Kd} {a b : Int} (oa : Ok k a) (hb : 0 < b) : plusM k (timesM k b (quoM k a b)) (remM k a b) = a := by
  cases k
  · show b * a.fdiv b + (if b = 0 then a else a.fmod b) = a
    rw [if_neg (by omega), Int.fmod_eq_emod_of_nonneg a (by omega), Int.fdiv_eq_ediv_of_nonneg a (by omega)]
    exact Int.mul_ediv_add_emod a b
  · obtain ⟨x, rfl⟩ := oa.nn
    obtain ⟨y, rfl⟩ := Int.eq_ofNat_of_zero_le (Int.le_of_lt hb)
    have := (Gf.rem_spec (n := x) (d := y) (by omega)).2
    show ((Gf.mul y (Gf.quo x y) ^^^ Gf.rem x y : Nat) : Int) = (x : Int)
    rw [← this]
theorem rem_zero {k : Kd} {a : Int} (oa : Ok k a) : remM k a 0 = a := by
  cases k
  · show (if (0 : Int) = 0 then a else a.fmod 0) = a; rw [if_pos rfl]
  · obtain ⟨x, rfl⟩ := oa.nn
    show ((Gf.rem x 0 : Nat) : Int) = x; rw [Gf.rem_zero]
theorem remH_zero {a b : Int} : remM .H a b = 0 ↔ b ∣ a := by
  show (if b = 0 then a else a.fmod b) = 0 ↔ b ∣ a
  by_cases h : b = 0
  · subst h; rw [if_pos rfl, Int.zero_dvd]
  · rw [if_neg h]; exact Int.dvd_iff_fmod_eq_zero.symm
theorem rem_abs {k : Kd} {a b : Int} (ob : Ok k b) : remM k a (b.natAbs : Int) = 0 ↔ remM k a b = 0 := by
  cases k
  · rw [remH_zero, remH_zero, Int.natAbs_dvd]
  · obtain ⟨y, rfl⟩ := ob.nn
    rfl
theorem rem_negH {a b : Int} : remM .H a (0 - b) = 0 ↔ remM .H a b = 0 := by
  rw [remH_zero, remH_zero, Int.zero_sub, Int.neg_dvd]
end Hr
/-! what divides: greatest divisors and least multiples of a product that cancels -/
structure GM (mul g : Nat → Nat → Nat) : Prop where
  comm : ∀ a b, mul a b = mul b a
  assoc : ∀ a b c, mul (mul a b) c = mul a (mul b c)
  one : ∀ a, mul a 1 = a
  zero : ∀ a, mul a 0 = 0
  cancel : ∀ a b c, 0 < a → mul a b = mul a c → b = c
  gl : ∀ a b, ∃ q, a = mul (g a b) q
  gr : ∀ a b, ∃ q, b = mul (g a b) q
  gg : ∀ a b c, (∃ q, a = mul c q) → (∃ q, b = mul c q) → ∃ q, g a b = mul c q
  anti : ∀ a b, (∃ q, a = mul b q) → (∃ q, b = mul a q) → a = b
  gm : ∀ m a b, g (mul m a) (mul m b) = mul m (g a b)
namespace GM
variable {mul g l : Nat → Nat → Nat}
/-- d has n as a multiple -/
def D (mul : Nat → Nat → Nat) (d n : Nat) : Prop := ∃ q, n = mul d q
theorem refl (M : GM mul g) (a : Nat) : D mul a a := ⟨1, (M.one a).symm⟩
theorem trans (M : GM mul g) {a b c : Nat} : D mul a b → D mul b c → D mul a c := by
  rintro ⟨q, rfl⟩ ⟨p, rfl⟩; exact ⟨mul q p, M.assoc a q p⟩
theorem both (M : GM mul g) {a b c d : Nat} : D mul a b → D mul c d → D mul (mul a c) (mul b d) := by
  rintro ⟨q, rfl⟩ ⟨p, rfl⟩
  refine ⟨mul q p, ?_⟩
  rw [M.assoc a q (mul c p), M.assoc a c (mul q p), ← M.assoc q c p, ← M.assoc c q p, M.comm q c]
theorem zero_right (M : GM mul g) (a : Nat) : D mul a 0 := ⟨0, (M.zero a).symm⟩
theorem of_zero (M : GM mul g) {a : Nat} : D mul 0 a → a = 0 := by
  rintro ⟨q, rfl⟩; rw [M.comm, M.zero]
theorem anti' (M : GM mul g) {a b : Nat} (h1 : D mul a b) (h2 : D mul b a) : a = b := M.anti a b h2 h1
theorem g_comm (M : GM mul g) (a b : Nat) : g a b = g b a := M.anti' (M.gg _ _ _ (M.gr a b) (M.gl a b)) (M.gg _ _ _ (M.gr b a) (M.gl b a))
theorem g_assoc (M : GM mul g) (a b c : Nat) : g (g a b) c = g a (g b c) :=
  M.anti' (M.gg _ _ _ (M.trans (M.gl _ c) (M.gl a b)) (M.gg _ _ _ (M.trans (M.gl _ c) (M.gr a b)) (M.gr _ c)))
    (M.gg _ _ _ (M.gg _ _ _ (M.gl a _) (M.trans (M.gr a _) (M.gl b c))) (M.trans (M.gr a _) (M.gr b c)))
theorem g_zero (M : GM mul g) {a b : Nat} (h : g a b = 0) : a = 0 ∧ b = 0 := by
  have h1 := M.gl a b
  have h2 := M.gr a b
  rw [h] at h1 h2
  exact ⟨M.of_zero h1, M.of_zero h2⟩
/-- least multiples: by the product over the divisor -/
structure LM (mul g l : Nat → Nat → Nat) : Prop where
  prod : ∀ a b, mul (g a b) (l a b) = mul a b
  none : ∀ a b, a = 0 ∨ b = 0 → l a b = 0
theorem pos_of (h : ¬ (a : Nat) = 0) : 0 < a := Nat.pos_of_ne_zero h
theorem l_left (M : GM mul g) (L : LM mul g l) (a b : Nat) : D mul a (l a b) := by
  by_cases h : g a b = 0
  · obtain ⟨ha, hb⟩ := M.g_zero h
    rw [L.none a b (.inl ha)]; exact M.zero_right a
  · obtain ⟨q, hq⟩ := M.gr a b
    refine ⟨q, M.cancel _ _ _ (pos_of h) ?_⟩
    rw [L.prod]
    conv => lhs; rw [hq]
    rw [← M.assoc, ← M.assoc, M.comm a]
theorem l_comm (M : GM mul g) (L : LM mul g l) (a b : Nat) : l a b = l b a := by
  by_cases h : g a b = 0
  · obtain ⟨ha, hb⟩ := M.g_zero h
    rw [L.none a b (.inl ha), L.none b a (.inl hb)]
  · refine M.cancel _ _ _ (pos_of h) ?_
    rw [L.prod, M.g_comm a b, L.prod, M.comm]
theorem l_right (M : GM mul g) (L : LM mul g l) (a b : Nat) : D mul b (l a b) := by rw [M.l_comm L]; exact M.l_left L b a
theorem l_least (M : GM mul g) (L : LM mul g l) {a b m : Nat} (h1 : D mul a m) (h2 : D mul b m) : D mul (l a b) m := by
  by_cases h : g a b = 0
  · obtain ⟨ha, hb⟩ := M.g_zero h
    subst ha
    rw [M.of_zero h1]; exact M.zero_right _
  · have e : D mul (mul a b) (g (mul m a) (mul m b)) := M.gg _ _ _ (by rw [M.comm m a]; exact M.both (M.refl a) h2) (by rw [M.comm a b, M.comm m b]; exact M.both (M.refl b) h1)
    rw [M.gm, ← L.prod] at e
    obtain ⟨q, hq⟩ := e
    refine ⟨q, M.cancel _ _ _ (pos_of h) ?_⟩
    rw [M.comm (g a b) m, hq, M.assoc]
theorem l_assoc (M : GM mul g) (L : LM mul g l) (a b c : Nat) : l (l a b) c = l a (l b c) :=
  M.anti' (M.l_least L (M.l_least L (M.l_left L a _) (M.trans (M.l_left L b c) (M.l_right L a _))) (M.trans (M.l_right L b c) (M.l_right L a _)))
    (M.l_least L (M.trans (M.l_left L a b) (M.l_left L _ c)) (M.l_least L (M.trans (M.l_right L a b) (M.l_left L _ c)) (M.l_right L _ c)))
theorem g_of (M : GM mul g) {a b : Nat} (h : D mul a b) : g a b = a := M.anti' (M.gl a b) (M.gg _ _ _ (M.refl a) h)
theorem l_of (M : GM mul g) (L : LM mul g l) {a b : Nat} (h : D mul b a) : l a b = a := M.anti' (M.l_least L (M.refl a) h) (M.l_left L a b)
/-- divisors go over multiples -/
theorem distr (M : GM mul g) (L : LM mul g l) (a b c : Nat) : g a (l b c) = l (g a b) (g a c) := by
  apply M.anti'
  · by_cases h3 : g (g a b) (g a c) = 0
    · obtain ⟨h1, h2⟩ := M.g_zero h3
      rw [L.none _ _ (.inl h1)]; exact M.zero_right _
    · have da : D mul (g (g a b) (g a c)) a := M.trans (M.gl _ _) (M.gl a b)
      have db : D mul (g (g a b) (g a c)) b := M.trans (M.gl _ _) (M.gr a b)
      have dc : D mul (g (g a b) (g a c)) c := M.trans (M.gr _ _) (M.gr a c)
      have dd : D mul (g (g a b) (g a c)) (g b c) := M.gg _ _ _ db dc
      have xa : D mul (g a (l b c)) a := M.gl _ _
      have xl : D mul (g a (l b c)) (l b c) := M.gr _ _
      have e : mul (g a b) (g a c) = g (g (mul a a) (mul a c)) (g (mul b a) (mul b c)) := by
        rw [M.gm, M.gm, M.comm a (g a c), M.comm b (g a c), M.gm, M.comm]
      have k : D mul (mul (g (g a b) (g a c)) (g a (l b c))) (mul (g a b) (g a c)) := by
        rw [e]
        refine M.gg _ _ _ (M.gg _ _ _ (M.both da xa) ?_) (M.gg _ _ _ (M.both db xa) ?_)
        · rw [M.comm a c]; exact M.both dc xa
        · rw [← L.prod b c]; exact M.both dd xl
      rw [← L.prod (g a b) (g a c)] at k
      obtain ⟨q, hq⟩ := k
      exact ⟨q, M.cancel _ _ _ (pos_of h3) (by rw [hq, M.assoc])⟩
  · refine M.l_least L (M.gg _ _ _ (M.gl a b) (M.trans (M.gr a b) (M.l_left L b c))) (M.gg _ _ _ (M.gl a c) (M.trans (M.gr a c) (M.l_right L b c)))
/-- multiples go over divisors -/
theorem distr' (M : GM mul g) (L : LM mul g l) (a b c : Nat) : l a (g b c) = g (l a b) (l a c) := by
  rw [M.distr L (l a b) a c, M.g_comm (l a b) a, M.g_of (M.l_left L a b), M.g_comm (l a b) c, M.distr L c a b, ← M.l_assoc L, M.l_of L (M.gr c a), M.g_comm c b]
end GM
namespace Hr
/-! ### divisors and multiples of both kinds -/
def mulN : Kd → Nat → Nat → Nat
  | .H, a, b => a * b
  | .B, a, b => Gf.mul a b
def gN : Kd → Nat → Nat → Nat
  | .H, a, b => Nat.gcd a b
  | .B, a, b => Gf.gcd a b
def lN : Kd → Nat → Nat → Nat
  | .H, a, b => Nat.lcm a b
  | .B, a, b => if a = 0 ∨ b = 0 then 0 else Gf.mul a (Gf.quo b (Gf.gcd a b))
theorem gmN : ∀ k : Kd, GM (mulN k) (gN k)
  | .H => {
      comm := Nat.mul_comm
      assoc := Nat.mul_assoc
      one := Nat.mul_one
      zero := Nat.mul_zero
      cancel := fun a b c h e => Nat.eq_of_mul_eq_mul_left h e
      gl := fun a b => Nat.gcd_dvd_left a b
      gr := fun a b => Nat.gcd_dvd_right a b
      gg := fun a b c h1 h2 => Nat.dvd_gcd h1 h2
      anti := fun a b h1 h2 => Nat.dvd_antisymm h2 h1
      gm := fun m a b => Nat.gcd_mul_left m a b }
  | .B => {
      comm := Gf.mul_comm
      assoc := Gf.mul_assoc
      one := Gf.mul_one
      zero := Gf.mul_zero
      cancel := fun a b c h e => Gf.mul_cancel h e
      gl := fun a b => (Gf.gcd_dv a b).1
      gr := fun a b => (Gf.gcd_dv a b).2
      gg := fun a b c h1 h2 => Gf.dv_gcd h1 h2
      anti := fun a b h1 h2 => Gf.Dv.antisymm h2 h1
      gm := Gf.gcd_mul }
theorem lmN : ∀ k : Kd, GM.LM (mulN k) (gN k) (lN k)
  | .H => {
      prod := Nat.gcd_mul_lcm
      none := fun a b h => by
        rcases h with rfl | rfl
        · exact Nat.lcm_zero_left b
        · exact Nat.lcm_zero_right a }
  | .B => {
      prod := fun a b => by
        show Gf.mul (Gf.gcd a b) (if a = 0 ∨ b = 0 then 0 else Gf.mul a (Gf.quo b (Gf.gcd a b))) = Gf.mul a b
        by_cases h : a = 0 ∨ b = 0
        · rw [if_pos h, Gf.mul_zero]
          rcases h with rfl | rfl
          · rw [Gf.zero_mul]
          · rw [Gf.mul_zero]
        · rw [if_neg h]
          have hg : 0 < Gf.gcd a b := by
            rcases Nat.eq_zero_or_pos (Gf.gcd a b) with z | z
            · exact absurd (.inl (Gf.gcd_eq_zero.mp z).1) h
            · exact z
          obtain ⟨q, hq⟩ := (Gf.gcd_dv a b).2
          have e : Gf.quo b (Gf.gcd a b) = q := by
            conv => lhs; arg 1; rw [hq]
            exact (Gf.quo_mul hg).1
          rw [e, ← Gf.mul_assoc, Gf.mul_comm (Gf.gcd a b) a, Gf.mul_assoc, ← hq]
      none := fun a b h => if_pos h }
def gcdM (k : Kd) (a b : Int) : Int := ((gN k a.natAbs b.natAbs : Nat) : Int)
def lcmM (k : Kd) (a b : Int) : Int := ((lN k a.natAbs b.natAbs : Nat) : Int)
theorem ok_gcd {k : Kd} {a b : Int} : Ok k (gcdM k a b) := Ok.of_nat k _
theorem ok_lcm {k : Kd} {a b : Int} : Ok k (lcmM k a b) := Ok.of_nat k _
theorem abs_nat (n : Nat) : ((n : Int)).natAbs = n := rfl
theorem times_abs {k : Kd} {a b : Int} (oa : Ok k a) (ob : Ok k b) : (timesM k a b).natAbs = mulN k a.natAbs b.natAbs := by
  cases k
  · exact Int.natAbs_mul a b
  · obtain ⟨n, rfl⟩ := oa.nn
    obtain ⟨m, rfl⟩ := ob.nn
    rfl
theorem times_nat (k : Kd) (n m : Nat) : timesM k (n : Int) (m : Int) = ((mulN k n m : Nat) : Int) := by cases k <;> rfl
/-! ### dividing by what is not 0 -/
theorem quo_rem' {k : Kd} {a b : Int} (oa : Ok k a) (ob : Ok k b) (hb : b ≠ 0) : plusM k (timesM k b (quoM k a b)) (remM k a b) = a := by
  cases k
  · show b * a.fdiv b + (if b = 0 then a else a.fmod b) = a
    rw [if_neg hb]; exact Int.mul_fdiv_add_fmod a b
  · exact quo_rem oa (by have : 0 ≤ b := ob; omega)
theorem fmod_lo {a b : Int} (hb : b < 0) : b < a.fmod b ∧ a.fmod b ≤ 0 := by
  rw [Int.fmod_eq_emod]
  have h1 := Int.emod_nonneg a (show b ≠ 0 by omega)
  have h2 := Int.emod_lt a (show b ≠ 0 by omega)
  split
  · rename_i h
    rcases h with h | h
    · omega
    · rw [Int.emod_eq_zero_of_dvd h]; omega
  · rename_i h
    have : a % b ≠ 0 := fun z => h (.inr (Int.dvd_of_emod_eq_zero z))
    omega
theorem fmod_hi {a b : Int} (hb : 0 < b) : 0 ≤ a.fmod b ∧ a.fmod b < b := by
  rw [Int.fmod_eq_emod_of_nonneg a (by omega)]
  exact ⟨Int.emod_nonneg a (by omega), Int.emod_lt_of_pos a hb⟩
theorem fdiv_abs' {a b : Int} (hb : b ≠ 0) : (a.fdiv b).natAbs ≤ a.natAbs := by
  rcases Int.lt_or_lt_of_ne hb with h | h
  · have e : a.fdiv b = (-a).fdiv (-b) := by rw [Int.neg_fdiv_neg]
    have := fdiv_abs (a := -a) (b := -b) (by omega)
    rw [e]; omega
  · exact fdiv_abs h
theorem sz_quo' {k : Kd} {a b : Int} (oa : Ok k a) (ob : Ok k b) (hb : b ≠ 0) : sz (quoM k a b) ≤ sz a := by
  cases k
  · exact sz_mono (fdiv_abs' hb)
  · exact sz_quo oa (by have : 0 ≤ b := ob; omega)
/-- what is a product by b is divided without a rest -/
theorem quo_exact {k : Kd} {b u : Int} (ob : Ok k b) (ou : Ok k u) (hb : b ≠ 0) : quoM k (timesM k b u) b = u ∧ remM k (timesM k b u) b = 0 := by
  cases k
  · refine ⟨?_, ?_⟩
    · show (b * u).fdiv b = u
      exact Int.mul_fdiv_cancel_left u hb
    · rw [remH_zero]; exact Int.dvd_mul_right b u
  · obtain ⟨n, rfl⟩ := ob.nn
    obtain ⟨m, rfl⟩ := ou.nn
    have hn : 0 < n := by omega
    obtain ⟨h1, h2⟩ := Gf.quo_mul (q := m) hn
    refine ⟨?_, ?_⟩
    · show ((Gf.quo (Gf.mul n m) n : Nat) : Int) = m; rw [h1]
    · show ((Gf.rem (Gf.mul n m) n : Nat) : Int) = 0; rw [h2]; rfl
/-! ### Euclid's steps -/
def Settled : Kd → Int → Int → Prop
  | .H, c, f => (0 < c ∧ 0 ≤ f ∧ f < c) ∨ (c < 0 ∧ f ≤ 0 ∧ c < f)
  | .B, c, f => sz f < sz c
theorem settle {k : Kd} {c f : Int} (oc : Ok k c) (of : Ok k f) (hf : f ≠ 0) : Settled k f (remM k c f) := by
  cases k
  · show (0 < f ∧ 0 ≤ (if f = 0 then c else c.fmod f) ∧ (if f = 0 then c else c.fmod f) < f) ∨ (f < 0 ∧ (if f = 0 then c else c.fmod f) ≤ 0 ∧ f < (if f = 0 then c else c.fmod f))
    rw [if_neg hf]
    rcases Int.lt_or_lt_of_ne hf with h | h
    · have := fmod_lo (a := c) h; exact .inr ⟨h, this.2, this.1⟩
    · have := fmod_hi (a := c) h; exact .inl ⟨h, this.1, this.2⟩
  · obtain ⟨n, rfl⟩ := oc.nn
    obtain ⟨m, rfl⟩ := of.nn
    exact (Gf.rem_spec (n := n) (d := m) (by omega)).1
theorem half_lt {l c : Int} (h : 2 * l.natAbs < c.natAbs) : sz l + 1 ≤ sz c := by
  have h1 : ¬ sz c ≤ sz l := fun z => by
    have a := sz_le.mp z
    by_cases hl : l = 0
    · subst hl; rw [sz_zero] at a; simp at a; omega
    · have b : 2 ^ (sz l - 1) ≤ l.natAbs := Gf.lt_bl.mp (show sz l - 1 < Gf.bl l.natAbs by
        have := Gf.bl_pos (n := l.natAbs) (by omega)
        show Gf.bl l.natAbs - 1 < Gf.bl l.natAbs; omega)
      have p := Gf.bl_pos (n := l.natAbs) (by omega)
      have e : 2 ^ sz l = 2 * 2 ^ (sz l - 1) := by
        have : sz l = (sz l - 1) + 1 := by show Gf.bl l.natAbs = Gf.bl l.natAbs - 1 + 1; omega
        conv => lhs; rw [this, Nat.pow_succ]
        omega
      omega
  omega
theorem settled_step {k : Kd} {c f : Int} (oc : Ok k c) (of : Ok k f) (h : Settled k c f) (hf : f ≠ 0) : sz (remM k c f) + 1 ≤ sz c := by
  cases k
  · apply half_lt
    show 2 * (if f = 0 then c else c.fmod f).natAbs < c.natAbs
    rw [if_neg hf]
    have e := Int.mul_fdiv_add_fmod c f
    rcases h with ⟨h1, h2, h3⟩ | ⟨h1, h2, h3⟩
    · have b := fmod_hi (a := c) (b := f) (by omega)
      have q : 1 ≤ c.fdiv f := by
        rcases Int.lt_or_le (c.fdiv f) 1 with z | z
        · have := Int.mul_le_mul_of_nonneg_left (show c.fdiv f ≤ 0 by omega) h2
          rw [Int.mul_zero] at this; omega
        · exact z
      have := Int.mul_le_mul_of_nonneg_left q h2
      rw [Int.mul_one] at this; omega
    · have b := fmod_lo (a := c) (b := f) (by omega)
      have q : 1 ≤ c.fdiv f := by
        rcases Int.lt_or_le (c.fdiv f) 1 with z | z
        · have := Int.mul_le_mul_of_nonpos_left h2 (show c.fdiv f ≤ 0 by omega)
          rw [Int.mul_zero] at this; omega
        · exact z
      have := Int.mul_le_mul_of_nonpos_left h2 q
      rw [Int.mul_one] at this; omega
  · obtain ⟨n, rfl⟩ := oc.nn
    obtain ⟨m, rfl⟩ := of.nn
    have := (Gf.rem_spec (n := n) (d := m) (by omega)).1
    have h' : Gf.bl m < Gf.bl n := h
    show Gf.bl (Gf.rem n m) + 1 ≤ Gf.bl n
    omega
theorem gcd_rem {k : Kd} {c f : Int} (oc : Ok k c) (of : Ok k f) (hf : f ≠ 0) : gcdM k f (remM k c f) = gcdM k c f := by
  cases k
  · show ((Nat.gcd f.natAbs (if f = 0 then c else c.fmod f).natAbs : Nat) : Int) = ((Nat.gcd c.natAbs f.natAbs : Nat) : Int)
    rw [if_neg hf]
    congr 1
    have e := Int.mul_fdiv_add_fmod c f
    apply Nat.dvd_antisymm
    · apply Nat.dvd_gcd
      · have h1 : ((Nat.gcd f.natAbs (c.fmod f).natAbs : Nat) : Int) ∣ f := Int.ofNat_dvd_left.mpr (Nat.gcd_dvd_left _ _)
        have h2 : ((Nat.gcd f.natAbs (c.fmod f).natAbs : Nat) : Int) ∣ c.fmod f := Int.ofNat_dvd_left.mpr (Nat.gcd_dvd_right _ _)
        have h3 := Int.dvd_add (Int.dvd_mul_of_dvd_left (b := f) (c := c.fdiv f) h1) h2
        rw [e] at h3
        exact Int.ofNat_dvd_left.mp h3
      · exact Nat.gcd_dvd_left _ _
    · apply Nat.dvd_gcd
      · exact Nat.gcd_dvd_right _ _
      · have h1 : ((Nat.gcd c.natAbs f.natAbs : Nat) : Int) ∣ c := Int.ofNat_dvd_left.mpr (Nat.gcd_dvd_left _ _)
        have h2 : ((Nat.gcd c.natAbs f.natAbs : Nat) : Int) ∣ f := Int.ofNat_dvd_left.mpr (Nat.gcd_dvd_right _ _)
        have h3 := Int.dvd_sub h1 (Int.dvd_mul_of_dvd_left (b := f) (c := c.fdiv f) h2)
        rw [show c - f * c.fdiv f = c.fmod f by omega] at h3
        exact Int.ofNat_dvd_left.mp h3
  · obtain ⟨n, rfl⟩ := oc.nn
    obtain ⟨m, rfl⟩ := of.nn
    show ((Gf.gcd m (Gf.rem n m) : Nat) : Int) = ((Gf.gcd n m : Nat) : Int)
    rw [← Gf.gcd_step (a := n) (b := m) (by omega)]
theorem gcd_end (k : Kd) (c : Int) : gcdM k c 0 = (c.natAbs : Int) := by
  cases k
  · show ((Nat.gcd c.natAbs 0 : Nat) : Int) = _; rw [Nat.gcd_zero_right]
  · show ((Gf.gcd c.natAbs 0 : Nat) : Int) = _; rw [Gf.gcd_zero]
/-- what the factors tell goes on -/
theorem bez_step {k : Kd} {a b c f x u nx v q l : Int} (oa : Ok k a) (ob : Ok k b) (ox : Ok k x) (ou : Ok k u) (on : Ok k nx) (ov : Ok k v) (oq : Ok k q) (ol : Ok k l)
    (hc : plusM k (timesM k a x) (timesM k b u) = c) (hf : plusM k (timesM k a nx) (timesM k b v) = f) (hl : plusM k (timesM k f q) l = c) :
    plusM k (timesM k a (minusM k x (timesM k nx q))) (timesM k b (minusM k u (timesM k v q))) = l := by
  cases k
  · have hc' : a * x + b * u = c := hc
    have hf' : a * nx + b * v = f := hf
    have hl' : f * q + l = c := hl
    show a * (x - nx * q) + b * (u - v * q) = l
    rw [Int.mul_sub, Int.mul_sub, ← Int.mul_assoc, ← Int.mul_assoc]
    have e : f * q = a * nx * q + b * v * q := by rw [← hf', Int.add_mul]
    omega
  · obtain ⟨a, rfl⟩ := oa.nn
    obtain ⟨b, rfl⟩ := ob.nn
    obtain ⟨x, rfl⟩ := ox.nn
    obtain ⟨u, rfl⟩ := ou.nn
    obtain ⟨nx, rfl⟩ := on.nn
    obtain ⟨v, rfl⟩ := ov.nn
    obtain ⟨q, rfl⟩ := oq.nn
    obtain ⟨l, rfl⟩ := ol.nn
    subst hc hf
    have hl' : Gf.mul (Gf.mul a nx ^^^ Gf.mul b v) q ^^^ l = Gf.mul a x ^^^ Gf.mul b u := Int.ofNat.inj hl
    show ((Gf.mul a (x ^^^ Gf.mul nx q) ^^^ Gf.mul b (u ^^^ Gf.mul v q) : Nat) : Int) = (l : Int)
    congr 1
    rw [Gf.mul_xor, Gf.mul_xor, ← Gf.mul_assoc, ← Gf.mul_assoc]
    rw [Gf.xor_mul] at hl'
    have e : Gf.mul a x ^^^ Gf.mul (Gf.mul a nx) q ^^^ (Gf.mul b u ^^^ Gf.mul (Gf.mul b v) q) = (Gf.mul a x ^^^ Gf.mul b u) ^^^ (Gf.mul (Gf.mul a nx) q ^^^ Gf.mul (Gf.mul b v) q) := by ac_rfl
    rw [e, ← hl']
    have e2 : Gf.mul (Gf.mul a nx) q ^^^ Gf.mul (Gf.mul b v) q ^^^ l ^^^ (Gf.mul (Gf.mul a nx) q ^^^ Gf.mul (Gf.mul b v) q) = ((Gf.mul (Gf.mul a nx) q ^^^ Gf.mul (Gf.mul b v) q) ^^^ (Gf.mul (Gf.mul a nx) q ^^^ Gf.mul (Gf.mul b v) q)) ^^^ l := by ac_rfl
    rw [e2, Nat.xor_self, Nat.zero_xor]
end Hr
namespace Hr
open PySem PySem.Spec PyProof.Rows L2 Evl
def topS (i : Nat) : Stmt := PySem.Challenge.pw_hourrings_k08_whole_divisors_and_multipl.main.body.getD i (.Pass ⟨0, 0, 0, 0⟩)
abbrev s_is_kind : Stmt := topS 7
abbrev N_is_kind : List Str := ["value"]
abbrev P_is_kind : List Str := ["value"]
theorem sc_is_kind : FnScope N_is_kind P_is_kind (defScope s_is_kind) := ⟨rfl, rfl, rfl, by decide +kernel, rfl, by decide +kernel, by decide +kernel⟩
abbrev s_is_whole : Stmt := topS 8
abbrev N_is_whole : List Str := ["value"]
abbrev P_is_whole : List Str := ["value"]
theorem sc_is_whole : FnScope N_is_whole P_is_whole (defScope s_is_whole) := ⟨rfl, rfl, rfl, by decide +kernel, rfl, by decide +kernel, by decide +kernel⟩
abbrev s_is_number : Stmt := topS 9
abbrev N_is_number : List Str := ["kind", "value"]
abbrev P_is_number : List Str := ["kind", "value"]
theorem sc_is_number : FnScope N_is_number P_is_number (defScope s_is_number) := ⟨rfl, rfl, rfl, by decide +kernel, rfl, by decide +kernel, by decide +kernel⟩
abbrev s_check_kind : Stmt := topS 10
abbrev N_check_kind : List Str := ["kind"]
abbrev P_check_kind : List Str := ["kind"]
theorem sc_check_kind : FnScope N_check_kind P_check_kind (defScope s_check_kind) := ⟨rfl, rfl, rfl, by decide +kernel, rfl, by decide +kernel, by decide +kernel⟩
abbrev s_check_number : Stmt := topS 11
abbrev N_check_number : List Str := ["kind", "value"]
abbrev P_check_number : List Str := ["kind", "value"]
theorem sc_check_number : FnScope N_check_number P_check_number (defScope s_check_number) := ⟨rfl, rfl, rfl, by decide +kernel, rfl, by decide +kernel, by decide +kernel⟩
abbrev s_plus : Stmt := topS 12
abbrev N_plus : List Str := ["kind", "one", "other"]
abbrev P_plus : List Str := ["kind", "one", "other"]
theorem sc_plus : FnScope N_plus P_plus (defScope s_plus) := ⟨rfl, rfl, rfl, by decide +kernel, rfl, by decide +kernel, by decide +kernel⟩
abbrev s_minus : Stmt := topS 13
abbrev N_minus : List Str := ["kind", "one", "other"]
abbrev P_minus : List Str := ["kind", "one", "other"]
theorem sc_minus : FnScope N_minus P_minus (defScope s_minus) := ⟨rfl, rfl, rfl, by decide +kernel, rfl, by decide +kernel, by decide +kernel⟩
abbrev s_times : Stmt := topS 14
abbrev N_times : List Str := ["kind", "one", "other", "total"]
abbrev P_times : List Str := ["kind", "one", "other"]
theorem sc_times : FnScope N_times P_times (defScope s_times) := ⟨rfl, rfl, rfl, by decide +kernel, rfl, by decide +kernel, by decide +kernel⟩
abbrev s_split_by : Stmt := topS 15
abbrev N_split_by : List Str := ["kind", "one", "by", "quotient", "size", "shift"]
abbrev P_split_by : List Str := ["kind", "one", "by"]
theorem sc_split_by : FnScope N_split_by P_split_by (defScope s_split_by) := ⟨rfl, rfl, rfl, by decide +kernel, rfl, by decide +kernel, by decide +kernel⟩
abbrev s_rest_by : Stmt := topS 16
abbrev N_rest_by : List Str := ["kind", "one", "by"]
abbrev P_rest_by : List Str := ["kind", "one", "by"]
theorem sc_rest_by : FnScope N_rest_by P_rest_by (defScope s_rest_by) := ⟨rfl, rfl, rfl, by decide +kernel, rfl, by decide +kernel, by decide +kernel⟩
abbrev s_common_divisor : Stmt := topS 17
abbrev N_common_divisor : List Str := ["kind", "one", "other"]
abbrev P_common_divisor : List Str := ["kind", "one", "other"]
theorem sc_common_divisor : FnScope N_common_divisor P_common_divisor (defScope s_common_divisor) := ⟨rfl, rfl, rfl, by decide +kernel, rfl, by decide +kernel, by decide +kernel⟩
abbrev s_common_multiple : Stmt := topS 18
abbrev N_common_multiple : List Str := ["kind", "one", "other", "times_it"]
abbrev P_common_multiple : List Str := ["kind", "one", "other"]
theorem sc_common_multiple : FnScope N_common_multiple P_common_multiple (defScope s_common_multiple) := ⟨rfl, rfl, rfl, by decide +kernel, rfl, by decide +kernel, by decide +kernel⟩
abbrev s_divisor_with_factors : Stmt := topS 19
abbrev N_divisor_with_factors : List Str := ["kind", "one", "other", "count", "x", "following", "next_x", "factor", "left", "y"]
abbrev P_divisor_with_factors : List Str := ["kind", "one", "other"]
theorem sc_divisor_with_factors : FnScope N_divisor_with_factors P_divisor_with_factors (defScope s_divisor_with_factors) := ⟨rfl, rfl, rfl, by decide +kernel, rfl, by decide +kernel, by decide +kernel⟩
abbrev s_check_two : Stmt := topS 21
abbrev N_check_two : List Str := ["kind", "one", "other"]
abbrev P_check_two : List Str := ["kind", "one", "other"]
theorem sc_check_two : FnScope N_check_two P_check_two (defScope s_check_two) := ⟨rfl, rfl, rfl, by decide +kernel, rfl, by decide +kernel, by decide +kernel⟩
abbrev s_divisor : Stmt := topS 22
abbrev N_divisor : List Str := ["kind", "one", "other"]
abbrev P_divisor : List Str := ["kind", "one", "other"]
theorem sc_divisor : FnScope N_divisor P_divisor (defScope s_divisor) := ⟨rfl, rfl, rfl, by decide +kernel, rfl, by decide +kernel, by decide +kernel⟩
abbrev s_multiple : Stmt := topS 23
abbrev N_multiple : List Str := ["kind", "one", "other"]
abbrev P_multiple : List Str := ["kind", "one", "other"]
theorem sc_multiple : FnScope N_multiple P_multiple (defScope s_multiple) := ⟨rfl, rfl, rfl, by decide +kernel, rfl, by decide +kernel, by decide +kernel⟩
abbrev s_divisor_paper : Stmt := topS 24
abbrev N_divisor_paper : List Str := ["kind", "one", "other"]
abbrev P_divisor_paper : List Str := ["kind", "one", "other"]
theorem sc_divisor_paper : FnScope N_divisor_paper P_divisor_paper (defScope s_divisor_paper) := ⟨rfl, rfl, rfl, by decide +kernel, rfl, by decide +kernel, by decide +kernel⟩
abbrev s_is_divisor_paper : Stmt := topS 25
abbrev N_is_divisor_paper : List Str := ["kind", "one", "other", "value", "count", "p", "q", "x", "y", "item"]
abbrev P_is_divisor_paper : List Str := ["kind", "one", "other", "value"]
theorem sc_is_divisor_paper : FnScope N_is_divisor_paper P_is_divisor_paper (defScope s_is_divisor_paper) := ⟨rfl, rfl, rfl, by decide +kernel, rfl, by decide +kernel, by decide +kernel⟩
abbrev s_law_hash : Stmt := topS 27
abbrev N_law_hash : List Str := ["_law_seed", "_law_index", "_law_mixed"]
abbrev P_law_hash : List Str := ["_law_seed", "_law_index"]
theorem sc_law_hash : FnScope N_law_hash P_law_hash (defScope s_law_hash) := ⟨rfl, rfl, rfl, by decide +kernel, rfl, by decide +kernel, by decide +kernel⟩
abbrev s_law_random : Stmt := topS 28
abbrev N_law_random : List Str := ["_law_generator_here", "_law_bound", "_law_drawn", "_law_turn"]
abbrev P_law_random : List Str := ["_law_generator_here", "_law_bound"]
theorem sc_law_random : FnScope N_law_random P_law_random (defScope s_law_random) := ⟨rfl, rfl, rfl, by decide +kernel, rfl, by decide +kernel, by decide +kernel⟩
abbrev s_law_cell : Stmt := topS 29
abbrev N_law_cell : List Str := ["_law_script", "_law_index"]
abbrev P_law_cell : List Str := ["_law_script", "_law_index"]
theorem sc_law_cell : FnScope N_law_cell P_law_cell (defScope s_law_cell) := ⟨rfl, rfl, rfl, by decide +kernel, rfl, by decide +kernel, by decide +kernel⟩
abbrev s_law_generator : Stmt := topS 30
abbrev N_law_generator : List Str := ["_law_script", "_law_index", "_law_seed"]
abbrev P_law_generator : List Str := ["_law_script", "_law_index"]
theorem sc_law_generator : FnScope N_law_generator P_law_generator (defScope s_law_generator) := ⟨rfl, rfl, rfl, by decide +kernel, rfl, by decide +kernel, by decide +kernel⟩
abbrev s_law_kind : Stmt := topS 31
abbrev N_law_kind : List Str := ["_law_generator_here"]
abbrev P_law_kind : List Str := ["_law_generator_here"]
theorem sc_law_kind : FnScope N_law_kind P_law_kind (defScope s_law_kind) := ⟨rfl, rfl, rfl, by decide +kernel, rfl, by decide +kernel, by decide +kernel⟩
abbrev s_law_add : Stmt := topS 32
abbrev N_law_add : List Str := ["_law_kind_there", "_law_one", "_law_other"]
abbrev P_law_add : List Str := ["_law_kind_there", "_law_one", "_law_other"]
theorem sc_law_add : FnScope N_law_add P_law_add (defScope s_law_add) := ⟨rfl, rfl, rfl, by decide +kernel, rfl, by decide +kernel, by decide +kernel⟩
abbrev s_law_less : Stmt := topS 33
abbrev N_law_less : List Str := ["_law_kind_there", "_law_one", "_law_other"]
abbrev P_law_less : List Str := ["_law_kind_there", "_law_one", "_law_other"]
theorem sc_law_less : FnScope N_law_less P_law_less (defScope s_law_less) := ⟨rfl, rfl, rfl, by decide +kernel, rfl, by decide +kernel, by decide +kernel⟩
abbrev s_law_times : Stmt := topS 34
abbrev N_law_times : List Str := ["_law_kind_there", "_law_one", "_law_other", "_law_found", "_law_place"]
abbrev P_law_times : List Str := ["_law_kind_there", "_law_one", "_law_other"]
theorem sc_law_times : FnScope N_law_times P_law_times (defScope s_law_times) := ⟨rfl, rfl, rfl, by decide +kernel, rfl, by decide +kernel, by decide +kernel⟩
abbrev s_law_rest : Stmt := topS 35
abbrev N_law_rest : List Str := ["_law_kind_there", "_law_number_here", "_law_by", "_law_size"]
abbrev P_law_rest : List Str := ["_law_kind_there", "_law_number_here", "_law_by"]
theorem sc_law_rest : FnScope N_law_rest P_law_rest (defScope s_law_rest) := ⟨rfl, rfl, rfl, by decide +kernel, rfl, by decide +kernel, by decide +kernel⟩
abbrev s_law_is_multiple : Stmt := topS 36
abbrev N_law_is_multiple : List Str := ["_law_kind_there", "_law_number_here", "_law_by"]
abbrev P_law_is_multiple : List Str := ["_law_kind_there", "_law_number_here", "_law_by"]
theorem sc_law_is_multiple : FnScope N_law_is_multiple P_law_is_multiple (defScope s_law_is_multiple) := ⟨rfl, rfl, rfl, by decide +kernel, rfl, by decide +kernel, by decide +kernel⟩
abbrev s_law_number : Stmt := topS 37
abbrev N_law_number : List Str := ["_law_generator_here", "_law_kind_there", "_law_most"]
abbrev P_law_number : List Str := ["_law_generator_here", "_law_kind_there", "_law_most"]
theorem sc_law_number : FnScope N_law_number P_law_number (defScope s_law_number) := ⟨rfl, rfl, rfl, by decide +kernel, rfl, by decide +kernel, by decide +kernel⟩
abbrev s_law_is_paper : Stmt := topS 38
abbrev N_law_is_paper : List Str := ["_law_kind_there", "_law_one", "_law_other", "_law_value_there", "_law_count", "_law_low", "_law_high", "_law_first", "_law_second", "_law_item"]
abbrev P_law_is_paper : List Str := ["_law_kind_there", "_law_one", "_law_other", "_law_value_there"]
theorem sc_law_is_paper : FnScope N_law_is_paper P_law_is_paper (defScope s_law_is_paper) := ⟨rfl, rfl, rfl, by decide +kernel, rfl, by decide +kernel, by decide +kernel⟩
abbrev s_law_due : Stmt := topS 39
abbrev N_law_due : List Str := ["_law_kind_there", "_law_one", "_law_other", "_law_low", "_law_high", "_law_item", "_law_found", "_law_most"]
abbrev P_law_due : List Str := ["_law_kind_there", "_law_one", "_law_other"]
theorem sc_law_due : FnScope N_law_due P_law_due (defScope s_law_due) := ⟨rfl, rfl, rfl, by decide +kernel, rfl, by decide +kernel, by decide +kernel⟩
abbrev s_law_right : Stmt := topS 40
abbrev N_law_right : List Str := ["_law_generator_here", "_law_kind_there", "_law_one", "_law_other", "_law_due_here", "_law_told", "_law_rows", "_law_spot", "_law_odd", "_law_value_there", "_law_given", "_law_judged"]
abbrev P_law_right : List Str := ["_law_generator_here", "_law_kind_there"]
theorem sc_law_right : FnScope N_law_right P_law_right (defScope s_law_right) := ⟨rfl, rfl, rfl, by decide +kernel, rfl, by decide +kernel, by decide +kernel⟩
abbrev s_law : Stmt := topS 41
abbrev N_law : List Str := ["_law_script", "_law_index", "_law_generator_here", "_law_told", "_law_kind_there", "_law_value_there"]
abbrev P_law : List Str := ["_law_script"]
theorem sc_law : FnScope N_law P_law (defScope s_law) := ⟨rfl, rfl, rfl, by decide +kernel, rfl, by decide +kernel, by decide +kernel⟩
section
variable {P : Program} {w : World} {K : PySem.W.Frag} {mg : Str → Option Value} {base : Heap}
abbrev a3 (x : Kd × Int × Int) : List V := [.str (ks x.1), .int x.2.1, .int x.2.2]
abbrev spPlus : Sp := spP a3 (fun x => Ok x.1 x.2.1 ∧ Ok x.1 x.2.2) (fun x => .int (plusM x.1 x.2.1 x.2.2))
theorem d_plus (D : Def K mg "plus" s_plus P_plus) : Has P w K mg base 1 "plus" P_plus spPlus := by
  refine D.hasP sc_plus (fun _ => rfl) (fun g cdv A out s H z Q E hr hp q => ?_)
  obtain ⟨k, a, b⟩ := z
  refine ⟨_, (pss_cons (ps_if (pt_cmpR op_eq (pv 0) pe_str (nomark _)) (pss_one (ps_ret (pe_op op_add (pv 1) (pv 2)))) pss_nil)
      (pss_one (ps_ret (pe_op op_xorN (pv 1) (pv 2))))), ?_⟩
  refine q_when (et_kind (ev_var rfl)) (fun h H1 e1 => ?_) (fun h H1 e1 => ?_)
  · cases k <;> cases h
    exact s_ret (ev_op (ev_var rfl) (ev_var rfl) rv_I0) fun H2 e2 => q H2 (e1.trans e2)
  · cases k <;> cases h
    obtain ⟨n, rfl⟩ := hp.1.nn
    obtain ⟨m, rfl⟩ := hp.2.nn
    exact s_ret (ev_op (ev_var rfl) (ev_var rfl) rv_xorN) fun H2 e2 => q H2 (e1.trans e2)
abbrev spMinus : Sp := spP a3 (fun x => Ok x.1 x.2.1 ∧ Ok x.1 x.2.2) (fun x => .int (minusM x.1 x.2.1 x.2.2))
theorem d_minus (D : Def K mg "minus" s_minus P_minus) : Has P w K mg base 1 "minus" P_minus spMinus := by
  refine D.hasP sc_minus (fun _ => rfl) (fun g cdv A out s H z Q E hr hp q => ?_)
  obtain ⟨k, a, b⟩ := z
  refine ⟨_, (pss_cons (ps_if (pt_cmpR op_eq (pv 0) pe_str (nomark _)) (pss_one (ps_ret (pe_op op_sub (pv 1) (pv 2)))) pss_nil)
      (pss_one (ps_ret (pe_op op_xorN (pv 1) (pv 2))))), ?_⟩
  refine q_when (et_kind (ev_var rfl)) (fun h H1 e1 => ?_) (fun h H1 e1 => ?_)
  · cases k <;> cases h
    exact s_ret (ev_op (ev_var rfl) (ev_var rfl) rv_I0) fun H2 e2 => q H2 (e1.trans e2)
  · cases k <;> cases h
    obtain ⟨n, rfl⟩ := hp.1.nn
    obtain ⟨m, rfl⟩ := hp.2.nn
    exact s_ret (ev_op (ev_var rfl) (ev_var rfl) rv_xorN) fun H2 e2 => q H2 (e1.trans e2)
abbrev spTimes : Sp := spP a3 (fun x => (Ok x.1 x.2.1 ∧ Ok x.1 x.2.2) ∧ sz x.2.1 ≤ 100000 ∧ sz x.2.2 ≤ 100000) (fun x => .int (timesM x.1 x.2.1 x.2.2))
theorem d_times (D : Def K mg "times" s_times P_times) : Has P w K mg base 1 "times" P_times spTimes := by
  refine D.hasP sc_times (fun _ => rfl) (fun g cdv A out s H z Q E hr hp q => ?_)
  obtain ⟨k, a, b⟩ := z
  obtain ⟨hp, ha, hb⟩ := hp
  refine ⟨_, (pss_cons (ps_if (pt_cmpR op_eq (pv 0) pe_str (nomark _)) (pss_one (ps_ret (pe_op op_mulX (pv 1) (pv 2)))) pss_nil)
      (pss_cons (ps_set (i := 3) sc_times.nd rfl (.inl rfl) pe_int)
      (pss_cons (ps_while PassesOwn.never (pt_cmpR op_gt (pv 2) pe_int (nomark _)) (pss_cons (ps_if (pt_truth (pe_op op_odd (pv 2) pe_int) (by intro _; rfl)) (pss_one (ps_set (i := 3) sc_times.nd rfl (.inl rfl) (pe_op op_xorN (pv 3) (pv 1)))) pss_nil)
      (pss_cons (ps_set (i := 1) sc_times.nd rfl (.inl rfl) (pe_op op_shlNN (pv 1) pe_int))
      (pss_one (ps_set (i := 2) sc_times.nd rfl (.inl rfl) (pe_op op_halfN (pv 2) pe_int))))))
      (pss_one (ps_ret (pv 3)))))), ?_⟩
  refine q_when (et_kind (ev_var rfl)) (fun h H1 e1 => ?_) (fun h H1 e1 => ?_)
  · cases k <;> cases h
    exact s_ret (ev_op (ev_var rfl) (ev_var rfl) (rv_I (cmul_ok (by have : sz a ≤ 100000 := ha; have : sz b ≤ 100000 := hb; omega)))) fun H2 e2 => q H2 (e1.trans e2)
  · cases k <;> cases h
    obtain ⟨n, rfl⟩ := hp.1.nn
    obtain ⟨m, rfl⟩ := hp.2.nn
    refine q_asg ev_c fun H2 e2 => ?_
    refine q_while (fun i σ' H' => ∃ x y t : Nat, i = y ∧ σ' = [some (.str (ks .B)), some (.int (x : Int)), some (.int (y : Int)), some (.int (t : Int))] ∧ Evl.Ex H H' ∧ t ^^^ Gf.mul x y = Gf.mul n m ∧ Gf.bl x + Gf.bl y ≤ 200000)
      m ⟨n, m, 0, rfl, rfl, e1.trans e2, Nat.zero_xor _, by have : Gf.bl n ≤ 100000 := ha; have : Gf.bl m ≤ 100000 := hb; omega⟩ ?_
    rintro i σ' H' ⟨x, y, t, rfl, rfl, e, hm, hl⟩
    refine ⟨_, et_test (ev_op (ev_var rfl) ev_c rv_I0), fun hy H3 e3 => ?_, fun hy H3 e3 => ?_⟩
    · have hy' : 0 < i := by have := of_decide_eq_true hy; omega
      refine ⟨_, fun _ _ h => h, ?_⟩
      have l1 := log_bl x
      have b1 := Gf.bl_double x
      have b2 := Gf.bl_half hy'
      by_cases ho : i % 2 = 1
      · refine q_when (et_int (ev_op (ev_var rfl) ev_c rv_odd)) (fun _ H4 e4 => ?_) (fun hn => by rw [ho] at hn; cases hn)
        refine s_asg (ev_op (ev_var rfl) (ev_var rfl) rv_xorN) fun H5 e5 => ?_
        refine q_asg (ev_op (ev_var rfl) ev_c (rv_shlN (k := 1) (by omega) (by omega))) fun H6 e6 => ?_
        refine s_asg (ev_op (ev_var rfl) ev_c rv_half) fun H7 e7 => ?_
        refine ⟨i / 2, by omega, x * 2 ^ 1, i / 2, t ^^^ x, rfl, rfl, (((((e.trans e3).trans e4).trans e5).trans e6).trans e7), ?_, ?_⟩
        · rw [← hm, Gf.mul_odd ho, Nat.pow_one, Nat.mul_comm x 2, Nat.xor_assoc]
        · rw [Nat.pow_one, Nat.mul_comm x 2]; omega
      · refine q_when (et_int (ev_op (ev_var rfl) ev_c rv_odd)) (fun hn => by rw [show i % 2 = 0 by omega] at hn; cases hn) (fun _ H4 e4 => ?_)
        refine q_asg (ev_op (ev_var rfl) ev_c (rv_shlN (k := 1) (by omega) (by omega))) fun H6 e6 => ?_
        refine s_asg (ev_op (ev_var rfl) ev_c rv_half) fun H7 e7 => ?_
        refine ⟨i / 2, by omega, x * 2 ^ 1, i / 2, t, rfl, rfl, ((((e.trans e3).trans e4).trans e6).trans e7), ?_, ?_⟩
        · rw [← hm, Gf.mul_even ho, Nat.pow_one, Nat.mul_comm x 2]
        · rw [Nat.pow_one, Nat.mul_comm x 2]; omega
    · have hy' : i = 0 := by have := of_decide_eq_false hy; omega
      subst hy'
      rw [Gf.mul_zero, Nat.xor_zero] at hm
      subst hm
      exact s_ret (ev_var rfl) fun H4 e4 => q H4 ((e.trans e3).trans e4)
/-- what may be divided: no 0; of bits by a word above 0 -/
def Dv (k : Kd) (b : Int) : Prop := b ≠ 0 ∧ Ok k b
abbrev spSplit : Sp := spU a3 (fun x => (Ok x.1 x.2.1 ∧ Dv x.1 x.2.2) ∧ sz x.2.1 ≤ 100000 ∧ sz x.2.2 ≤ 8000) (fun x => [.int (quoM x.1 x.2.1 x.2.2), .int (remM x.1 x.2.1 x.2.2)])
theorem d_split_by (D : Def K mg "split_by" s_split_by P_split_by) (z_divmod : mg "divmod" = none) : Has P w K mg base 1 "split_by" P_split_by spSplit := by
  refine D.hasU sc_split_by (fun _ => rfl) (fun g cdv A out s H z Q E hr hp q => ?_)
  obtain ⟨k, a, b⟩ := z
  obtain ⟨⟨pa, pb0, pb⟩, ha, hb⟩ := hp
  refine ⟨_, (pss_cons (ps_if (pt_cmpR op_eq (pv 0) pe_str (nomark _)) (pss_one (ps_ret (pe_callB call_divmodF (by rfl) z_divmod (by decide +kernel) (pa_cons (pv 1) (pa_cons (pv 2) pa_nil))))) pss_nil)
      (pss_cons (ps_set (i := 3) sc_split_by.nd rfl (.inl rfl) pe_int)
      (pss_cons (ps_set (i := 4) sc_split_by.nd rfl (.inl rfl) (pe_bits (pv 2)))
      (pss_cons (ps_while PassesOwn.never (pt_cmpR op_ge (pe_bits (pv 1)) (pv 4) (nomark _)) (pss_cons (ps_set (i := 5) sc_split_by.nd rfl (.inl rfl) (pe_op op_sub (pe_bits (pv 1)) (pv 4)))
      (pss_cons (ps_set (i := 3) sc_split_by.nd rfl (.inl rfl) (pe_op op_orN (pv 3) (pe_op op_shlNN pe_int (pv 5))))
      (pss_one (ps_set (i := 1) sc_split_by.nd rfl (.inl rfl) (pe_op op_xorN (pv 1) (pe_op op_shlNN (pv 2) (pv 5))))))))
      (pss_one (ps_ret (pe_tup (pa_cons (pv 3) (pa_cons (pv 1) pa_nil))))))))), ?_⟩
  refine q_when (et_kind (ev_var rfl)) (fun h H1 e1 => ?_) (fun h H1 e1 => ?_)
  · cases k <;> cases h
    have hb' : sz b ≤ 8000 := hb
    refine s_retU (eu_divmod (ea_cons (ev_var rfl) (ea_cons (ev_var rfl) ea_nil)) pb0 (by omega)) fun p H2 hp e2 h2 => q p H2 (fresh_back e1 hp) (e1.trans e2) ?_
    rw [h2]
    show _ = some (HO.tup [.int (a.fdiv b), .int (if b = 0 then a else a.fmod b)])
    rw [if_neg pb0]
  · cases k <;> cases h
    obtain ⟨n, rfl⟩ := pa.nn
    obtain ⟨m, rfl⟩ := pb.nn
    have hm : 0 < m := by have : (m : Int) ≠ 0 := pb0; omega
    have hn : Gf.bl n ≤ 100000 := ha
    have hm8 : Gf.bl m ≤ 8000 := hb
    refine q_asg ev_c fun H2 e2 => ?_
    refine q_asg (ev_bits (ev_var rfl)) fun H3 e3 => ?_
    refine q_while (fun i σ' H' => ∃ (t : Nat) (y : Option V), σ' = [some (.str (ks .B)), some (.int (i : Int)), some (.int (m : Int)), some (.int (t : Int)), some (.int (Gf.bl m : Nat)), y] ∧ Evl.Ex H H' ∧ t ^^^ Gf.quo i m = Gf.quo n m ∧ Gf.rem i m = Gf.rem n m ∧ (∀ j, j + Gf.bl m ≤ Gf.bl i → t.testBit j = false) ∧ Gf.bl i ≤ 100000)
      n ⟨0, none, rfl, (e1.trans e2).trans e3, Nat.zero_xor _, rfl, fun j _ => Nat.zero_testBit j, hn⟩ ?_
    rintro i σ' H' ⟨t, y, rfl, e, hq, hr', hbit, hl⟩
    refine ⟨_, et_test (ev_op (ev_bits (ev_var rfl)) (ev_var rfl) rv_I0), fun hy H3 e3 => ?_, fun hy H3 e3 => ?_⟩
    · have hy' : Gf.bl m ≤ Gf.bl i := by have := of_decide_eq_true hy; rw [sz_nat] at this; omega
      have hs : (((sz (i : Int) : Nat) : Int) - ((Gf.bl m : Nat) : Int)) = ((Gf.bl i - Gf.bl m : Nat) : Int) := by rw [sz_nat]; omega
      have l1 := log_bl m
      refine ⟨_, fun _ _ h => h, ?_⟩
      refine q_asg (ev_is (ev_op (ev_bits (ev_var rfl)) (ev_var rfl) rv_I0) (by rw [hs])) fun H4 e4 => ?_
      refine q_asg (ev_op (ev_var rfl) (ev_op (ev_is ev_c (show V.int 1 = V.int ((1 : Nat) : Int) from rfl)) (ev_var rfl) (rv_shlN (k := Gf.bl i - Gf.bl m) (by decide) (by omega))) rv_orN) fun H5 e5 => ?_
      refine s_asg (ev_op (ev_var rfl) (ev_op (ev_var rfl) (ev_var rfl) (rv_shlN (n := m) (k := Gf.bl i - Gf.bl m) (by omega) (by omega))) rv_xorN) fun H6 e6 => ?_
      have less := Gf.step_less hm hy'
      have lt := Gf.step_lt hm hy'
      have ble : Gf.bl (i ^^^ m * 2 ^ (Gf.bl i - Gf.bl m)) ≤ Gf.bl i - 1 := Gf.bl_le.mpr lt
      have bp := Gf.bl_pos hm
      refine ⟨i ^^^ m * 2 ^ (Gf.bl i - Gf.bl m), less, t ||| 1 * 2 ^ (Gf.bl i - Gf.bl m), _, rfl, (((e.trans e3).trans e4).trans e5).trans e6, ?_, ?_, ?_, by omega⟩
      · rw [Nat.one_mul, or_bit (hbit _ (by omega)), ← hq, Gf.quo_go hm hy', Nat.xor_assoc]
      · rw [← hr', Gf.rem_go hm hy']
      · intro j hj
        rw [Nat.one_mul, Nat.testBit_or, hbit j (by omega), Nat.testBit_two_pow]
        simp only [Bool.false_or, decide_eq_false_iff_not]
        omega
    · have hy' : Gf.bl i < Gf.bl m := by have := of_decide_eq_false hy; rw [sz_nat] at this; omega
      rw [Gf.quo_end hy', Nat.xor_zero] at hq
      rw [Gf.rem_end hy'] at hr'
      subst hq hr'
      exact s_retU (eu_tup (ea_cons (ev_var rfl) (ea_cons (ev_var rfl) ea_nil)) (by show 2 ≤ 100000; decide)) fun p H4 hp e4 h4 => q p H4 (fresh_back (e.trans e3) hp) ((e.trans e3).trans e4) h4
abbrev spRest : Sp := spP a3 (fun x => (Ok x.1 x.2.1 ∧ Ok x.1 x.2.2) ∧ sz x.2.1 ≤ 100000 ∧ sz x.2.2 ≤ 8000) (fun x => .int (remM x.1 x.2.1 x.2.2))
theorem d_rest_by (D : Def K mg "rest_by" s_rest_by P_rest_by) (h_split_by : Has P w K mg base 1 "split_by" P_split_by spSplit) : Has P w K mg base 2 "rest_by" P_rest_by spRest := by
  refine D.hasP sc_rest_by (fun _ => rfl) (fun g cdv A out s H z Q E hr hp q => ?_)
  obtain ⟨k, a, b⟩ := z
  obtain ⟨⟨pa, pb⟩, ha, hb⟩ := hp
  refine ⟨_, (pss_cons (ps_if (pt_cmpR op_eq (pv 2) pe_int (nomark _)) (pss_one (ps_ret (pv 1))) pss_nil)
      (pss_one (ps_ret (pe_ix ix_tup (pe_h h_split_by hr (pa_cons (pv 0) (pa_cons (pv 1) (pa_cons (pv 2) pa_nil)))) pe_int (fun _ _ => rfl))))), ?_⟩
  refine q_when (et_test (ev_op (ev_var rfl) ev_c (rv_eq rfl))) (fun h H1 e1 => ?_) (fun h H1 e1 => ?_)
  · have hb0 : b = 0 := V.int.inj (of_decide_eq_true h)
    subst hb0
    refine s_ret (ev_is (ev_var rfl) ?_) fun H2 e2 => q H2 (e1.trans e2)
    cases k
    · show V.int a = V.int (if (0 : Int) = 0 then a else a.fmod 0); rw [if_pos rfl]
    · obtain ⟨n, rfl⟩ := pa.nn
      show V.int (n : Int) = V.int ((Gf.rem n 0 : Nat) : Int); rw [Gf.rem_zero]
  · have hb0 : b ≠ 0 := fun z => by subst z; exact absurd (decide_eq_true rfl) (by rw [h]; decide)
    exact s_ret (ev_ixU (eu_call (ea_cons (ev_var rfl) (ea_cons (ev_var rfl) (ea_cons (ev_var rfl) ea_nil))) (spu_U (k, a, b) ⟨⟨pa, hb0, pb⟩, ha, hb⟩)) ev_c rfl) fun H2 e2 => q H2 (e1.trans e2)
abbrev spFactor : Sp := spP a3 (fun x => (Ok x.1 x.2.1 ∧ Ok x.1 x.2.2) ∧ sz x.2.1 ≤ 100000 ∧ sz x.2.2 ≤ 8000) (fun x => .bl (decide (remM x.1 x.2.1 x.2.2 = 0)))
/-! ### what is asked of arguments -/
abbrev spKind : Sp := spP (fun k : Kd => [.str (ks k)]) (fun _ => True) (fun _ => .bl true)
theorem in_kinds : ∀ k : Kd, inV (.str (ks k)) [.str "hours", .str "bits"] = true
  | .H => by decide +kernel
  | .B => by decide +kernel
theorem d_is_kind {kd : Addr} (D : Def K mg "is_kind" s_is_kind P_is_kind) (z_isinstance : mg "isinstance" = none) (z_str : mg "str" = none) (m_KINDS : mg "KINDS" = some (.ref kd)) (hK : ∀ H, SqT K H kd [.str "hours", .str "bits"]) : Has P w K mg base 1 "is_kind" P_is_kind spKind := by
  refine D.hasP sc_is_kind (fun _ => rfl) (fun g cdv A out s H k Q E hr hp q => ?_)
  refine ⟨_, (pss_one (ps_ret (pe_and (pe_callB call_isi (by rfl) z_isinstance (by decide +kernel) (pa_cons (pv 0) (pa_cons (pe_bltn (v := .ty "str") (by rfl) z_str (by decide +kernel) rfl) pa_nil))) (pe_one (pe_cmpR op_in_seq (pv 0) (pe_glob (v := .ref _) (by rfl) m_KINDS rfl) (by rfl)))))), ?_⟩
  refine s_ret (ev_is (ev_andV (ev_cb (ea_cons (ev_var rfl) (ea_cons ev_c ea_nil)) (rc_isiS (b := true) (by decide +kernel))) fun _ => ev_op (ev_var rfl) ev_c (rv_isT (hK _) rfl (by decide +kernel))) ?_) fun H2 e2 => q H2 e2
  rw [in_kinds]; rfl
abbrev spWhole : Sp := spP (fun i : Int => [.int i]) (fun _ => True) (fun _ => .bl true)
theorem d_is_whole (D : Def K mg "is_whole" s_is_whole P_is_whole) (z_isinstance : mg "isinstance" = none) (z_int : mg "int" = none) (z_bool : mg "bool" = none) : Has P w K mg base 1 "is_whole" P_is_whole spWhole := by
  refine D.hasP sc_is_whole (fun _ => rfl) (fun g cdv A out s H i Q E hr hp q => ?_)
  refine ⟨_, (pss_one (ps_ret (pe_and (pe_callB call_isi (by rfl) z_isinstance (by decide +kernel) (pa_cons (pv 0) (pa_cons (pe_bltn (v := .ty "int") (by rfl) z_int (by decide +kernel) rfl) pa_nil))) (pe_one (pe_not (pe_callB call_isi (by rfl) z_isinstance (by decide +kernel) (pa_cons (pv 0) (pa_cons (pe_bltn (v := .ty "bool") (by rfl) z_bool (by decide +kernel) rfl) pa_nil)))))))), ?_⟩
  exact s_ret (ev_andV (b := true) (ev_cb (ea_cons (ev_var rfl) (ea_cons ev_c ea_nil)) (rc_isiI (b := true) (by decide +kernel))) fun _ => ev_notV (ev_cb (ea_cons (ev_var rfl) (ea_cons ev_c ea_nil)) (rc_isiI (b := false) (by decide +kernel)))) fun H2 e2 => q H2 e2
abbrev spCount : Sp := spP (fun i : Int => [.int i]) (fun _ => True) (fun i => .bl (decide (0 ≤ i)))
abbrev spNumber : Sp := spP (fun x : Kd × Int => [.str (ks x.1), .int x.2]) (fun x => Ok x.1 x.2) (fun _ => .bl true)
theorem d_is_number (D : Def K mg "is_number" s_is_number P_is_number) (h_is_whole : Has P w K mg base 1 "is_whole" P_is_whole spWhole) : Has P w K mg base 2 "is_number" P_is_number spNumber := by
  refine D.hasP sc_is_number (fun _ => rfl) (fun g cdv A out s H z Q E hr hp q => ?_)
  obtain ⟨k, i⟩ := z
  refine ⟨_, (pss_one (ps_ret (pe_and (pe_h h_is_whole hr (pa_cons (pv 1) pa_nil)) (pe_one (pe_or (pe_cmpR op_eq (pv 0) pe_str (nomark _)) (pe_one (pe_cmpR op_ge (pv 1) pe_int (nomark _)))))))), ?_⟩
  refine s_ret (ev_is (ev_andV (ev_call (ea_cons (ev_var rfl) ea_nil) (spv_P i trivial)) fun _ => ev_orV (ev_kind (ev_var rfl)) fun _ => ev_op (ev_var rfl) ev_c rv_I0) ?_) fun H2 e2 => q H2 e2
  cases k
  · rfl
  · have h : 0 ≤ i := hp
    show V.bl (true && (false || decide (0 ≤ i))) = V.bl true
    rw [decide_eq_true h]; rfl
abbrev spCheckKind : Sp := spP (fun k : Kd => [.str (ks k)]) (fun _ => True) (fun _ => .non)
theorem d_check_kind (D : Def K mg "check_kind" s_check_kind P_check_kind) (h_is_kind : Has P w K mg base 1 "is_kind" P_is_kind spKind) : Has P w K mg base 2 "check_kind" P_check_kind spCheckKind := by
  refine D.hasP sc_check_kind (fun _ => rfl) (fun g cdv A out s H k Q E hr hp q => ?_)
  refine ⟨_, (pss_one (ps_if (pt_not (pt_val (pe_h h_is_kind hr (pa_cons (pv 0) pa_nil)))) (pss_one ps_never) pss_nil)), ?_⟩
  exact s_when (et_not (et_B (ev_call (ea_cons (ev_var rfl) ea_nil) (spv_P k trivial)))) (fun h => by cases h) fun _ H1 e1 => q H1 e1
abbrev spCheckNumber : Sp := spP (fun x : Kd × Int => [.str (ks x.1), .int x.2]) (fun x => Ok x.1 x.2) (fun _ => .non)
theorem d_check_number (D : Def K mg "check_number" s_check_number P_check_number) (h_is_number : Has P w K mg base 2 "is_number" P_is_number spNumber) : Has P w K mg base 3 "check_number" P_check_number spCheckNumber := by
  refine D.hasP sc_check_number (fun _ => rfl) (fun g cdv A out s H z Q E hr hp q => ?_)
  obtain ⟨k, i⟩ := z
  refine ⟨_, (pss_one (ps_if (pt_not (pt_val (pe_h h_is_number hr (pa_cons (pv 0) (pa_cons (pv 1) pa_nil))))) (pss_one ps_never) pss_nil)), ?_⟩
  exact s_when (et_not (et_B (ev_call (ea_cons (ev_var rfl) (ea_cons (ev_var rfl) ea_nil)) (spv_P (k, i) hp)))) (fun h => by cases h) fun _ H1 e1 => q H1 e1
abbrev spCheckCount : Sp := spP (fun i : Int => [.int i]) (fun i => 0 ≤ i) (fun _ => .non)
abbrev Num2 (x : Kd × Int × Int) : Prop := Ok x.1 x.2.1 ∧ Ok x.1 x.2.2
abbrev spCheckTwo : Sp := spP a3 Num2 (fun _ => .non)
theorem d_check_two (D : Def K mg "check_two" s_check_two P_check_two) (h_check_kind : Has P w K mg base 2 "check_kind" P_check_kind spCheckKind) (h_check_number : Has P w K mg base 3 "check_number" P_check_number spCheckNumber) : Has P w K mg base 4 "check_two" P_check_two spCheckTwo := by
  refine D.hasP sc_check_two (fun _ => rfl) (fun g cdv A out s H z Q E hr hp q => ?_)
  obtain ⟨k, a, b⟩ := z
  refine ⟨_, (pss_cons (ps_expr (pe_h h_check_kind hr (pa_cons (pv 0) pa_nil)))
      (pss_cons (ps_expr (pe_h h_check_number hr (pa_cons (pv 0) (pa_cons (pv 1) pa_nil))))
      (pss_one (ps_expr (pe_h h_check_number hr (pa_cons (pv 0) (pa_cons (pv 2) pa_nil))))))), ?_⟩
  refine q_drop (ev_call (ea_cons (ev_var rfl) ea_nil) (spv_P k trivial)) fun H1 e1 => ?_
  refine q_drop (ev_call (ea_cons (ev_var rfl) (ea_cons (ev_var rfl) ea_nil)) (spv_P (k, a) hp.1)) fun H2 e2 => ?_
  exact s_drop (ev_call (ea_cons (ev_var rfl) (ea_cons (ev_var rfl) ea_nil)) (spv_P (k, b) hp.2)) fun H3 e3 => q H3 ((e1.trans e2).trans e3)
/-! ### the functions of numbers -/
theorem two_then {H : Hp} {σ : L2.St} {k : Kd} {a b : Int} {ta tb tc : TE} (h1 : Ev ta σ H (.str (ks k))) (h2 : Ev tb σ H (.int a)) (h3 : Ev tc σ H (.int b)) : EvA (tCons ta (tCons tb (tCons tc tNil))) σ H (a3 (k, a, b)) := ea_cons h1 (ea_cons h2 (ea_cons h3 ea_nil))
abbrev spQuotient : Sp := spP a3 (fun x => (Ok x.1 x.2.1 ∧ 0 < x.2.2) ∧ sz x.2.1 ≤ 100000 ∧ sz x.2.2 ≤ 8000) (fun x => .int (quoM x.1 x.2.1 x.2.2))
abbrev spRestN : Sp := spP a3 (fun x => (Ok x.1 x.2.1 ∧ 0 ≤ x.2.2) ∧ sz x.2.1 ≤ 100000 ∧ sz x.2.2 ≤ 8000) (fun x => .int (remM x.1 x.2.1 x.2.2))
/-! ### the same as values -/
section
variable {H : Hp} {k : Kd} {a b : Int}
theorem c_plus (k : Kd) (a b : Int) (ha : Ok k a) (hb : Ok k b) : SpV spPlus (a3 (k, a, b)) H (.int (plusM k a b)) := spv_P (k, a, b) ⟨ha, hb⟩
theorem c_minus (k : Kd) (a b : Int) (ha : Ok k a) (hb : Ok k b) : SpV spMinus (a3 (k, a, b)) H (.int (minusM k a b)) := spv_P (k, a, b) ⟨ha, hb⟩
theorem c_times (k : Kd) (a b : Int) (ha : Ok k a) (hb : Ok k b) (za : sz a ≤ 100000) (zb : sz b ≤ 100000) : SpV spTimes (a3 (k, a, b)) H (.int (timesM k a b)) := spv_P (k, a, b) ⟨⟨ha, hb⟩, za, zb⟩
theorem c_quot (k : Kd) (a b : Int) (ha : Ok k a) (hb : 0 < b) (za : sz a ≤ 100000) (zb : sz b ≤ 8000) : SpV spQuotient (a3 (k, a, b)) H (.int (quoM k a b)) := spv_P (k, a, b) ⟨⟨ha, hb⟩, za, zb⟩
theorem c_rest (k : Kd) (a b : Int) (ha : Ok k a) (hb : 0 ≤ b) (za : sz a ≤ 100000) (zb : sz b ≤ 8000) : SpV spRestN (a3 (k, a, b)) H (.int (remM k a b)) := spv_P (k, a, b) ⟨⟨ha, hb⟩, za, zb⟩
theorem c_restby (k : Kd) (a b : Int) (ha : Ok k a) (hb : Ok k b) (za : sz a ≤ 100000) (zb : sz b ≤ 8000) : SpV spRest (a3 (k, a, b)) H (.int (remM k a b)) := spv_P (k, a, b) ⟨⟨ha, hb⟩, za, zb⟩
theorem c_factor (k : Kd) (a b : Int) (ha : Ok k a) (hb : Ok k b) (za : sz a ≤ 100000) (zb : sz b ≤ 8000) : SpV spFactor (a3 (k, a, b)) H (.bl (decide (remM k a b = 0))) := spv_P (k, a, b) ⟨⟨ha, hb⟩, za, zb⟩
end
/-! ### the law's own helpers: drawn numbers -/
def hashM (a b : Int) : Int :=
  let m := (a * 1140671 + 27644437 * b * b + 131 * b + 19) % 2147483629
  let m := (m * m + 62089 * b + 32416187) % 2147483587
  (m * 48271) % 2147483647
theorem hashM_b (a b : Int) : 0 ≤ hashM a b ∧ hashM a b < 2147483647 := ⟨Int.emod_nonneg _ (by decide), Int.emod_lt_of_pos _ (by decide)⟩
theorem sz_lt31 {a : Int} (h0 : 0 ≤ a) (h : a < 2147483648) : sz a ≤ 31 := by rw [sz_le]; omega
theorem sz_c {a : Int} {n : Nat} (h : a.natAbs < 2 ^ n) : sz a ≤ n := sz_le.mpr h
abbrev spHash : Sp := spP (fun x : Int × Int => [.int x.1, .int x.2]) (fun x => sz x.1 ≤ 1000 ∧ sz x.2 ≤ 1000) (fun x => .int (hashM x.1 x.2))
theorem d_law_hash (D : Def K mg "_law_hash" s_law_hash P_law_hash) (z_int : mg "int" = none) : Has P w K mg base 1 "_law_hash" P_law_hash spHash := by
  refine D.hasP sc_law_hash (fun _ => rfl) (fun g cdv A out s H z Q E hr hp q => ?_)
  obtain ⟨a, b⟩ := z
  obtain ⟨ha, hb⟩ := hp
  have ha' : sz a ≤ 1000 := ha
  have hb' : sz b ≤ 1000 := hb
  have c1 : sz 1140671 ≤ 21 := by decide +kernel
  have c2 : sz 27644437 ≤ 25 := by decide +kernel
  have c3 : sz 131 ≤ 8 := by decide +kernel
  have c4 : sz 62089 ≤ 16 := by decide +kernel
  have c5 : sz 48271 ≤ 16 := by decide +kernel
  have m1 := sz_mul 27644437 b
  refine ⟨_, (pss_cons (ps_set (i := 2) sc_law_hash.nd rfl (.inl rfl) (pe_op op_mod (pe_callTy call_int1 (by rfl) z_int (by decide +kernel) (pa_cons (pe_op op_add (pe_op op_add (pe_op op_add (pe_op op_mulX (pv 0) pe_int) (pe_op op_mulX (pe_op op_mulX pe_int (pv 1)) (pv 1))) (pe_op op_mulX pe_int (pv 1))) pe_int) pa_nil)) pe_int))
      (pss_cons (ps_set (i := 2) sc_law_hash.nd rfl (.inl rfl) (pe_op op_mod (pe_callTy call_int1 (by rfl) z_int (by decide +kernel) (pa_cons (pe_op op_add (pe_op op_add (pe_op op_mulX (pv 2) (pv 2)) (pe_op op_mulX pe_int (pv 1))) pe_int) pa_nil)) pe_int))
      (pss_one (ps_ret (pe_op op_mod (pe_callTy call_int1 (by rfl) z_int (by decide +kernel) (pa_cons (pe_op op_mulX (pv 2) pe_int) pa_nil)) pe_int))))), ?_⟩
  refine q_asg (ev_op (ev_cb (ea_cons (ev_op (ev_op (ev_op (ev_op (ev_var (v := .int a) rfl) ev_c (rv_I (cmul_ok (by omega)))) (ev_op (ev_op ev_c (ev_var (v := .int b) rfl) (rv_I (cmul_ok (by omega)))) (ev_var (v := .int b) rfl) (rv_I (cmul_ok (by omega)))) rv_I0) (ev_op ev_c (ev_var (v := .int b) rfl) (rv_I (cmul_ok (by omega)))) rv_I0) ev_c rv_I0) ea_nil) rc_int) ev_c (rv_I (by show (0 : Int) < 2147483629; decide))) fun H1 e1 => ?_
  have s1 := sz_lt31 (Int.emod_nonneg (a * 1140671 + 27644437 * b * b + 131 * b + 19) (by decide : (2147483629 : Int) ≠ 0)) (Int.lt_trans (Int.emod_lt_of_pos _ (by decide : (0 : Int) < 2147483629)) (by decide))
  refine q_asg (ev_op (ev_cb (ea_cons (ev_op (ev_op (ev_op (ev_var (v := .int ((a * 1140671 + 27644437 * b * b + 131 * b + 19) % 2147483629)) rfl) (ev_var (v := .int ((a * 1140671 + 27644437 * b * b + 131 * b + 19) % 2147483629)) rfl) (rv_I (cmul_ok (by omega)))) (ev_op ev_c (ev_var (v := .int b) rfl) (rv_I (cmul_ok (by omega)))) rv_I0) ev_c rv_I0) ea_nil) rc_int) ev_c (rv_I (by show (0 : Int) < 2147483587; decide))) fun H2 e2 => ?_
  have s2 := sz_lt31 (Int.emod_nonneg ((a * 1140671 + 27644437 * b * b + 131 * b + 19) % 2147483629 * ((a * 1140671 + 27644437 * b * b + 131 * b + 19) % 2147483629) + 62089 * b + 32416187) (by decide : (2147483587 : Int) ≠ 0)) (Int.lt_trans (Int.emod_lt_of_pos _ (by decide : (0 : Int) < 2147483587)) (by decide))
  exact s_ret (ev_op (ev_cb (ea_cons (ev_op (ev_var (v := .int ((((a * 1140671 + 27644437 * b * b + 131 * b + 19) % 2147483629) * ((a * 1140671 + 27644437 * b * b + 131 * b + 19) % 2147483629) + 62089 * b + 32416187) % 2147483587)) rfl) ev_c (rv_I (cmul_ok (by omega)))) ea_nil) rc_int) ev_c (rv_I (by show (0 : Int) < 2147483647; decide))) fun H3 e3 => q H3 ((e1.trans e2).trans e3)
/-- the generator's list stands at a, with at most n turns behind it -/
structure GenAt (H : Hp) (a : Addr) (n : Nat) : Prop where
  ex : ∃ s0 s1 s2 : Int, H a = some (.lst [.int s0, .int s1, .int s2]) ∧ 0 ≤ s0 ∧ sz s0 ≤ 2100 ∧ 0 ≤ s1 ∧ s1 < 2147483647 ∧ 0 ≤ s2 ∧ s2 ≤ n
/-- all but what stands at a is as it was -/
def Keep (a : Addr) (H H' : Hp) : Prop := ∀ c o, H c = some o → c ≠ a → H' c = some o
theorem Keep.refl (a : Addr) (H : Hp) : Keep a H H := fun _ _ h _ => h
theorem Keep.trans {a : Addr} {H H1 H2 : Hp} (x : Keep a H H1) (y : Keep a H1 H2) : Keep a H H2 := fun c o h n => y c o (x c o h n) n
theorem Keep.of {a : Addr} {H H' : Hp} (e : Evl.Ex H H') : Keep a H H' := fun c o h _ => e c o h
theorem Keep.put {a : Addr} {H : Hp} {o : HO} : Keep a H (upd H a o) := fun c u h n => by rw [upd_ne n]; exact h
theorem GenAt.ex_of {H H' : Hp} {a : Addr} {n : Nat} (g : GenAt H a n) (e : Evl.Ex H H') : GenAt H' a n := by
  obtain ⟨s0, s1, s2, h, r⟩ := g.ex
  exact ⟨s0, s1, s2, e _ _ h, r⟩
theorem GenAt.mono {H : Hp} {a : Addr} {n m : Nat} (g : GenAt H a n) (l : n ≤ m) : GenAt H a m := by
  obtain ⟨s0, s1, s2, h, r0, r1, r2, r3, r4, r5⟩ := g.ex
  exact ⟨s0, s1, s2, h, r0, r1, r2, r3, r4, by omega⟩
def spRandom : Sp := fun vs H Q _ => ∃ (a : Addr) (b : Int) (n : Nat), vs = [.ref a, .int b] ∧ GenAt H a n ∧ 0 < b ∧ sz b ≤ 2000 ∧ n ≤ 1000000000 ∧
  ∀ (z : Int) (H' : Hp), 0 ≤ z → z < b → GenAt H' a (n + 100) → Keep a H H' → Q (.int z) H'
theorem sz_ediv {a b : Int} (ha : 0 ≤ a) (hb : 0 < b) : sz (a / b) ≤ sz a := by
  refine sz_mono ?_
  have h1 := Int.ediv_nonneg ha (Int.le_of_lt hb)
  have h2 := Int.ediv_le_self b ha
  omega
/-- a def that is told by its own promise -/
theorem Def.hasS {k : Nat} {x : Str} {ps N : List Str} {st : Stmt} {sp : Sp} (D : Def K mg x st ps) (S : FnScope N ps (defScope st)) (hl : ∀ vs H Q E, sp vs H Q E → vs.length = ps.length)
    (hbody : ∀ (g : Addr) (cdv : Value) (A : Around) (out : List Env) (s : Shared) (H : Hp) (vs : List V) (Q : VK) (E : XK), Rm k (A.deeper (envOfC x (defScope st) s.heap.objs.size g cdv)) → sp vs H Q E →
      ∃ t, PSs (cxOf CX0 P w K mg base N x (defScope st) g cdv A out s H E).nox (defBody st) t ∧ t { nx := fun _ H' => Q .non H', rt := Q } (start N vs) H) :
    Has P w K mg base (k + 1) x ps sp := by
  obtain ⟨g, fd, a, F, c⟩ := D.ex
  exact ⟨g, fd, a, F.kp, c, okq F S hl fun cdv A out s H vs Q E hr h => hbody g cdv A out s H vs Q E hr h⟩
theorem d_law_random (D : Def K mg "_law_random" s_law_random P_law_random) (h_law_hash : Has P w K mg base 1 "_law_hash" P_law_hash spHash) (z_int : mg "int" = none) (z_range : mg "range" = none) :
    Has P w K mg base 2 "_law_random" P_law_random spRandom := by
  refine D.hasS sc_law_random (by rintro _ _ _ _ ⟨a, b, n, rfl, _⟩; rfl) (fun g cdv A out s H vs Q E hr h => ?_)
  obtain ⟨a, b, n, rfl, G, hb, hbz, hn, q⟩ := h
  obtain ⟨s0, s1, s2, ha, h0, hz0, h1, h1', h2, h2'⟩ := G.ex
  refine ⟨_, (pss_cons (ps_if (pt_cmpR op_gt (pe_ix ix_list (pv 0) pe_int (fun _ _ => rfl)) pe_int (nomark _)) (pss_cons (ps_set (i := 2) sc_law_random.nd rfl (.inl rfl) (pe_op op_mod (pe_callTy call_int1 (by rfl) z_int (by decide +kernel) (pa_cons (pe_ix ix_list (pv 0) pe_int (fun _ _ => rfl)) pa_nil)) (pv 1)))
      (pss_cons (ps_asg (pe_op op_fdivW (pe_ix ix_list (pv 0) pe_int (fun _ _ => rfl)) (pv 1)) (pg_sub (pv 0) pe_int set_list))
      (pss_one (ps_ret (pv 2))))) pss_nil)
      (pss_cons (ps_set (i := 2) sc_law_random.nd rfl (.inl rfl) pe_int)
      (pss_cons (ps_for PassesOwn.never rfl (pi_range1 (by rfl) z_range (pa_cons (pe_op op_add pe_int (pe_op op_fdivW (pe_bits (pv 1)) pe_int)) pa_nil)) (pg_name (i := 3) sc_law_random.nd rfl (.inl rfl)) (pss_cons (ps_asg (pe_op op_add (pe_ix ix_list (pv 0) pe_int (fun _ _ => rfl)) pe_int) (pg_sub (pv 0) pe_int set_list))
      (pss_one (ps_set (i := 2) sc_law_random.nd rfl (.inl rfl) (pe_op op_add (pe_op op_mulX (pv 2) pe_int) (pe_h h_law_hash hr (pa_cons (pe_ix ix_list (pv 0) pe_int (fun _ _ => rfl)) (pa_cons (pe_ix ix_list (pv 0) pe_int (fun _ _ => rfl)) pa_nil))))))))
      (pss_one (ps_ret (pe_op op_mod (pe_callTy call_int1 (by rfl) z_int (by decide +kernel) (pa_cons (pv 2) pa_nil)) (pv 1))))))), ?_⟩
  have L : SqL K H a [.int s0, .int s1, .int s2] := sq_of ha
  refine q_when (et_test (ev_op (ev_op (ev_var rfl) ev_c (rv_ixL L rfl)) ev_c rv_I0)) (fun h H1 e1 => ?_) (fun h H1 e1 => ?_)
  · have L1 := ex_l e1 L
    have hbz' : sz b < 9000 := by omega
    refine q_asg (ev_op (ev_cb (ea_cons (ev_op (ev_var rfl) ev_c (rv_ixL L1 rfl)) ea_nil) rc_int) (ev_var rfl) (rv_I hb)) fun H2 e2 => ?_
    have L2' := ex_l e2 L1
    refine q_setL (j := 0) (e2 _ _ (e1 _ _ ha)) (ev_op (ev_op (ev_var rfl) ev_c (rv_ixL L2' rfl)) (ev_var rfl) (rv_I (cdiv_ok hb hbz'))) (ev_var rfl) (ev_is ev_c rfl) (by show 0 < 3; decide) fun H3 e3 => ?_
    refine s_ret (ev_var rfl) fun H4 e4 => ?_
    refine q _ H4 (Int.emod_nonneg _ (by omega)) (Int.emod_lt_of_pos _ hb) ⟨s0 / b, s1, s2, e4 _ _ upd_same, Int.ediv_nonneg h0 (by omega), Nat.le_trans (sz_ediv h0 hb) hz0, h1, h1', h2, by omega⟩ ?_
    exact ((Keep.of ((e1.trans e2).trans e3)).trans Keep.put).trans (Keep.of e4)
  · refine q_asg ev_c fun H2 e2 => ?_
    have hk : (sz b : Int) / 30 ≤ 66 := by omega
    have hk0 : 0 ≤ (sz b : Int) / 30 := by omega
    refine q_forR1 (n := 1 + (sz b : Int) / 30) (ea_cons (ev_op ev_c (ev_op (ev_bits (ev_var rfl)) ev_c (rv_I (cdiv_ok (by decide) (by decide +kernel)))) rv_I0) ea_nil) (by omega)
      (fun i σ' H' => ∃ (d t2 : Int) (y : Option V), σ' = [some (.ref a), some (.int b), some (.int d), y] ∧ H' a = some (.lst [.int s0, .int s1, .int t2]) ∧ Keep a H H' ∧ 0 ≤ d ∧ sz d ≤ 32 * i ∧ 0 ≤ t2 ∧ t2 ≤ n + i)
      (fun H3 e3 => ⟨0, s2, none, rfl, e3 _ _ (e2 _ _ (e1 _ _ ha)), Keep.of ((e1.trans e2).trans e3), Int.le_refl 0, by rw [sz_zero]; omega, h2, by omega⟩) ?_ ?_
    · rintro i σ' H' hi ⟨d, t2, y, rfl, ha', kp, hd, hdz, ht0, ht⟩
      have M : SqL K H' a [.int s0, .int s1, .int t2] := sq_of ha'
      refine q_setL (j := 2) ha' (ev_op (ev_op (ev_var rfl) (ev_is ev_c rfl) (rv_ixL (i := 2) M rfl)) ev_c rv_I0) (ev_var rfl) (ev_is ev_c rfl) (by show 2 < 3; decide) fun H4 e4 => ?_
      have M4 : SqL K (upd H4 a (.lst ([.int s0, .int s1, .int t2].set 2 (.int (t2 + 1))))) a [.int s0, .int s1, .int (t2 + 1)] := sq_of upd_same
      have c1 : sz 2147483587 ≤ 31 := by decide +kernel
      have zs1 : sz s1 ≤ 1000 := Nat.le_trans (sz_lt31 h1 (by omega)) (by decide)
      have zt : sz (t2 + 1) ≤ 1000 := Nat.le_trans (sz_c (n := 31) (by omega)) (by decide)
      refine s_asg (ev_op (ev_op (ev_var rfl) ev_c (rv_I (cmul_ok (by omega)))) (ev_call (ea_cons (ev_op (ev_var rfl) ev_c (rv_ixL (i := 1) M4 rfl)) (ea_cons (ev_op (ev_var rfl) ev_c (rv_ixL (i := 2) M4 rfl)) ea_nil)) (spv_P (s1, t2 + 1) ⟨zs1, zt⟩)) rv_I0) fun H5 e5 => ?_
      have hh := hashM_b s1 (t2 + 1)
      have hx : hashM (s1, t2 + 1).fst (s1, t2 + 1).snd = hashM s1 (t2 + 1) := rfl
      refine ⟨_, t2 + 1, _, rfl, e5 _ _ upd_same, ((kp.trans (Keep.of e4)).trans Keep.put).trans (Keep.of e5), ?_, ?_, by omega, by omega⟩
      · have := Int.mul_nonneg hd (by decide : (0 : Int) ≤ 2147483587)
        rw [hx]; omega
      · have m := sz_mul d 2147483587
        have := sz_add (a := d * 2147483587) (b := hashM s1 (t2 + 1)) (n := 32 * i + 31) (by omega) (Nat.le_trans (sz_lt31 hh.1 (by omega)) (by omega))
        show sz (d * 2147483587 + hashM s1 (t2 + 1)) ≤ 32 * (i + 1)
        omega
    · rintro σ' H' ⟨d, t2, y, rfl, ha', kp, hd, hdz, ht0, ht⟩
      refine s_ret (ev_op (ev_cb (ea_cons (ev_var rfl) ea_nil) rc_int) (ev_var rfl) (rv_I hb)) fun H4 e4 => ?_
      exact q _ H4 (Int.emod_nonneg _ (by omega)) (Int.emod_lt_of_pos _ hb) ⟨s0, s1, t2, e4 _ _ ha', h0, hz0, h1, h1', ht0, by omega⟩ (kp.trans (Keep.of e4))
def spCell : Sp := fun vs H Q _ => ∃ (a : Addr) (ns : List Int) (i : Nat), vs = [.ref a, .int (i : Int)] ∧ SqL K H a (ns.map V.int) ∧ ∀ (z : Int) (H' : Hp), Evl.Ex H H' → Q (.int z) H'
theorem ints_cut (ns : List Int) : ∃ ms : List Int, cutV (ns.map V.int) none (some 1) = ms.map V.int := by
  refine ⟨List.take (HT.sIx ns.length ns.length (some 1) - HT.sIx ns.length 0 none) (List.drop (HT.sIx ns.length 0 none) ns), ?_⟩
  unfold cutV
  rw [← List.map_drop, ← List.map_take, List.length_map]
theorem d_law_cell (D : Def K mg "_law_cell" s_law_cell P_law_cell) (z_len : mg "len" = none) (z_sum : mg "sum" = none) : Has P w K mg base 1 "_law_cell" P_law_cell (spCell (K := K)) := by
  refine D.hasS sc_law_cell (by rintro _ _ _ _ ⟨a, ns, i, rfl, _⟩; rfl) (fun g cdv A out s H vs Q E hr h => ?_)
  obtain ⟨a, ns, i, rfl, hS, q⟩ := h
  refine ⟨_, (pss_cons (ps_if (pt_cmpR op_lt (pv 1) (pe_callB call_len_seq (by rfl) z_len (by decide +kernel) (pa_cons (pv 0) pa_nil)) (nomark _)) (pss_one (ps_ret (pe_ix ix_list (pv 0) (pv 1) (fun _ _ => rfl)))) pss_nil)
      (pss_one (ps_ret (pe_op op_mod (pe_callB (cr_sum rfl) (by rfl) z_sum (by decide +kernel) (pa_cons (pe_slice sl_list (pv 0) po_none (po_some pe_int)) pa_nil)) pe_int)))), ?_⟩
  refine q_when (et_test (ev_op (ev_var rfl) (ev_cb (ea_cons (ev_var rfl) ea_nil) (fun H1 e _ q => ⟨a, ns.map V.int, rfl, .inl (ex_l e hS), q H1 (Evl.Ex.refl H1)⟩)) rv_I0)) (fun h H1 e1 => ?_) (fun h H1 e1 => ?_)
  · have hi : i < ns.length := by
      have := of_decide_eq_true h
      rw [List.length_map] at this; omega
    refine s_ret (ev_op (ev_var rfl) (ev_var rfl) (rv_ixL (ex_l e1 hS) (atI_nat (j := i) (by rw [List.getElem?_map, List.getElem?_eq_getElem hi]; rfl)))) fun H2 e2 => q _ H2 (e1.trans e2)
  · obtain ⟨ms, hm⟩ := ints_cut ns
    have hL := el_sl (K := K) (σ := start N_law_cell [.ref a, .int (i : Int)]) (ev_var (i := 0) rfl) eo_none (eo_some (ev_c (v := .int 1))) (ex_l e1 hS)
    rw [hm] at hL
    have hs : Ev (tCB (rSum K) (tCons (tSl (rSlL K) (tVar 0) tNoPart (tPart (tC (.int 1)))) tNil)) (start N_law_cell [.ref a, .int (i : Int)]) H1 (.int ms.sum) := fun H2 e Q' q' => hL H2 e _ fun p H3 hp e3 h3 => ⟨p, ms, rfl, sq_of h3, q' H3 e3⟩
    exact s_ret (ev_op hs ev_c (rv_I (by show (0 : Int) < 1000003; decide))) fun H2 e2 => q _ H2 (e1.trans e2)
def seedB : Int := ((10 : Int) ^ (60 : Int).toNat) ^ (10 : Int).toNat
theorem seedB_pos : 0 < seedB := by decide +kernel
theorem seedB_sz : sz seedB ≤ 2100 := by decide +kernel
def spGen : Sp := fun vs H Q _ => ∃ (a : Addr) (ns : List Int) (i : Nat), vs = [.ref a, .int (i : Int)] ∧ SqL K H a (ns.map V.int) ∧ i ≤ 63 ∧ ∀ (p : Addr) (H' : Hp), H p = none → Evl.Ex H H' → GenAt H' p 100000 → Q (.ref p) H'
theorem d_law_generator (D : Def K mg "_law_generator" s_law_generator P_law_generator) (h_law_cell : Has P w K mg base 1 "_law_cell" P_law_cell (spCell (K := K))) (z_int : mg "int" = none) (z_max : mg "max" = none) :
    Has P w K mg base 2 "_law_generator" P_law_generator (spGen (K := K)) := by
  refine D.hasS sc_law_generator (by rintro _ _ _ _ ⟨a, ns, i, rfl, _⟩; rfl) (fun g cdv A out s H vs Q E hr h => ?_)
  obtain ⟨a, ns, i, rfl, hS, hi, q⟩ := h
  refine ⟨_, (pss_cons (ps_set (i := 2) sc_law_generator.nd rfl (.inl rfl) (pe_h h_law_cell hr (pa_cons (pv 0) (pa_cons (pv 1) pa_nil))))
      (pss_one (ps_ret (pe_lst (pa_cons (pe_op op_mod (pe_callTy call_int1 (by rfl) z_int (by decide +kernel) (pa_cons (pe_callB (call_max2 rfl) (by rfl) z_max (by decide +kernel) (pa_cons (pe_op op_sub (pv 2) (pe_op op_powX pe_int pe_int)) (pa_cons pe_int pa_nil))) pa_nil)) (pe_op op_powX (pe_op op_powX pe_int pe_int) pe_int)) (pa_cons (pe_op op_mod (pe_callTy call_int1 (by rfl) z_int (by decide +kernel) (pa_cons (pv 2) pa_nil)) pe_int) (pa_cons (pe_op op_mulX pe_int (pv 1)) pa_nil))))))), ?_⟩
  refine ⟨_, rfl, _, rfl, a, ns, i, rfl, hS, fun z H1 e1 => ?_⟩
  have hi' : sz (i : Int) ≤ 10 := sz_c (by omega)
  have c1 : sz 1000 ≤ 10 := by decide +kernel
  refine s_retL (el_lst (ea_cons (ev_op (ev_cb (ea_cons (ev_max2 (ev_op (ev_var rfl) (ev_op ev_c ev_c (rv_I (by constructor <;> decide +kernel))) rv_I0) ev_c) ea_nil) rc_int) (ev_op (ev_op ev_c ev_c (rv_I (by constructor <;> decide +kernel))) ev_c (rv_I (by constructor <;> decide +kernel))) (rv_I seedB_pos))
    (ea_cons (ev_op (ev_cb (ea_cons (ev_var rfl) ea_nil) rc_int) ev_c (rv_I (by show (0 : Int) < 2147483647; decide))) (ea_cons (ev_op (ev_c (v := .int 1000)) (ev_var (v := .int (i : Int)) rfl) (rv_I (cmul_ok (by omega)))) ea_nil))) (by show 3 ≤ 100000; decide)) fun p H2 hp e2 h2 => ?_
  refine q p H2 (fresh_back e1 hp) (e1.trans e2) ⟨_, _, _, h2, Int.emod_nonneg _ (show seedB ≠ 0 by have := seedB_pos; omega), ?_, Int.emod_nonneg _ (by decide), Int.emod_lt_of_pos _ (by decide), by omega, by omega⟩
  refine Nat.le_trans (sz_mono ?_) seedB_sz
  have h1 := Int.emod_nonneg (if 0 > z - (10 : Int) ^ (18 : Int).toNat then 0 else z - (10 : Int) ^ (18 : Int).toNat) (show seedB ≠ 0 by have := seedB_pos; omega)
  have h2' := Int.emod_lt_of_pos (if 0 > z - (10 : Int) ^ (18 : Int).toNat then 0 else z - (10 : Int) ^ (18 : Int).toNat) seedB_pos
  show ((if 0 > z - (10 : Int) ^ (18 : Int).toNat then 0 else z - (10 : Int) ^ (18 : Int).toNat) % seedB).natAbs ≤ seedB.natAbs
  omega
/-! ### the law's own arithmetic -/
theorem d_law_add (D : Def K mg "_law_add" s_law_add P_law_add) : Has P w K mg base 1 "_law_add" P_law_add spPlus := by
  refine D.hasP sc_law_add (fun _ => rfl) (fun g cdv A out s H z Q E hr hp q => ?_)
  obtain ⟨k, a, b⟩ := z
  refine ⟨_, (pss_one (ps_ret (pe_ifExp (pt_cmpR op_eq (pv 0) pe_str (nomark _)) (pe_op op_add (pv 1) (pv 2)) (pe_op op_xorN (pv 1) (pv 2))))), ?_⟩
  refine s_ret (ev_if (et_kind (ev_var rfl)) (fun h => ?_) (fun h => ?_)) fun H2 e2 => q H2 e2
  · cases k <;> cases h
    exact ev_op (ev_var rfl) (ev_var rfl) rv_I0
  · cases k <;> cases h
    obtain ⟨n, rfl⟩ := hp.1.nn
    obtain ⟨m, rfl⟩ := hp.2.nn
    exact ev_op (ev_var rfl) (ev_var rfl) rv_xorN
theorem d_law_less (D : Def K mg "_law_less" s_law_less P_law_less) : Has P w K mg base 1 "_law_less" P_law_less spMinus := by
  refine D.hasP sc_law_less (fun _ => rfl) (fun g cdv A out s H z Q E hr hp q => ?_)
  obtain ⟨k, a, b⟩ := z
  refine ⟨_, (pss_one (ps_ret (pe_ifExp (pt_cmpR op_eq (pv 0) pe_str (nomark _)) (pe_op op_sub (pv 1) (pv 2)) (pe_op op_xorN (pv 1) (pv 2))))), ?_⟩
  refine s_ret (ev_if (et_kind (ev_var rfl)) (fun h => ?_) (fun h => ?_)) fun H2 e2 => q H2 e2
  · cases k <;> cases h
    exact ev_op (ev_var rfl) (ev_var rfl) rv_I0
  · cases k <;> cases h
    obtain ⟨n, rfl⟩ := hp.1.nn
    obtain ⟨m, rfl⟩ := hp.2.nn
    exact ev_op (ev_var rfl) (ev_var rfl) rv_xorN
theorem rv_shrNN {H : Hp} {n k : Nat} : RV (fun x y H Q => ∃ (i : Int) (k : Nat), x = .int i ∧ y = .int (k : Int) ∧ Q (.int (i / 2 ^ k)) H) (.int (n : Int)) (.int (k : Int)) H (.int ((n / 2 ^ k : Nat) : Int)) :=
  fun H1 _ Q q => ⟨n, k, rfl, rfl, by
    have e : ((n : Int) / 2 ^ k : Int) = ((n / 2 ^ k : Nat) : Int) := by
      rw [Int.natCast_ediv, Int.natCast_pow]; rfl
    rw [e]; exact q H1 (Evl.Ex.refl H1)⟩
theorem mul_from {x y i : Nat} : Gf.mul (x * 2 ^ i) (y / 2 ^ i) = (if (y / 2 ^ i) % 2 = 1 then x * 2 ^ i else 0) ^^^ Gf.mul (x * 2 ^ (i + 1)) (y / 2 ^ (i + 1)) := by
  have e : 2 * (x * 2 ^ i) = x * 2 ^ (i + 1) := by rw [Nat.pow_succ]; ac_rfl
  rw [Gf.mul_step, ← Gf.double_mul, Nat.div_div_eq_div_mul, e, ← Nat.pow_succ]
theorem d_law_times (D : Def K mg "_law_times" s_law_times P_law_times) (z_int : mg "int" = none) (z_range : mg "range" = none) : Has P w K mg base 1 "_law_times" P_law_times spTimes := by
  refine D.hasP sc_law_times (fun _ => rfl) (fun g cdv A out s H z Q E hr hp q => ?_)
  obtain ⟨k, a, b⟩ := z
  obtain ⟨hp, ha, hb⟩ := hp
  refine ⟨_, (pss_cons (ps_if (pt_cmpR op_eq (pv 0) pe_str (nomark _)) (pss_one (ps_ret (pe_op op_mulX (pv 1) (pv 2)))) pss_nil)
      (pss_cons (ps_set (i := 3) sc_law_times.nd rfl (.inl rfl) pe_int)
      (pss_cons (ps_for PassesOwn.never rfl (pi_range1 (by rfl) z_range (pa_cons (pe_bits (pe_callTy call_int1 (by rfl) z_int (by decide +kernel) (pa_cons (pv 2) pa_nil))) pa_nil)) (pg_name (i := 4) sc_law_times.nd rfl (.inl rfl)) (pss_one (ps_if (pt_cmpR op_eq (pe_op op_odd (pe_op op_shrN (pe_callTy call_int1 (by rfl) z_int (by decide +kernel) (pa_cons (pv 2) pa_nil)) (pv 4)) pe_int) pe_int (nomark _)) (pss_one (ps_set (i := 3) sc_law_times.nd rfl (.inl rfl) (pe_op op_xorN (pv 3) (pe_op op_shlNN (pv 1) (pv 4))))) pss_nil)))
      (pss_one (ps_ret (pv 3)))))), ?_⟩
  refine q_when (et_kind (ev_var rfl)) (fun h H1 e1 => ?_) (fun h H1 e1 => ?_)
  · cases k <;> cases h
    exact s_ret (ev_op (ev_var rfl) (ev_var rfl) (rv_I (cmul_ok (by have : sz a ≤ 100000 := ha; have : sz b ≤ 100000 := hb; omega)))) fun H2 e2 => q H2 (e1.trans e2)
  · cases k <;> cases h
    obtain ⟨n, rfl⟩ := hp.1.nn
    obtain ⟨m, rfl⟩ := hp.2.nn
    have hn : Gf.bl n ≤ 100000 := ha
    have hm : Gf.bl m ≤ 100000 := hb
    refine q_asg ev_c fun H2 e2 => ?_
    refine q_forR1 (n := ((Gf.bl m : Nat) : Int)) (ea_cons (ev_bits (i := (m : Int)) (ev_cb (ea_cons (ev_var rfl) ea_nil) rc_int)) ea_nil) (by omega)
      (fun i σ' H' => ∃ (t : Nat) (y : Option V), σ' = [some (.str (ks .B)), some (.int (n : Int)), some (.int (m : Int)), some (.int (t : Int)), y] ∧ Evl.Ex H H' ∧ t ^^^ Gf.mul (n * 2 ^ i) (m / 2 ^ i) = Gf.mul n m)
      (fun H3 e3 => ⟨0, none, rfl, (e1.trans e2).trans e3, by rw [Nat.pow_zero, Nat.mul_one, Nat.div_one, Nat.zero_xor]⟩) ?_ ?_
    · rintro i σ' H' hi ⟨t, y, rfl, e, hq⟩
      have l1 := log_bl n
      rw [mul_from] at hq
      have T : EvT (tTest (tOp rEq (tOp (fun x y H Q => ∃ n : Nat, x = .int (n : Int) ∧ y = .int 1 ∧ Q (.int ((n % 2 : Nat) : Int)) H) (tOp (fun x y H Q => ∃ (i : Int) (k : Nat), x = .int i ∧ y = .int (k : Int) ∧ Q (.int (i / 2 ^ k)) H) (tCB (fun xs H Q => (∃ i, xs = [.int i] ∧ Q (.int i) H) ∨ ∃ k, xs = [.bl k] ∧ Q (.int (if k then 1 else 0)) H) (tCons (tVar 2) tNil)) (tVar 4)) (tC (.int 1))) (tC (.int 1)))) [some (.str (ks .B)), some (.int (n : Int)), some (.int (m : Int)), some (.int (t : Int)), some (.int (i : Int))] H' (decide (V.int ((m / 2 ^ i % 2 : Nat) : Int) = V.int 1)) :=
        et_test (ev_op (ev_op (ev_op (ev_cb (ea_cons (ev_var rfl) ea_nil) rc_int) (ev_var rfl) rv_shrNN) ev_c rv_odd) ev_c (rv_eq rfl))
      refine s_when T (fun h H3 e3 => ?_) (fun h H3 e3 => ?_)
      · have h1 : m / 2 ^ i % 2 = 1 := by have := V.int.inj (of_decide_eq_true h); omega
        refine s_asg (ev_op (ev_var rfl) (ev_op (ev_var rfl) (ev_var rfl) (rv_shlN (k := i) (by omega) (by omega))) rv_xorN) fun H4 e4 => ?_
        refine ⟨t ^^^ n * 2 ^ i, _, rfl, (e.trans e3).trans e4, ?_⟩
        rw [if_pos h1, ← Nat.xor_assoc] at hq
        exact hq
      · have h1 : ¬ m / 2 ^ i % 2 = 1 := fun z => by rw [z] at h; cases h
        rw [if_neg h1, Nat.zero_xor] at hq
        exact ⟨t, _, rfl, e.trans e3, hq⟩
    · rintro σ' H' ⟨t, y, rfl, e, hq⟩
      have z : m / 2 ^ (Gf.bl m) = 0 := Nat.div_eq_of_lt (Gf.bl_le.mp (Nat.le_refl _))
      have et : ((Gf.bl m : Nat) : Int).toNat = Gf.bl m := rfl
      rw [et, z, Gf.mul_zero, Nat.xor_zero] at hq
      subst hq
      exact s_ret (ev_var rfl) fun H4 e4 => q H4 (e.trans e4)
abbrev spLawRest : Sp := spP a3 (fun x => (Ok x.1 x.2.1 ∧ 0 ≤ x.2.2) ∧ sz x.2.1 ≤ 100000 ∧ sz x.2.2 ≤ 8000) (fun x => .int (remM x.1 x.2.1 x.2.2))
theorem d_law_rest (D : Def K mg "_law_rest" s_law_rest P_law_rest) (z_int : mg "int" = none) : Has P w K mg base 1 "_law_rest" P_law_rest spLawRest := by
  refine D.hasP sc_law_rest (fun _ => rfl) (fun g cdv A out s H z Q E hr hp q => ?_)
  obtain ⟨k, a, b⟩ := z
  obtain ⟨⟨pa, pb⟩, ha, hb⟩ := hp
  have pb' : 0 ≤ b := pb
  refine ⟨_, (pss_cons (ps_if (pt_cmpR op_eq (pv 2) pe_int (nomark _)) (pss_one (ps_ret (pv 1))) pss_nil)
      (pss_cons (ps_if (pt_cmpR op_eq (pv 0) pe_str (nomark _)) (pss_one (ps_ret (pe_op op_mod (pe_callTy call_int1 (by rfl) z_int (by decide +kernel) (pa_cons (pv 1) pa_nil)) (pv 2)))) pss_nil)
      (pss_cons (ps_set (i := 3) sc_law_rest.nd rfl (.inl rfl) (pe_bits (pe_callTy call_int1 (by rfl) z_int (by decide +kernel) (pa_cons (pv 2) pa_nil))))
      (pss_cons (ps_while PassesOwn.never (PW.pt (pw_and (pt_cmpR op_gt (pv 1) pe_int (nomark _)) (pw_and1 (pt_cmpR op_ge (pe_bits (pe_callTy call_int1 (by rfl) z_int (by decide +kernel) (pa_cons (pv 1) pa_nil))) (pv 3) (nomark _))))) (pss_one (ps_set (i := 1) sc_law_rest.nd rfl (.inl rfl) (pe_op op_xorN (pv 1) (pe_op op_shlNN (pv 2) (pe_op op_sub (pe_bits (pe_callTy call_int1 (by rfl) z_int (by decide +kernel) (pa_cons (pv 1) pa_nil))) (pv 3)))))))
      (pss_one (ps_ret (pv 1))))))), ?_⟩
  refine q_when (et_test (ev_op (ev_var rfl) ev_c (rv_eq rfl))) (fun h H1 e1 => ?_) (fun h H1 e1 => ?_)
  · have hb0 : b = 0 := V.int.inj (of_decide_eq_true h)
    subst hb0
    refine s_ret (ev_is (ev_var rfl) ?_) fun H2 e2 => q H2 (e1.trans e2)
    cases k
    · show V.int a = V.int (if (0 : Int) = 0 then a else a.fmod 0); rw [if_pos rfl]
    · obtain ⟨n, rfl⟩ := pa.nn
      show V.int (n : Int) = V.int ((Gf.rem n 0 : Nat) : Int); rw [Gf.rem_zero]
  · have hb0 : b ≠ 0 := fun z => by subst z; exact absurd (decide_eq_true rfl) (by rw [h]; decide)
    refine q_when (et_kind (ev_var rfl)) (fun h H2 e2 => ?_) (fun h H2 e2 => ?_)
    · cases k <;> cases h
      refine s_ret (ev_is (ev_op (ev_cb (ea_cons (ev_var (v := .int a) rfl) ea_nil) rc_int) (ev_var (v := .int b) rfl) (rv_I (by show 0 < b; omega))) ?_) fun H3 e3 => q H3 ((e1.trans e2).trans e3)
      show V.int (a % b) = V.int (if b = 0 then a else a.fmod b)
      rw [if_neg hb0, Int.fmod_eq_emod_of_nonneg a pb']
    · cases k <;> cases h
      obtain ⟨n, rfl⟩ := pa.nn
      obtain ⟨m, rfl⟩ := Int.eq_ofNat_of_zero_le pb'
      have hm : 0 < m := by omega
      have hm8 : Gf.bl m ≤ 8000 := hb
      have hn8 : Gf.bl n ≤ 100000 := ha
      have bp := Gf.bl_pos hm
      refine q_asg (ev_bits (ev_cb (ea_cons (ev_var rfl) ea_nil) rc_int)) fun H3 e3 => ?_
      refine q_while (fun i σ' H' => σ' = [some (.str (ks .B)), some (.int (i : Int)), some (.int (m : Int)), some (.int (Gf.bl m : Nat))] ∧ Evl.Ex H H' ∧ Gf.rem i m = Gf.rem n m ∧ Gf.bl i ≤ 100000)
        n ⟨rfl, (e1.trans e2).trans e3, rfl, hn8⟩ ?_
      rintro i σ' H' ⟨rfl, e, hr', hl⟩
      refine ⟨_, et_and (et_test (ev_op (ev_var rfl) ev_c rv_I0)) fun _ => et_test (ev_op (ev_bits (ev_cb (ea_cons (ev_var rfl) ea_nil) rc_int)) (ev_var rfl) rv_I0), fun hy H4 e4 => ?_, fun hy H4 e4 => ?_⟩
      · rw [Bool.and_eq_true] at hy
        have hy' : Gf.bl m ≤ Gf.bl i := by have := of_decide_eq_true hy.2; rw [sz_nat] at this; omega
        have hs : (((sz (i : Int) : Nat) : Int) - ((Gf.bl m : Nat) : Int)) = ((Gf.bl i - Gf.bl m : Nat) : Int) := by rw [sz_nat]; omega
        have l1 := log_bl m
        have lt := Gf.step_lt hm hy'
        have ble : Gf.bl (i ^^^ m * 2 ^ (Gf.bl i - Gf.bl m)) ≤ Gf.bl i - 1 := Gf.bl_le.mpr lt
        refine ⟨_, fun _ _ h => h, ?_⟩
        refine s_asg (ev_op (ev_var rfl) (ev_op (ev_var rfl) (ev_is (ev_op (ev_bits (ev_cb (ea_cons (ev_var rfl) ea_nil) rc_int)) (ev_var rfl) rv_I0) (by rw [hs])) (rv_shlN (n := m) (k := Gf.bl i - Gf.bl m) (by omega) (by omega))) rv_xorN) fun H6 e6 => ?_
        exact ⟨_, Gf.step_less hm hy', rfl, (e.trans e4).trans e6, by rw [← hr', Gf.rem_go hm hy'], by omega⟩
      · have hy' : Gf.bl i < Gf.bl m := by
          rcases Nat.eq_zero_or_pos i with z | z
          · subst z; rw [Gf.bl_zero]; omega
          · rw [show decide ((0 : Int) < (i : Int)) = true from decide_eq_true (by omega), Bool.true_and] at hy
            have := of_decide_eq_false hy; rw [sz_nat] at this; omega
        rw [Gf.rem_end hy'] at hr'
        subst hr'
        exact s_ret (ev_var rfl) fun H5 e5 => q H5 ((e.trans e4).trans e5)
abbrev spLawMult : Sp := spP a3 (fun x => (Ok x.1 x.2.1 ∧ 0 ≤ x.2.2) ∧ sz x.2.1 ≤ 100000 ∧ sz x.2.2 ≤ 8000) (fun x => .bl (decide (remM x.1 x.2.1 x.2.2 = 0)))
theorem d_law_is_multiple (D : Def K mg "_law_is_multiple" s_law_is_multiple P_law_is_multiple) (h_law_rest : Has P w K mg base 1 "_law_rest" P_law_rest spLawRest) : Has P w K mg base 2 "_law_is_multiple" P_law_is_multiple spLawMult := by
  refine D.hasP sc_law_is_multiple (fun _ => rfl) (fun g cdv A out s H z Q E hr hp q => ?_)
  obtain ⟨k, a, b⟩ := z
  refine ⟨_, (pss_one (ps_ret (pe_cmpR op_eq (pe_h h_law_rest hr (pa_cons (pv 0) (pa_cons (pv 1) (pa_cons (pv 2) pa_nil)))) pe_int (nomark _)))), ?_⟩
  refine s_ret (ev_is (ev_op (ev_call (two_then (ev_var rfl) (ev_var rfl) (ev_var rfl)) (spv_P (k, a, b) hp)) ev_c (rv_eq rfl)) ?_) fun H2 e2 => q H2 e2
  simp only [V.int.injEq]
/-- what is drawn for a number -/
def Drawn (k : Kd) (m z : Int) : Prop := Ok k z ∧ (z.natAbs : Int) ≤ m
def spLawNumber : Sp := fun vs H Q _ => ∃ (a : Addr) (k : Kd) (m : Int) (n : Nat), vs = [.ref a, .str (ks k), .int m] ∧ GenAt H a n ∧ 0 < m ∧ sz m ≤ 1900 ∧ n ≤ 1000000000 ∧
  ∀ (z : Int) (H' : Hp), Drawn k m z → GenAt H' a (n + 100) → Keep a H H' → Q (.int z) H'
theorem d_law_number (D : Def K mg "_law_number" s_law_number P_law_number) (h_law_random : Has P w K mg base 2 "_law_random" P_law_random spRandom) : Has P w K mg base 3 "_law_number" P_law_number spLawNumber := by
  refine D.hasS sc_law_number (by rintro _ _ _ _ ⟨a, k, m, n, rfl, _⟩; rfl) (fun g cdv A out s H vs Q E hr h => ?_)
  obtain ⟨a, k, m, n, rfl, G, hm, hmz, hn, q⟩ := h
  have c2 : sz 2 ≤ 2 := by decide +kernel
  have z2 := sz_mul 2 m
  refine ⟨_, (pss_one (ps_ret (pe_ifExp (pt_cmpR op_eq (pv 1) pe_str (nomark _)) (pe_op op_sub (pe_h h_law_random hr (pa_cons (pv 0) (pa_cons (pe_op op_add (pe_op op_mulX pe_int (pv 2)) pe_int) pa_nil))) (pv 2)) (pe_h h_law_random hr (pa_cons (pv 0) (pa_cons (pv 2) pa_nil)))))), ?_⟩
  refine et_kind (k := k) (ev_var rfl) H (Evl.Ex.refl H) _ fun H1 e1 => ?_
  cases k
  · refine ⟨_, rfl, _, rfl, 2, m, rfl, rfl, cmul_ok (by omega), 2 * m, 1, rfl, rfl, a, 2 * m + 1, n, rfl, G.ex_of e1, by omega, ?_, hn, fun z H2 z0 zb G2 kp => ⟨_, rfl, z, m, rfl, rfl, ?_⟩⟩
    · exact Nat.le_trans (sz_add (n := 1902) (by omega) (by decide +kernel)) (by decide)
    · exact q _ H2 ⟨trivial, by omega⟩ G2 ((Keep.of e1).trans kp)
  · exact ⟨_, rfl, _, rfl, a, m, n, rfl, G.ex_of e1, hm, by omega, hn, fun z H2 z0 zb G2 kp => q _ H2 ⟨z0, by omega⟩ G2 ((Keep.of e1).trans kp)⟩
theorem s_par {D : Ends} {σ : L2.St} {H : Hp} {i j : Nat} {ta : TA} {u v : V} (h : EvA ta σ H [u, v]) (k : ∀ H1, Evl.Ex H H1 → D.nx ((σ.set i (some u)).set j (some v)) H1) : tPar i j ta D σ H :=
  h H (Evl.Ex.refl H) _ fun H1 e => ⟨u, v, rfl, k H1 e⟩
theorem q_par {D : Ends} {σ : L2.St} {H : Hp} {i j : Nat} {ta : TA} {tz : TS} {u v : V} (h : EvA ta σ H [u, v]) (k : ∀ H1, Evl.Ex H H1 → tz D ((σ.set i (some u)).set j (some v)) H1) : tSeq (tPar i j ta) tz D σ H :=
  s_par (D := { D with nx := tz D }) h k
abbrev spGcd : Sp := spP a3 (fun x => Num2 x ∧ sz x.2.1 ≤ 8000 ∧ sz x.2.2 ≤ 8000) (fun x => .int (gcdM x.1 x.2.1 x.2.2))
theorem c_gcd {H : Hp} (k : Kd) (a b : Int) (ha : Ok k a) (hb : Ok k b) (za : sz a ≤ 8000) (zb : sz b ≤ 8000) : SpV spGcd (a3 (k, a, b)) H (.int (gcdM k a b)) := spv_P (k, a, b) ⟨⟨ha, hb⟩, za, zb⟩
theorem d_common_divisor (D : Def K mg "common_divisor" s_common_divisor P_common_divisor) (h_rest_by : Has P w K mg base 2 "rest_by" P_rest_by spRest) (m_gcd : mg "gcd" = some (.builtin "math.gcd")) : Has P w K mg base 3 "common_divisor" P_common_divisor spGcd := by
  refine D.hasP sc_common_divisor (fun _ => rfl) (fun g cdv A out s H z Q E hr hp q => ?_)
  obtain ⟨k, a, b⟩ := z
  obtain ⟨⟨pa, pb⟩, ha, hb⟩ := hp
  refine ⟨_, (pss_cons (ps_if (pt_cmpR op_eq (pv 0) pe_str (nomark _)) (pss_one (ps_ret (pe_callBfun cr_gcd (by rfl) m_gcd (pa_cons (pv 1) (pa_cons (pv 2) pa_nil))))) pss_nil)
      (pss_cons (ps_while PassesOwn.never (pt_cmpR op_gt (pv 2) pe_int (nomark _)) (pss_one (ps_par (i := 1) (j := 2) (by rfl) sc_common_divisor.nd rfl rfl (by decide) rfl rfl (pa_cons (pv 2) (pa_cons (pe_h h_rest_by hr (pa_cons (pv 0) (pa_cons (pv 1) (pa_cons (pv 2) pa_nil)))) pa_nil)) (by rfl))))
      (pss_one (ps_ret (pv 1))))), ?_⟩
  refine q_when (et_kind (ev_var rfl)) (fun h H1 e1 => ?_) (fun h H1 e1 => ?_)
  · cases k <;> cases h
    exact s_ret (ev_cb (ea_cons (ev_var rfl) (ea_cons (ev_var rfl) ea_nil)) (fun H2 _ Q' q' => ⟨a, b, rfl, q' H2 (Evl.Ex.refl H2)⟩)) fun H2 e2 => q H2 (e1.trans e2)
  · cases k <;> cases h
    obtain ⟨n, rfl⟩ := pa.nn
    obtain ⟨m, rfl⟩ := pb.nn
    have hn : Gf.bl n ≤ 8000 := ha
    have hm : Gf.bl m ≤ 8000 := hb
    refine q_while (fun i σ' H' => ∃ x : Nat, σ' = [some (.str (ks .B)), some (.int (x : Int)), some (.int (i : Int))] ∧ Evl.Ex H H' ∧ Gf.gcd x i = Gf.gcd n m ∧ Gf.bl x ≤ 8000 ∧ Gf.bl i ≤ 8000) m ⟨n, rfl, e1, rfl, hn, hm⟩ ?_
    rintro i σ' H' ⟨x, rfl, e, hg, hx, hi⟩
    refine ⟨_, et_test (ev_op (ev_var rfl) ev_c rv_I0), fun hy H3 e3 => ?_, fun hy H3 e3 => ?_⟩
    · have hy' : 0 < i := by have := of_decide_eq_true hy; omega
      refine ⟨_, fun _ _ h => h, ?_⟩
      refine s_par (u := .int (i : Int)) (v := .int ((Gf.rem x i : Nat) : Int)) (ea_cons (ev_var rfl) (ea_cons (ev_call (two_then (ev_var rfl) (ev_var rfl) (ev_var rfl)) (c_restby .B x i (Int.natCast_nonneg _) (Int.natCast_nonneg _) (by show Gf.bl x ≤ 100000; omega) hi)) ea_nil)) fun H4 e4 => ?_
      have r := (Gf.rem_spec (n := x) hy').1
      exact ⟨Gf.rem x i, Gf.rem_less hy', i, rfl, (e.trans e3).trans e4, by rw [← hg, Gf.gcd_step hy'], hi, by omega⟩
    · have hy' : i = 0 := by have := of_decide_eq_false hy; omega
      subst hy'
      rw [Gf.gcd_zero] at hg
      subst hg
      exact s_ret (ev_var rfl) fun H4 e4 => q H4 ((e.trans e3).trans e4)
theorem lcm_val {k : Kd} {a b : Int} (oa : Ok k a) (ob : Ok k b) (ha : a ≠ 0) (hb : b ≠ 0) : ((timesM k a (quoM k b (gcdM k a b))).natAbs : Int) = lcmM k a b := by
  have hg : 0 < gN k a.natAbs b.natAbs := by
    rcases Nat.eq_zero_or_pos (gN k a.natAbs b.natAbs) with z | z
    · have := ((gmN k).g_zero z).1; omega
    · exact z
  rw [times_abs oa ok_quo]
  show ((mulN k a.natAbs (quoM k b (gcdM k a b)).natAbs : Nat) : Int) = ((lN k a.natAbs b.natAbs : Nat) : Int)
  congr 1
  apply (gmN k).cancel _ _ _ hg
  rw [(lmN k).prod]
  obtain ⟨c, hc⟩ := (gmN k).gr a.natAbs b.natAbs
  have e : (quoM k b (gcdM k a b)).natAbs = c := by
    cases k
    · have d : gcdM .H a b ∣ b := Int.ofNat_dvd_left.mpr (Nat.gcd_dvd_right _ _)
      obtain ⟨u, hu⟩ := d
      have hz : gcdM .H a b ≠ 0 := by show ((Nat.gcd a.natAbs b.natAbs : Nat) : Int) ≠ 0; have : 0 < Nat.gcd a.natAbs b.natAbs := hg; omega
      have e1 : quoM .H b (gcdM .H a b) = u := by
        conv => lhs; arg 2; rw [hu]
        exact Int.mul_fdiv_cancel_left u hz
      rw [e1]
      have e2 : b.natAbs = Nat.gcd a.natAbs b.natAbs * u.natAbs := by
        conv => lhs; rw [hu]
        rw [Int.natAbs_mul]; rfl
      exact Nat.eq_of_mul_eq_mul_left hg (e2.symm.trans hc)
    · obtain ⟨n, rfl⟩ := oa.nn
      obtain ⟨m, rfl⟩ := ob.nn
      have hg' : 0 < Gf.gcd n m := hg
      have hc' : m = Gf.mul (Gf.gcd n m) c := hc
      show Gf.quo m (Gf.gcd n m) = c
      conv => lhs; arg 1; rw [hc']
      exact (Gf.quo_mul hg').1
  rw [e, ← (gmN k).assoc, (gmN k).comm (gN k a.natAbs b.natAbs) a.natAbs, (gmN k).assoc, ← hc]
theorem sz_gcd {k : Kd} {a b : Int} : a ≠ 0 ∨ b ≠ 0 → sz (gcdM k a b) ≤ max (sz a) (sz b) := by
  intro h
  have mono : ∀ {d n : Nat}, 0 < n → GM.D (mulN k) d n → Gf.bl d ≤ Gf.bl n := by
    intro d n hn hd
    cases k
    · exact Gf.bl_le.mpr (Nat.lt_of_le_of_lt (Nat.le_of_dvd hn hd) (Gf.bl_le.mp (Nat.le_refl _)))
    · exact Gf.Dv.le hn hd
  show Gf.bl (gN k a.natAbs b.natAbs) ≤ max (Gf.bl a.natAbs) (Gf.bl b.natAbs)
  rcases h with h | h
  · have := mono (by omega) ((gmN k).gl a.natAbs b.natAbs); omega
  · have := mono (by omega) ((gmN k).gr a.natAbs b.natAbs); omega
theorem gcd_pos {k : Kd} {a b : Int} : a ≠ 0 ∨ b ≠ 0 → 0 < gcdM k a b := by
  intro h
  show (0 : Int) < ((gN k a.natAbs b.natAbs : Nat) : Int)
  rcases Nat.eq_zero_or_pos (gN k a.natAbs b.natAbs) with z | z
  · have := (gmN k).g_zero z; omega
  · omega
theorem sz_lcm {k : Kd} {a b : Int} (oa : Ok k a) (ob : Ok k b) : sz (lcmM k a b) ≤ sz a + sz b := by
  by_cases ha : a = 0
  · show Gf.bl (lN k a.natAbs b.natAbs) ≤ _
    rw [(lmN k).none _ _ (.inl (by omega)), Gf.bl_zero]; omega
  · by_cases hb : b = 0
    · show Gf.bl (lN k a.natAbs b.natAbs) ≤ _
      rw [(lmN k).none _ _ (.inr (by omega)), Gf.bl_zero]; omega
    · rw [← lcm_val oa ob ha hb]
      have h1 := sz_times oa (ok_quo (k := k) (a := b) (b := gcdM k a b))
      have h2 := sz_quo (k := k) ob (gcd_pos (k := k) (a := a) (b := b) (.inl ha))
      show sz (timesM k a (quoM k b (gcdM k a b))) ≤ _
      omega
abbrev spLcm : Sp := spP a3 (fun x => Num2 x ∧ sz x.2.1 ≤ 8000 ∧ sz x.2.2 ≤ 8000) (fun x => .int (lcmM x.1 x.2.1 x.2.2))
theorem c_lcm {H : Hp} (k : Kd) (a b : Int) (ha : Ok k a) (hb : Ok k b) (za : sz a ≤ 8000) (zb : sz b ≤ 8000) : SpV spLcm (a3 (k, a, b)) H (.int (lcmM k a b)) := spv_P (k, a, b) ⟨⟨ha, hb⟩, za, zb⟩
theorem u_split {H : Hp} (k : Kd) (a b : Int) (ha : Ok k a) (hb : Ok k b) (nb : b ≠ 0) (za : sz a ≤ 100000) (zb : sz b ≤ 8000) : SpU spSplit (a3 (k, a, b)) H [.int (quoM k a b), .int (remM k a b)] := spu_U (k, a, b) ⟨⟨ha, nb, hb⟩, za, zb⟩
theorem d_common_multiple (D : Def K mg "common_multiple" s_common_multiple P_common_multiple) (h_split_by : Has P w K mg base 1 "split_by" P_split_by spSplit) (h_common_divisor : Has P w K mg base 3 "common_divisor" P_common_divisor spGcd)
    (h_times : Has P w K mg base 1 "times" P_times spTimes) (z_abs : mg "abs" = none) : Has P w K mg base 4 "common_multiple" P_common_multiple spLcm := by
  refine D.hasP sc_common_multiple (fun _ => rfl) (fun g cdv A out s H z Q E hr hp q => ?_)
  obtain ⟨k, a, b⟩ := z
  obtain ⟨⟨pa, pb⟩, ha, hb⟩ := hp
  have ha' : sz a ≤ 8000 := ha
  have hb' : sz b ≤ 8000 := hb
  refine ⟨_, (pss_cons (ps_if (PW.pt (pw_or (pt_cmpR op_eq (pv 1) pe_int (nomark _)) (pw_or1 (pt_cmpR op_eq (pv 2) pe_int (nomark _))))) (pss_one (ps_ret pe_int)) pss_nil)
      (pss_cons (ps_set (i := 3) sc_common_multiple.nd rfl (.inl rfl) (pe_ix ix_tup (pe_h h_split_by hr (pa_cons (pv 0) (pa_cons (pv 2) (pa_cons (pe_h h_common_divisor hr (pa_cons (pv 0) (pa_cons (pv 1) (pa_cons (pv 2) pa_nil)))) pa_nil)))) pe_int (fun _ _ => rfl)))
      (pss_one (ps_ret (pe_callB call_abs (by rfl) z_abs (by decide +kernel) (pa_cons (pe_h h_times hr (pa_cons (pv 0) (pa_cons (pv 1) (pa_cons (pv 3) pa_nil)))) pa_nil)))))), ?_⟩
  refine q_when (et_or (et_test (ev_op (ev_var (v := .int a) rfl) ev_c (rv_eq rfl))) fun _ => et_test (ev_op (ev_var (v := .int b) rfl) ev_c (rv_eq rfl))) (fun h H1 e1 => ?_) (fun h H1 e1 => ?_)
  · have h0 : a = 0 ∨ b = 0 := by
      rw [Bool.or_eq_true] at h
      exact h.imp (fun h => V.int.inj (of_decide_eq_true h)) (fun h => V.int.inj (of_decide_eq_true h))
    refine s_ret (ev_is ev_c ?_) fun H2 e2 => q H2 (e1.trans e2)
    show V.int 0 = V.int ((lN k a.natAbs b.natAbs : Nat) : Int)
    rw [(lmN k).none _ _ (by omega)]; rfl
  · rw [Bool.or_eq_false_iff] at h
    have na : a ≠ 0 := fun z => by subst z; exact absurd (decide_eq_true rfl) (by rw [h.1]; decide)
    have nb : b ≠ 0 := fun z => by subst z; exact absurd (decide_eq_true rfl) (by rw [h.2]; decide)
    have gp := gcd_pos (k := k) (a := a) (b := b) (.inl na)
    have gz := sz_gcd (k := k) (a := a) (b := b) (.inl na)
    have qz := sz_quo (k := k) pb gp
    refine q_asg (ev_ixU (eu_call (two_then (ev_var rfl) (ev_var rfl) (ev_call (two_then (ev_var rfl) (ev_var rfl) (ev_var rfl)) (c_gcd k a b pa pb ha hb))) (u_split k b (gcdM k a b) pb ok_gcd (by omega) (by omega) (by omega))) ev_c rfl) fun H2 e2 => ?_
    refine s_ret (ev_is (ev_cb (ea_cons (ev_call (two_then (ev_var rfl) (ev_var rfl) (ev_var rfl)) (c_times k a (quoM k b (gcdM k a b)) pa ok_quo (by omega) (by have : sz (quoM k b (gcdM k a b)) ≤ sz b := qz; omega))) ea_nil) rc_abs) ?_) fun H3 e3 => q H3 ((e1.trans e2).trans e3)
    show V.int ((timesM k a (quoM k b (gcdM k a b))).natAbs : Int) = V.int (lcmM k a b)
    rw [lcm_val pa pb na nb]
theorem d_divisor (D : Def K mg "divisor" s_divisor P_divisor) (h_check_two : Has P w K mg base 4 "check_two" P_check_two spCheckTwo) (h_common_divisor : Has P w K mg base 3 "common_divisor" P_common_divisor spGcd) : Has P w K mg base 5 "divisor" P_divisor spGcd := by
  refine D.hasP sc_divisor (fun _ => rfl) (fun g cdv A out s H z Q E hr hp q => ?_)
  obtain ⟨k, a, b⟩ := z
  refine ⟨_, (pss_cons (ps_expr (pe_h h_check_two hr (pa_cons (pv 0) (pa_cons (pv 1) (pa_cons (pv 2) pa_nil)))))
      (pss_one (ps_ret (pe_h h_common_divisor hr (pa_cons (pv 0) (pa_cons (pv 1) (pa_cons (pv 2) pa_nil))))))), ?_⟩
  refine q_drop (ev_call (two_then (ev_var rfl) (ev_var rfl) (ev_var rfl)) (spv_P (k, a, b) hp.1)) fun H1 e1 => ?_
  exact s_ret (ev_call (two_then (ev_var rfl) (ev_var rfl) (ev_var rfl)) (spv_P (k, a, b) hp)) fun H2 e2 => q H2 (e1.trans e2)
theorem d_multiple (D : Def K mg "multiple" s_multiple P_multiple) (h_check_two : Has P w K mg base 4 "check_two" P_check_two spCheckTwo) (h_common_multiple : Has P w K mg base 4 "common_multiple" P_common_multiple spLcm) : Has P w K mg base 5 "multiple" P_multiple spLcm := by
  refine D.hasP sc_multiple (fun _ => rfl) (fun g cdv A out s H z Q E hr hp q => ?_)
  obtain ⟨k, a, b⟩ := z
  refine ⟨_, (pss_cons (ps_expr (pe_h h_check_two hr (pa_cons (pv 0) (pa_cons (pv 1) (pa_cons (pv 2) pa_nil)))))
      (pss_one (ps_ret (pe_h h_common_multiple hr (pa_cons (pv 0) (pa_cons (pv 1) (pa_cons (pv 2) pa_nil))))))), ?_⟩
  refine q_drop (ev_call (two_then (ev_var rfl) (ev_var rfl) (ev_var rfl)) (spv_P (k, a, b) hp.1)) fun H1 e1 => ?_
  exact s_ret (ev_call (two_then (ev_var rfl) (ev_var rfl) (ev_var rfl)) (spv_P (k, a, b) hp)) fun H2 e2 => q H2 (e1.trans e2)
theorem q_asgPair {D : Ends} {σ : L2.St} {H : Hp} {i j : Nat} {te : TE} {tz : TS} {u v : V} (h : EvU te σ H [u, v]) (k : ∀ H1, Evl.Ex H H1 → tz D ((σ.set i (some u)).set j (some v)) H1) :
    tSeq (tAsg te (gTup K 2 (gCons (gName i) (gCons (gName j) gNil)))) tz D σ H :=
  h H (Evl.Ex.refl H) _ fun p H1 _ e hp => ⟨p, _, rfl, st_of hp, rfl, u, [v], rfl, v, [], rfl, rfl, k H1 e⟩
theorem times_one {k : Kd} {a : Int} (oa : Ok k a) : timesM k a 1 = a := by
  cases k
  · exact Int.mul_one a
  · obtain ⟨n, rfl⟩ := oa.nn
    show ((Gf.mul n 1 : Nat) : Int) = n; rw [Gf.mul_one]
theorem times_zero {k : Kd} {a : Int} (oa : Ok k a) : timesM k a 0 = 0 := by
  cases k
  · exact Int.mul_zero a
  · obtain ⟨n, rfl⟩ := oa.nn
    show ((Gf.mul n 0 : Nat) : Int) = 0; rw [Gf.mul_zero]; rfl
theorem plus_zero {k : Kd} {a : Int} (oa : Ok k a) : plusM k a 0 = a := by
  cases k
  · exact Int.add_zero a
  · obtain ⟨n, rfl⟩ := oa.nn
    show ((n ^^^ 0 : Nat) : Int) = n; rw [Nat.xor_zero]
theorem zero_plus {k : Kd} {a : Int} (oa : Ok k a) : plusM k 0 a = a := by rw [plus_comm]; exact plus_zero oa
theorem minus_zero {k : Kd} {a : Int} (oa : Ok k a) : minusM k a 0 = a := by
  cases k
  · exact Int.sub_zero a
  · obtain ⟨n, rfl⟩ := oa.nn
    show ((n ^^^ 0 : Nat) : Int) = n; rw [Nat.xor_zero]
theorem ok0 (k : Kd) : Ok k 0 := Ok.of_le (by decide)
theorem ok1 (k : Kd) : Ok k 1 := Ok.of_le (by decide)
theorem settled_lt {k : Kd} {f l : Int} (of : Ok k f) (ol : Ok k l) (h : Settled k f l) : l.natAbs < f.natAbs := by
  cases k
  · rcases h with ⟨h1, h2, h3⟩ | ⟨h1, h2, h3⟩ <;> omega
  · have h' : Gf.bl l.natAbs < Gf.bl f.natAbs := h
    rcases Nat.lt_or_ge l.natAbs f.natAbs with z | z
    · exact z
    · have := Gf.bl_le.mpr (Nat.lt_of_le_of_lt z (Gf.bl_le.mp (Nat.le_refl (Gf.bl l.natAbs)))); omega
theorem gcd_left {k : Kd} {a b : Int} (oa : Ok k a) (ob : Ok k b) : ∃ u, Ok k u ∧ a = timesM k (gcdM k a b) u := by
  cases k
  · obtain ⟨u, hu⟩ : gcdM .H a b ∣ a := Int.ofNat_dvd_left.mpr (Nat.gcd_dvd_left _ _)
    exact ⟨u, trivial, hu⟩
  · obtain ⟨n, rfl⟩ := oa.nn
    obtain ⟨m, rfl⟩ := ob.nn
    obtain ⟨u, hu⟩ := (Gf.gcd_dv n m).1
    exact ⟨u, Int.natCast_nonneg u, by show (n : Int) = ((Gf.mul (Gf.gcd n m) u : Nat) : Int); rw [← hu]⟩
theorem gcd_swap {k : Kd} (a b : Int) : gcdM k a b = gcdM k b a := by
  show ((gN k a.natAbs b.natAbs : Nat) : Int) = ((gN k b.natAbs a.natAbs : Nat) : Int)
  rw [(gmN k).g_comm]
theorem gcd_right {k : Kd} {a b : Int} (oa : Ok k a) (ob : Ok k b) : ∃ u, Ok k u ∧ b = timesM k (gcdM k a b) u := by
  rw [gcd_swap]; exact gcd_left ob oa
/-- what is left of a sum -/
theorem plus_left {k : Kd} {a b c : Int} (oa : Ok k a) (ob : Ok k b) (h : plusM k a b = c) : minusM k c a = b := by
  subst h
  cases k
  · show a + b - a = b; omega
  · obtain ⟨n, rfl⟩ := oa.nn
    obtain ⟨m, rfl⟩ := ob.nn
    show ((n ^^^ m ^^^ n : Nat) : Int) = (m : Int)
    congr 1
    have : n ^^^ m ^^^ n = (n ^^^ n) ^^^ m := by ac_rfl
    rw [this, Nat.xor_self, Nat.zero_xor]
/-- a divisor told by its factors -/
structure Pap (k : Kd) (a b c p q x y : Int) : Prop where
  val : c = gcdM k a b
  ok : Ok k p ∧ Ok k q ∧ Ok k x ∧ Ok k y
  lo : timesM k c p = a
  hi : timesM k c q = b
  sum : plusM k (timesM k a x) (timesM k b y) = c
  size : sz p ≤ sz a ∧ sz q ≤ sz b ∧ sz x ≤ 130 ∧ sz y ≤ 300
def spDF : Sp := fun vs H Q _ => ∃ (k : Kd) (a b : Int), vs = a3 (k, a, b) ∧ (Ok k a ∧ Ok k b) ∧ sz a ≤ 6 ∧ sz b ≤ 6 ∧
  ∀ (c p q x y : Int) (r : Addr) (H' : Hp), Pap k a b c p q x y → H r = none → Evl.Ex H H' → H' r = some (.tup [.int c, .int p, .int q, .int x, .int y]) → Q (.ref r) H'
theorem d_divisor_with_factors (D : Def K mg "divisor_with_factors" s_divisor_with_factors P_divisor_with_factors) (h_split_by : Has P w K mg base 1 "split_by" P_split_by spSplit) (h_minus : Has P w K mg base 1 "minus" P_minus spMinus)
    (h_times : Has P w K mg base 1 "times" P_times spTimes) : Has P w K mg base 2 "divisor_with_factors" P_divisor_with_factors spDF := by
  refine D.hasS sc_divisor_with_factors (by rintro _ _ _ _ ⟨k, a, b, rfl, _⟩; rfl) (fun g cdv A out s H vs Q E hr h => ?_)
  obtain ⟨k, a, b, rfl, ⟨oa, ob⟩, ha, hb, q⟩ := h
  refine ⟨_, (pss_cons (ps_par (i := 3) (j := 4) (by rfl) sc_divisor_with_factors.nd rfl rfl (by decide) rfl rfl (pa_cons (pv 1) (pa_cons pe_int pa_nil)) (by rfl))
      (pss_cons (ps_par (i := 5) (j := 6) (by rfl) sc_divisor_with_factors.nd rfl rfl (by decide) rfl rfl (pa_cons (pv 2) (pa_cons pe_int pa_nil)) (by rfl))
      (pss_cons (ps_while PassesOwn.never (pt_cmpR op_ne (pv 5) pe_int (nomark _)) (pss_cons (ps_asg (pe_h h_split_by hr (pa_cons (pv 0) (pa_cons (pv 3) (pa_cons (pv 5) pa_nil)))) (pg_tup rfl (pgs_cons (pg_name (i := 7) sc_divisor_with_factors.nd rfl (.inl rfl)) (pgs_cons (pg_name (i := 8) sc_divisor_with_factors.nd rfl (.inl rfl)) pgs_nil))))
      (pss_cons (ps_par (i := 3) (j := 5) (by rfl) sc_divisor_with_factors.nd rfl rfl (by decide) rfl rfl (pa_cons (pv 5) (pa_cons (pv 8) pa_nil)) (by rfl))
      (pss_one (ps_par (i := 4) (j := 6) (by rfl) sc_divisor_with_factors.nd rfl rfl (by decide) rfl rfl (pa_cons (pv 6) (pa_cons (pe_h h_minus hr (pa_cons (pv 0) (pa_cons (pv 4) (pa_cons (pe_h h_times hr (pa_cons (pv 0) (pa_cons (pv 6) (pa_cons (pv 7) pa_nil)))) pa_nil)))) pa_nil)) (by rfl))))))
      (pss_cut (ps_if (pt_cmpR op_lt (pv 3) pe_int (nomark _)) (pss_one (ps_par (i := 3) (j := 4) (by rfl) sc_divisor_with_factors.nd rfl rfl (by decide) rfl rfl (pa_cons (pe_un un_neg (pv 3)) (pa_cons (pe_un un_neg (pv 4)) pa_nil)) (by rfl))) pss_nil)
      (pss_cons (ps_if (pt_cmpR op_eq (pv 3) pe_int (nomark _)) (pss_one (ps_ret (pe_tup (pa_cons pe_int (pa_cons pe_int (pa_cons pe_int (pa_cons pe_int (pa_cons pe_int pa_nil)))))))) pss_nil)
      (pss_cons (ps_set (i := 9) sc_divisor_with_factors.nd rfl (.inl rfl) pe_int)
      (pss_cut (ps_if (pt_cmpR op_ne (pv 2) pe_int (nomark _)) (pss_one (ps_set (i := 9) sc_divisor_with_factors.nd rfl (.inl rfl) (pe_ix ix_tup (pe_h h_split_by hr (pa_cons (pv 0) (pa_cons (pe_h h_minus hr (pa_cons (pv 0) (pa_cons (pv 3) (pa_cons (pe_h h_times hr (pa_cons (pv 0) (pa_cons (pv 1) (pa_cons (pv 4) pa_nil)))) pa_nil)))) (pa_cons (pv 2) pa_nil)))) pe_int (fun _ _ => rfl)))) pss_nil)
      (pss_one (ps_ret (pe_tup (pa_cons (pv 3) (pa_cons (pe_ix ix_tup (pe_h h_split_by hr (pa_cons (pv 0) (pa_cons (pv 1) (pa_cons (pv 3) pa_nil)))) pe_int (fun _ _ => rfl)) (pa_cons (pe_ix ix_tup (pe_h h_split_by hr (pa_cons (pv 0) (pa_cons (pv 2) (pa_cons (pv 3) pa_nil)))) pe_int (fun _ _ => rfl)) (pa_cons (pv 4) (pa_cons (pv 9) pa_nil))))))))))))))), ?_⟩
  have z1 : sz 1 ≤ 1 := by decide +kernel
  refine q_par (u := .int a) (v := .int 1) (ea_cons (ev_var rfl) (ea_cons ev_c ea_nil)) fun H1 e1 => ?_
  refine q_par (u := .int b) (v := .int 0) (ea_cons (ev_var rfl) (ea_cons ev_c ea_nil)) fun H2 e2 => ?_
  refine q_while (fun i σ' H' => ∃ (c x f nx u v : Int) (y7 y8 : Option V), i = f.natAbs ∧ σ' = [some (.str (ks k)), some (.int a), some (.int b), some (.int c), some (.int x), some (.int f), some (.int nx), y7, y8, none] ∧ Evl.Ex H H' ∧
      ((Ok k c ∧ Ok k x) ∧ (Ok k f ∧ Ok k nx) ∧ Ok k u ∧ Ok k v) ∧ plusM k (timesM k a x) (timesM k b u) = c ∧ plusM k (timesM k a nx) (timesM k b v) = f ∧ gcdM k c f = gcdM k a b ∧ sz c ≤ 6 ∧ sz f ≤ 6 ∧
      ((x = 1 ∧ nx = 0) ∨ (Settled k c f ∧ sz x + 10 * (sz c + sz f) ≤ 122 ∧ sz nx + 10 * (sz c + sz f) ≤ 122)))
    b.natAbs ⟨a, 1, b, 0, 0, 1, none, none, rfl, rfl, e1.trans e2, ⟨⟨oa, ok1 k⟩, ⟨ob, ok0 k⟩, ok0 k, ok1 k⟩, by rw [times_one oa, times_zero ob, plus_zero oa], by rw [times_zero oa, times_one ob, zero_plus ob], rfl, ha, hb, .inl ⟨rfl, rfl⟩⟩ ?_
  rintro i σ' H' ⟨c, x, f, nx, u, v, y7, y8, rfl, rfl, e, ⟨⟨oc, ox⟩, ⟨of, on⟩, ou, ov⟩, hc, hf, hg, zc, zf, hst⟩
  refine ⟨_, et_test (ev_op (ev_var rfl) ev_c (rv_ne rfl)), fun hy H3 e3 => ?_, fun hy H3 e3 => ?_⟩
  · have nf : f ≠ 0 := fun z => by subst z; rw [decide_eq_true rfl] at hy; cases hy
    have oq : Ok k (quoM k c f) := ok_quo
    have ol : Ok k (remM k c f) := ok_rem
    have zq := sz_quo' oc of nf
    have st := settle oc of nf
    have hdiv := quo_rem' oc of nf
    have xz : sz x ≤ 122 ∧ sz nx ≤ 122 := by
      rcases hst with ⟨rfl, rfl⟩ | ⟨_, h1, h2⟩
      · exact ⟨by omega, by rw [sz_zero]; omega⟩
      · exact ⟨by omega, by omega⟩
    refine ⟨_, fun _ _ h => h, ?_⟩
    refine q_asgPair (eu_call (two_then (ev_var rfl) (ev_var rfl) (ev_var rfl)) (u_split k c f oc of nf (by omega) (by omega))) fun H4 e4 => ?_
    refine q_par (u := .int f) (v := .int (remM k c f)) (ea_cons (ev_var rfl) (ea_cons (ev_var rfl) ea_nil)) fun H5 e5 => ?_
    have otq := ok_times on oq
    have ztq := sz_times on oq
    refine s_par (u := .int nx) (v := .int (minusM k x (timesM k nx (quoM k c f)))) (ea_cons (ev_var rfl) (ea_cons (ev_call (two_then (ev_var rfl) (ev_var rfl) (ev_call (two_then (ev_var rfl) (ev_var rfl) (ev_var rfl)) (c_times k nx (quoM k c f) on oq (by omega) (by omega)))) (c_minus k x (timesM k nx (quoM k c f)) ox otq)) ea_nil)) fun H6 e6 => ?_
    have zl : sz (remM k c f) ≤ sz f := by
      have := settled_lt of ol st
      exact sz_mono (by omega)
    refine ⟨(remM k c f).natAbs, settled_lt of ol st, f, nx, remM k c f, minusM k x (timesM k nx (quoM k c f)), v, minusM k u (timesM k v (quoM k c f)), _, _, rfl, rfl, ((e.trans e3).trans e4).trans (e5.trans e6),
      ⟨⟨of, on⟩, ⟨ol, ok_minus ox otq⟩, ov, ok_minus ou (ok_times ov oq)⟩, hf, bez_step oa ob ox ou on ov oq ol hc hf hdiv, by rw [gcd_rem oc of nf, hg], zf, by omega, .inr ⟨st, ?_, ?_⟩⟩
    · rcases hst with ⟨rfl, rfl⟩ | ⟨hs, h1, h2⟩
      · rw [sz_zero]; omega
      · have := settled_step oc of hs nf; omega
    · rcases hst with ⟨rfl, rfl⟩ | ⟨hs, h1, h2⟩
      · have e0 : minusM k 1 (timesM k 0 (quoM k c f)) = 1 := by rw [times_comm, times_zero oq, minus_zero (ok1 k)]
        rw [e0]; omega
      · have := settled_step oc of hs nf
        have zm := sz_minus (n := 128 - 10 * (sz c + sz f) + 2) ox otq (by omega) (by omega)
        omega
  · have nf : f = 0 := V.int.inj (by
      rw [Bool.not_eq_false'] at hy
      exact of_decide_eq_true hy)
    subst nf
    rw [gcd_end] at hg
    have xz : sz x ≤ 122 := by
      rcases hst with ⟨rfl, rfl⟩ | ⟨_, h1, h2⟩
      · omega
      · omega
    -- the sign
    refine q_cut (M := fun σ' H' => ∃ (c' x' u' : Int) (y5 y6 y7 y8 : Option V), σ' = [some (.str (ks k)), some (.int a), some (.int b), some (.int c'), some (.int x'), y5, y6, y7, y8, none] ∧ Evl.Ex H H' ∧ c' = gcdM k a b ∧ Ok k x' ∧ Ok k u' ∧ plusM k (timesM k a x') (timesM k b u') = c' ∧ sz x' ≤ 122) ?_ ?_
    · refine s_when (et_test (ev_op (ev_var rfl) ev_c rv_I0)) (fun h H4 e4 => ?_) (fun h H4 e4 => ?_)
      · have hneg : c < 0 := of_decide_eq_true h
        cases k
        · refine s_par (u := .int (-c)) (v := .int (-x)) (ea_cons (ev_un (ev_var rfl) ru_neg) (ea_cons (ev_un (ev_var rfl) ru_neg) ea_nil)) fun H5 e5 => ?_
          refine ⟨-c, -x, -u, _, _, _, _, rfl, ((e.trans e3).trans e4).trans e5, by rw [← hg]; omega, trivial, trivial, ?_, by rw [sz_neg]; exact xz⟩
          have hc' : a * x + b * u = c := hc
          show a * (-x) + b * (-u) = -c
          rw [Int.mul_neg, Int.mul_neg]; omega
        · exact absurd oc (by show ¬ 0 ≤ c; omega)
      · have hneg : ¬ c < 0 := fun z => by rw [show decide (c < 0) = true from decide_eq_true z] at h; cases h
        exact ⟨c, x, u, _, _, _, _, rfl, (e.trans e3).trans e4, by rw [← hg]; omega, ox, ou, hc, xz⟩
    · rintro σ' H4 ⟨c', x', u', y5, y6, y7, y8, rfl, e4, hc', ox', ou', hs', zx'⟩
      have oc' : Ok k c' := by rw [hc']; exact ok_gcd
      refine q_when (et_test (ev_op (ev_var rfl) ev_c (rv_eq rfl))) (fun h H5 e5 => ?_) (fun h H5 e5 => ?_)
      · have c0 : c' = 0 := V.int.inj (of_decide_eq_true h)
        have z0 := (gmN k).g_zero (a := a.natAbs) (b := b.natAbs) (by have : gcdM k a b = 0 := by rw [← hc', c0]
                                                                      have h2 : ((gN k a.natAbs b.natAbs : Nat) : Int) = 0 := this
                                                                      omega)
        have a0 : a = 0 := by omega
        have b0 : b = 0 := by omega
        refine s_retU (eu_tup (ea_cons ev_c (ea_cons ev_c (ea_cons ev_c (ea_cons ev_c (ea_cons ev_c ea_nil))))) (by show 5 ≤ 100000; decide)) fun r H6 nr e6 hr6 => ?_
        refine q 0 0 0 0 0 r H6 ⟨by rw [← hc', c0], ⟨ok0 k, ok0 k, ok0 k, ok0 k⟩, by rw [times_zero (ok0 k), a0], by rw [times_zero (ok0 k), b0], ?_, by rw [sz_zero]; omega, by rw [sz_zero]; omega, by rw [sz_zero]; omega, by rw [sz_zero]; omega⟩ (fresh_back (e4.trans e5) nr) ((e4.trans e5).trans e6) hr6
        rw [times_zero oa, times_zero ob, plus_zero (ok0 k)]
      · have c0 : c' ≠ 0 := fun z => by rw [z] at h; rw [decide_eq_true rfl] at h; cases h
        have cp : 0 < c' := by
          have : 0 ≤ gcdM k a b := Int.natCast_nonneg _
          omega
        refine q_asg ev_c fun H6 e6 => ?_
        refine q_cut (M := fun σ' H' => ∃ y : Int, σ' = [some (.str (ks k)), some (.int a), some (.int b), some (.int c'), some (.int x'), y5, y6, y7, y8, some (.int y)] ∧ Evl.Ex H H' ∧ Ok k y ∧ plusM k (timesM k a x') (timesM k b y) = c' ∧ sz y ≤ 300) ?_ ?_
        · have oax := ok_times oa ox'
          have zax := sz_times oa ox'
          refine s_when (et_test (ev_op (ev_var rfl) ev_c (rv_ne rfl))) (fun h H7 e7 => ?_) (fun h H7 e7 => ?_)
          · have nb : b ≠ 0 := fun z => by subst z; rw [decide_eq_true rfl] at h; cases h
            have hl := plus_left oax (ok_times ob ou') hs'
            obtain ⟨h1, h2⟩ := quo_exact ob ou' nb
            have zc' : sz c' ≤ 6 := by
              have := sz_gcd (k := k) (a := a) (b := b) (.inr nb)
              rw [hc']; omega
            have zm := sz_minus (n := 128) oc' oax (by omega) (by omega)
            have om := ok_minus oc' oax
            refine s_asg (ev_ixU (eu_call (two_then (ev_var rfl) (ev_call (two_then (ev_var rfl) (ev_var rfl) (ev_call (two_then (ev_var rfl) (ev_var rfl) (ev_var rfl)) (c_times k a x' oa ox' (by omega) (by omega)))) (c_minus k c' (timesM k a x') oc' oax)) (ev_var rfl)) (u_split k (minusM k c' (timesM k a x')) b om ob nb (by omega) (by omega))) ev_c rfl) fun H8 e8 => ?_
            have zu := sz_quo' om ob nb
            refine ⟨u', ?_, (((e4.trans e5).trans e6).trans e7).trans e8, ou', hs', ?_⟩
            · rw [hl, h1]; rfl
            · rw [hl, h1] at zu; rw [hl] at zm; omega
          · have nb : b = 0 := V.int.inj (by
              rw [Bool.not_eq_false'] at h
              exact of_decide_eq_true h)
            refine ⟨0, rfl, ((e4.trans e5).trans e6).trans e7, ok0 k, ?_, by rw [sz_zero]; omega⟩
            rw [← hs']
            subst nb
            rw [times_comm (a := 0) (b := u'), times_zero ou', times_zero ob]
        · rintro σ' H7 ⟨y, rfl, e7, oy, hs7, zy⟩
          obtain ⟨p0, op0, hp0⟩ := gcd_left oa ob
          obtain ⟨q0, oq0, hq0⟩ := gcd_right oa ob
          have nc : gcdM k a b ≠ 0 := by rw [← hc']; exact c0
          obtain ⟨hp1, hp2⟩ := quo_exact (k := k) ok_gcd op0 nc
          obtain ⟨hq1, hq2⟩ := quo_exact (k := k) ok_gcd oq0 nc
          rw [← hp0] at hp1
          rw [← hq0] at hq1
          have zc' : sz c' ≤ 6 := by
            rw [hc']
            by_cases na : a = 0
            · by_cases nb : b = 0
              · subst na nb
                have : gcdM k 0 0 = 0 := by
                  show ((gN k 0 0 : Nat) : Int) = 0
                  have := (gmN k).g_of (a := 0) (b := 0) ((gmN k).refl 0)
                  rw [this]; rfl
                exact absurd this nc
              · have := sz_gcd (k := k) (a := a) (b := b) (.inr nb); omega
            · have := sz_gcd (k := k) (a := a) (b := b) (.inl na); omega
          refine s_retU (eu_tup (ea_cons (ev_var rfl) (ea_cons (ev_ixU (eu_call (two_then (ev_var rfl) (ev_var rfl) (ev_var rfl)) (u_split k a c' oa oc' c0 (by omega) (by omega))) ev_c rfl) (ea_cons (ev_ixU (eu_call (two_then (ev_var rfl) (ev_var rfl) (ev_var rfl)) (u_split k b c' ob oc' c0 (by omega) (by omega))) ev_c rfl)
            (ea_cons (ev_var rfl) (ea_cons (ev_var rfl) ea_nil))))) (by show 5 ≤ 100000; decide)) fun r H8 nr e8 hr8 => ?_
          subst hc'
          refine q _ _ _ x' y r H8 ⟨rfl, ⟨by rw [hp1]; exact op0, by rw [hq1]; exact oq0, ox', oy⟩, by rw [hp1]; exact hp0.symm, by rw [hq1]; exact hq0.symm, hs7, sz_quo' oa ok_gcd nc, sz_quo' ob ok_gcd nc, by omega, zy⟩ (fresh_back e7 nr) (e7.trans e8) hr8
theorem d_divisor_paper (D : Def K mg "divisor_paper" s_divisor_paper P_divisor_paper) (h_check_two : Has P w K mg base 4 "check_two" P_check_two spCheckTwo) (h_divisor_with_factors : Has P w K mg base 2 "divisor_with_factors" P_divisor_with_factors spDF) : Has P w K mg base 5 "divisor_paper" P_divisor_paper spDF := by
  refine D.hasS sc_divisor_paper (by rintro _ _ _ _ ⟨k, a, b, rfl, _⟩; rfl) (fun g cdv A out s H vs Q E hr h => ?_)
  obtain ⟨k, a, b, rfl, ⟨oa, ob⟩, ha, hb, q⟩ := h
  refine ⟨_, (pss_cons (ps_expr (pe_h h_check_two hr (pa_cons (pv 0) (pa_cons (pv 1) (pa_cons (pv 2) pa_nil)))))
      (pss_one (ps_ret (pe_h h_divisor_with_factors hr (pa_cons (pv 0) (pa_cons (pv 1) (pa_cons (pv 2) pa_nil))))))), ?_⟩
  refine q_drop (ev_call (two_then (ev_var rfl) (ev_var rfl) (ev_var rfl)) (spv_P (k, a, b) ⟨oa, ob⟩)) fun H1 e1 => ?_
  exact ⟨_, rfl, _, rfl, _, rfl, k, a, b, rfl, ⟨oa, ob⟩, ha, hb, fun c p q' x y r H2 hp nr e2 h2 => q c p q' x y r H2 hp (fresh_back e1 nr) (e1.trans e2) h2⟩
/-! ### rests: the mathematics -/
abbrev Mu (k : Kd) (d z : Int) : Prop := remM k z d = 0
theorem mu_iff {k : Kd} {z d : Int} (oz : Ok k z) (od : Ok k d) : Mu k d z ↔ GM.D (mulN k) d.natAbs z.natAbs := by
  cases k
  · exact remH_zero.trans Int.natAbs_dvd_natAbs.symm
  · obtain ⟨n, rfl⟩ := oz.nn
    obtain ⟨m, rfl⟩ := od.nn
    show ((Gf.rem n m : Nat) : Int) = 0 ↔ Gf.Dv m n
    rw [← Gf.dv_rem]; omega
theorem mu_minus {k : Kd} {u v d : Int} (ou : Ok k u) (ov : Ok k v) (od : Ok k d) (h1 : Mu k d u) (h2 : Mu k d v) : Mu k d (minusM k u v) := by
  cases k
  · exact remH_zero.mpr (Int.dvd_sub (remH_zero.mp h1) (remH_zero.mp h2))
  · obtain ⟨n, rfl⟩ := ou.nn
    obtain ⟨m, rfl⟩ := ov.nn
    have a1 := (mu_iff (k := .B) (Int.natCast_nonneg n) od).mp h1
    have a2 := (mu_iff (k := .B) (Int.natCast_nonneg m) od).mp h2
    refine (mu_iff (k := .B) (Int.natCast_nonneg _) od).mpr ?_
    exact Gf.Dv.xor a1 a2
theorem mu_back {k : Kd} {u v d : Int} (ou : Ok k u) (ov : Ok k v) (od : Ok k d) (h1 : Mu k d (minusM k u v)) (h2 : Mu k d v) : Mu k d u := by
  cases k
  · have a1 : d ∣ u - v := remH_zero.mp h1
    have a2 := remH_zero.mp h2
    refine remH_zero.mpr ?_
    have := Int.dvd_add a1 a2
    rwa [show u - v + v = u by omega] at this
  · have h := mu_minus (k := .B) (ok_minus ou ov) ov od h1 h2
    obtain ⟨n, rfl⟩ := ou.nn
    obtain ⟨m, rfl⟩ := ov.nn
    have e : minusM .B (minusM .B (n : Int) (m : Int)) (m : Int) = (n : Int) := by
      show ((n ^^^ m ^^^ m : Nat) : Int) = n
      rw [Nat.xor_assoc, Nat.xor_self, Nat.xor_zero]
    rw [e] at h; exact h
theorem minus_tri {k : Kd} {z a b : Int} (oz : Ok k z) (oa : Ok k a) (ob : Ok k b) : minusM k (minusM k z a) (minusM k z b) = minusM k b a := by
  cases k
  · show z - a - (z - b) = b - a; omega
  · obtain ⟨x, rfl⟩ := oz.nn
    obtain ⟨n, rfl⟩ := oa.nn
    obtain ⟨m, rfl⟩ := ob.nn
    show ((x ^^^ n ^^^ (x ^^^ m) : Nat) : Int) = ((m ^^^ n : Nat) : Int)
    congr 1
    have : x ^^^ n ^^^ (x ^^^ m) = (x ^^^ x) ^^^ (m ^^^ n) := by ac_rfl
    rw [this, Nat.xor_self, Nat.zero_xor]
theorem minus_chain {k : Kd} {z a c : Int} (oz : Ok k z) (oa : Ok k a) (oc : Ok k c) : minusM k (minusM k z a) (minusM k c a) = minusM k z c := by
  cases k
  · show z - a - (c - a) = z - c; omega
  · obtain ⟨x, rfl⟩ := oz.nn
    obtain ⟨n, rfl⟩ := oa.nn
    obtain ⟨m, rfl⟩ := oc.nn
    show ((x ^^^ n ^^^ (m ^^^ n) : Nat) : Int) = ((x ^^^ m : Nat) : Int)
    congr 1
    have : x ^^^ n ^^^ (m ^^^ n) = (n ^^^ n) ^^^ (x ^^^ m) := by ac_rfl
    rw [this, Nat.xor_self, Nat.zero_xor]
theorem minus_self {k : Kd} {a : Int} (oa : Ok k a) : minusM k a a = 0 := by
  cases k
  · exact Int.sub_self a
  · obtain ⟨n, rfl⟩ := oa.nn
    show ((n ^^^ n : Nat) : Int) = 0
    rw [Nat.xor_self]; rfl
theorem mu_zero {k : Kd} {d : Int} (od : Ok k d) : Mu k d 0 := (mu_iff (Ok.of_le (by decide)) od).mpr ((gmN k).zero_right _)
theorem mu_self {k : Kd} {d : Int} (od : Ok k d) : Mu k d d := (mu_iff od od).mpr ((gmN k).refl _)
theorem mu_trans {k : Kd} {d e z : Int} (od : Ok k d) (oe : Ok k e) (oz : Ok k z) (h1 : Mu k d e) (h2 : Mu k e z) : Mu k d z :=
  (mu_iff oz od).mpr ((gmN k).trans ((mu_iff oe od).mp h1) ((mu_iff oz oe).mp h2))
/-- the other way about -/
theorem mu_turn {k : Kd} {u v d : Int} (ou : Ok k u) (ov : Ok k v) (od : Ok k d) (h : Mu k d (minusM k u v)) : Mu k d (minusM k v u) := by
  cases k
  · have a1 : d ∣ u - v := remH_zero.mp h
    refine remH_zero.mpr ?_
    have := Int.dvd_neg.mpr a1
    rwa [show -(u - v) = v - u by omega] at this
  · obtain ⟨n, rfl⟩ := ou.nn
    obtain ⟨m, rfl⟩ := ov.nn
    have e : minusM .B (m : Int) (n : Int) = minusM .B (n : Int) (m : Int) := by
      show ((m ^^^ n : Nat) : Int) = ((n ^^^ m : Nat) : Int); rw [Nat.xor_comm]
    rw [e]; exact h
theorem gcd_mu_left {k : Kd} {m n : Int} (om : Ok k m) : Mu k (gcdM k m n) m := (mu_iff om ok_gcd).mpr ((gmN k).gl _ _)
theorem gcd_mu_right {k : Kd} {m n : Int} (on : Ok k n) : Mu k (gcdM k m n) n := (mu_iff on ok_gcd).mpr ((gmN k).gr _ _)
theorem lcm_mu_left {k : Kd} {m n : Int} (om : Ok k m) : Mu k m (lcmM k m n) := (mu_iff ok_lcm om).mpr ((gmN k).l_left (lmN k) _ _)
theorem lcm_mu_right {k : Kd} {m n : Int} (on : Ok k n) : Mu k n (lcmM k m n) := (mu_iff ok_lcm on).mpr ((gmN k).l_right (lmN k) _ _)
/-- a rest told in its least form -/
def Can : Kd → Int → Int → Prop
  | .H, a, m => m = 0 ∨ (0 ≤ a ∧ a < m)
  | .B, a, m => m = 0 ∨ sz a < sz m
def Rst (k : Kd) (a m : Int) : Prop := Ok k a ∧ 0 ≤ m ∧ Can k a m
theorem xor_sz {n m N : Nat} (h1 : Gf.bl n ≤ N) (h2 : Gf.bl m ≤ N) : Gf.bl (n ^^^ m) ≤ N := Gf.bl_le.mpr (Nat.xor_lt_two_pow (Gf.bl_le.mp h1) (Gf.bl_le.mp h2))
theorem can_one {k : Kd} {c c' l : Int} (oc : Ok k c) (oc' : Ok k c') (ol : 0 ≤ l) (h1 : Can k c l) (h2 : Can k c' l) (h : Mu k l (minusM k c c')) : c = c' := by
  cases k
  · have a1 : l ∣ c - c' := remH_zero.mp h
    by_cases z : l = 0
    · subst z
      obtain ⟨q, hq⟩ := a1
      rw [Int.zero_mul] at hq; omega
    · have b1 : 0 ≤ c ∧ c < l := h1.resolve_left (by omega)
      have b2 : 0 ≤ c' ∧ c' < l := h2.resolve_left (by omega)
      rcases Nat.eq_zero_or_pos (c - c').natAbs with e | e
      · omega
      · have := Nat.le_of_dvd e (Int.natAbs_dvd_natAbs.mpr a1)
        omega
  · obtain ⟨n, rfl⟩ := oc.nn
    obtain ⟨m, rfl⟩ := oc'.nn
    obtain ⟨L, rfl⟩ := Int.eq_ofNat_of_zero_le ol
    have d : Gf.Dv L (n ^^^ m) := (mu_iff (k := .B) (Int.natCast_nonneg _) (Int.natCast_nonneg _)).mp h
    have e0 : n ^^^ m = 0 := by
      rcases Nat.eq_zero_or_pos (n ^^^ m) with e | e
      · exact e
      · rcases Nat.eq_zero_or_pos L with z | z
        · subst z; exact Gf.dv_zero d
        · have b1 : Gf.bl n < Gf.bl L := h1.resolve_left (by omega)
          have b2 : Gf.bl m < Gf.bl L := h2.resolve_left (by omega)
          have := Gf.Dv.le e d
          have := xor_sz (N := Gf.bl L - 1) (n := n) (m := m) (by omega) (by omega)
          omega
    have : n = m := by
      have e1 : (n ^^^ m) ^^^ m = m := by rw [e0, Nat.zero_xor]
      rw [Nat.xor_assoc, Nat.xor_self, Nat.xor_zero] at e1; exact e1
    rw [this]
/-- what both tell together -/
structure Met (k : Kd) (a m b n c l : Int) : Prop where
  rst : Rst k c l
  lcm : l = lcmM k m n
  one : Mu k m (minusM k c a)
  two : Mu k n (minusM k c b)
theorem Met.keeps {k : Kd} {a m b n c l z : Int} (M : Met k a m b n c l) (oa : Ok k a) (om : Ok k m) (ob : Ok k b) (on : Ok k n) (oz : Ok k z) : (Mu k m (minusM k z a) ∧ Mu k n (minusM k z b)) ↔ Mu k l (minusM k z c) := by
  have oc := M.rst.1
  have oza := ok_minus oz oa
  have ozb := ok_minus oz ob
  have ozc := ok_minus oz oc
  have oca := ok_minus oc oa
  have ocb := ok_minus oc ob
  rw [M.lcm]
  constructor
  · rintro ⟨h1, h2⟩
    have d1 := mu_minus oza oca om h1 M.one
    have d2 := mu_minus ozb ocb on h2 M.two
    rw [minus_chain oz oa oc] at d1
    rw [minus_chain oz ob oc] at d2
    exact (mu_iff ozc ok_lcm).mpr ((gmN k).l_least (lmN k) ((mu_iff ozc om).mp d1) ((mu_iff ozc on).mp d2))
  · intro h
    have d1 := mu_trans om ok_lcm ozc (lcm_mu_left om) h
    have d2 := mu_trans on ok_lcm ozc (lcm_mu_right on) h
    rw [← minus_chain oz oa oc] at d1
    rw [← minus_chain oz ob oc] at d2
    exact ⟨mu_back oza oca om d1 M.one, mu_back ozb ocb on d2 M.two⟩
/-- who keeps both tells that they agree -/
theorem agree_of {k : Kd} {a m b n z : Int} (oa : Ok k a) (om : Ok k m) (ob : Ok k b) (on : Ok k n) (oz : Ok k z) (h1 : Mu k m (minusM k z a)) (h2 : Mu k n (minusM k z b)) : Mu k (gcdM k m n) (minusM k b a) := by
  have d1 := mu_trans ok_gcd om (ok_minus oz oa) (gcd_mu_left (n := n) om) h1
  have d2 := mu_trans ok_gcd on (ok_minus oz ob) (gcd_mu_right (m := m) on) h2
  have := mu_minus (ok_minus oz oa) (ok_minus oz ob) ok_gcd d1 d2
  rwa [minus_tri oz oa ob] at this
theorem Met.agree {k : Kd} {a m b n c l : Int} (M : Met k a m b n c l) (oa : Ok k a) (om : Ok k m) (ob : Ok k b) (on : Ok k n) : Mu k (gcdM k m n) (minusM k b a) := agree_of oa om ob on M.rst.1 M.one M.two
/-- one of them is the stronger one -/
theorem met_one {k : Kd} {a m b n : Int} (h1 : Rst k a m) (ob : Ok k b) (on : Ok k n) (hn : Mu k n m) (h : Mu k n (minusM k a b)) : Met k a m b n a m := by
  obtain ⟨oa, m0, hc⟩ := h1
  have om : Ok k m := Ok.of_le m0
  refine ⟨⟨oa, m0, hc⟩, ?_, by rw [minus_self oa]; exact mu_zero om, h⟩
  have := (gmN k).l_of (lmN k) ((mu_iff om on).mp hn)
  show m = ((lN k m.natAbs n.natAbs : Nat) : Int)
  rw [this]; omega
theorem Met.swap {k : Kd} {a m b n c l : Int} (M : Met k a m b n c l) : Met k b n a m c l := by
  refine ⟨M.rst, ?_, M.two, M.one⟩
  rw [M.lcm]
  show ((lN k m.natAbs n.natAbs : Nat) : Int) = ((lN k n.natAbs m.natAbs : Nat) : Int)
  rw [(gmN k).l_comm (lmN k)]
theorem Met.same {k : Kd} {a m b n c l c' l' : Int} (M : Met k a m b n c l) (M' : Met k a m b n c' l') (oa : Ok k a) (om : Ok k m) (ob : Ok k b) (on : Ok k n) : c = c' ∧ l = l' := by
  have e : l = l' := by rw [M.lcm, M'.lcm]
  subst e
  refine ⟨?_, rfl⟩
  have h := (M'.keeps oa om ob on M.rst.1).mp ⟨M.one, M.two⟩
  exact can_one M.rst.1 M'.rst.1 M.rst.2.1 M.rst.2.2 M'.rst.2.2 h
/-- the rest of two, by Bezout's numbers -/
theorem crt {α : Type} {add mul : α → α → α} (A : ∀ x y z, add (add x y) z = add x (add y z)) (C : ∀ x y, add x y = add y x) (A' : ∀ x y z, mul (mul x y) z = mul x (mul y z)) (C' : ∀ x y, mul x y = mul y x)
    (D : ∀ x y z, mul x (add y z) = add (mul x y) (mul x z)) {a m b n g p q x y s t u : α} (hm : mul g p = m) (hn : mul g q = n) (h1 : add (mul m x) (mul n y) = g) (h2 : add (mul q u) t = mul s x) (h3 : add a (mul g s) = b) :
    add (add a (mul m t)) (mul n (add (mul s y) (mul p u))) = b := by
  haveI : Std.Associative add := ⟨A⟩
  haveI : Std.Commutative add := ⟨C⟩
  haveI : Std.Associative mul := ⟨A'⟩
  haveI : Std.Commutative mul := ⟨C'⟩
  have e1 : mul n (mul p u) = mul m (mul q u) := by rw [← hm, ← hn]; ac_rfl
  have e2 : add (add a (mul m t)) (mul n (add (mul s y) (mul p u))) = add a (add (mul m (add (mul q u) t)) (mul n (mul s y))) := by
    rw [D n, D m, e1]; ac_rfl
  have e3 : add (mul m (mul s x)) (mul n (mul s y)) = mul g s := by
    have : mul s (add (mul m x) (mul n y)) = mul g s := by rw [h1, C']
    rw [← this, D]
    congr 1 <;> ac_rfl
  rw [e2, h2, e3, h3]
theorem crtM {k : Kd} {a m b n g p q x y s t u : Int} (oa : Ok k a) (om : Ok k m) (ob : Ok k b) (on : Ok k n) (og : Ok k g) (op : Ok k p) (oq : Ok k q) (ox : Ok k x) (oy : Ok k y) (os : Ok k s) (ot : Ok k t) (ou : Ok k u)
    (hm : timesM k g p = m) (hn : timesM k g q = n) (h1 : plusM k (timesM k m x) (timesM k n y) = g) (h2 : plusM k (timesM k q u) t = timesM k s x) (h3 : minusM k b a = timesM k g s) :
    plusM k (plusM k a (timesM k m t)) (timesM k n (plusM k (timesM k s y) (timesM k p u))) = b := by
  cases k
  · refine crt (add := fun x y : Int => x + y) (mul := fun x y : Int => x * y) (a := a) (g := g) Int.add_assoc Int.add_comm Int.mul_assoc Int.mul_comm Int.mul_add hm hn h1 h2 ?_
    have h3' : b - a = g * s := h3
    show a + g * s = b; omega
  · obtain ⟨a, rfl⟩ := oa.nn
    obtain ⟨m, rfl⟩ := om.nn
    obtain ⟨b, rfl⟩ := ob.nn
    obtain ⟨n, rfl⟩ := on.nn
    obtain ⟨g, rfl⟩ := og.nn
    obtain ⟨p, rfl⟩ := op.nn
    obtain ⟨q, rfl⟩ := oq.nn
    obtain ⟨x, rfl⟩ := ox.nn
    obtain ⟨y, rfl⟩ := oy.nn
    obtain ⟨s, rfl⟩ := os.nn
    obtain ⟨t, rfl⟩ := ot.nn
    obtain ⟨u, rfl⟩ := ou.nn
    have cv : ∀ {x y : Nat}, ((x : Nat) : Int) = ((y : Nat) : Int) → x = y := fun h => by omega
    have hm' : Gf.mul g p = m := cv hm
    have hn' : Gf.mul g q = n := cv hn
    have h1' : Gf.mul m x ^^^ Gf.mul n y = g := cv h1
    have h2' : Gf.mul q u ^^^ t = Gf.mul s x := cv h2
    have h3' : b ^^^ a = Gf.mul g s := cv h3
    have h4 : a ^^^ Gf.mul g s = b := by
      rw [← h3', Nat.xor_comm b a, ← Nat.xor_assoc, Nat.xor_self, Nat.zero_xor]
    have := crt (add := fun x y : Nat => x ^^^ y) (mul := Gf.mul) (a := a) (g := g) (b := b) Nat.xor_assoc Nat.xor_comm Gf.mul_assoc Gf.mul_comm Gf.mul_xor hm' hn' h1' h2' h4
    show (((a ^^^ Gf.mul m t) ^^^ Gf.mul n (Gf.mul s y ^^^ Gf.mul p u) : Nat) : Int) = (b : Int)
    rw [this]
theorem mu_mul {k : Kd} {d w : Int} (od : Ok k d) (ow : Ok k w) : Mu k d (timesM k d w) := (mu_iff (ok_times od ow) od).mpr ⟨w.natAbs, times_abs od ow⟩
theorem mu_sum {k : Kd} {c n w : Int} (oc : Ok k c) (on : Ok k n) (ow : Ok k w) : Mu k n (minusM k c (plusM k c (timesM k n w))) := by
  have h := mu_mul on ow
  have ot := ok_times on ow
  generalize timesM k n w = v at h ot
  cases k
  · have h' : n ∣ v := remH_zero.mp h
    refine remH_zero.mpr ?_
    show n ∣ c - (c + v)
    rw [show c - (c + v) = -v by omega]; exact Int.dvd_neg.mpr h'
  · obtain ⟨x, rfl⟩ := oc.nn
    obtain ⟨y, rfl⟩ := ot.nn
    have e : minusM .B (x : Int) (plusM .B (x : Int) (y : Int)) = (y : Int) := by
      show ((x ^^^ (x ^^^ y) : Nat) : Int) = y
      rw [← Nat.xor_assoc, Nat.xor_self, Nat.zero_xor]
    rw [e]; exact h
theorem mu_up {k : Kd} {a m t : Int} (oa : Ok k a) (om : Ok k m) (ot : Ok k t) : Mu k m (minusM k (plusM k a (timesM k m t)) a) := by
  have h := mu_mul om ot
  have ov := ok_times om ot
  generalize timesM k m t = v at h ov
  have e : minusM k (plusM k a v) a = v := plus_left oa ov rfl
  rw [e]; exact h
theorem can_up {k : Kd} {a m t q : Int} (oa : Ok k a) (m0 : 0 < m) (ot : Ok k t) (q0 : 0 < q) (ha : Can k a m) (ht : Can k t q) : Can k (plusM k a (timesM k m t)) (timesM k m q) ∧ 0 ≤ timesM k m q := by
  cases k
  · have a1 : 0 ≤ a ∧ a < m := ha.resolve_left (by omega)
    have t1 : 0 ≤ t ∧ t < q := ht.resolve_left (by omega)
    have l1 : 0 ≤ m * t := Int.mul_nonneg (by omega) t1.1
    have l2 : m * t ≤ m * (q - 1) := Int.mul_le_mul_of_nonneg_left (by omega) (by omega)
    rw [Int.mul_sub, Int.mul_one] at l2
    refine ⟨.inr ⟨?_, ?_⟩, ?_⟩
    · show 0 ≤ a + m * t; omega
    · show a + m * t < m * q; omega
    · show 0 ≤ m * q; omega
  · obtain ⟨a, rfl⟩ := oa.nn
    obtain ⟨m, rfl⟩ := Int.eq_ofNat_of_zero_le (Int.le_of_lt m0)
    obtain ⟨t, rfl⟩ := ot.nn
    obtain ⟨q, rfl⟩ := Int.eq_ofNat_of_zero_le (Int.le_of_lt q0)
    have a1 : Gf.bl a < Gf.bl m := ha.resolve_left (by omega)
    have t1 : Gf.bl t < Gf.bl q := ht.resolve_left (by omega)
    have pm := Gf.bl_pos (n := m) (by omega)
    have pq := Gf.bl_pos (n := q) (by omega)
    have bq := Gf.bl_mul (a := m) (b := q) (by omega) (by omega)
    refine ⟨.inr ?_, Int.natCast_nonneg _⟩
    show Gf.bl (a ^^^ Gf.mul m t) < Gf.bl (Gf.mul m q)
    have bt : Gf.bl (Gf.mul m t) ≤ Gf.bl m + Gf.bl q - 2 := by
      rcases Nat.eq_zero_or_pos t with z | z
      · subst z; rw [Gf.mul_zero, Gf.bl_zero]; omega
      · rw [Gf.bl_mul (by omega) z]; omega
    have := xor_sz (N := Gf.bl m + Gf.bl q - 2) (n := a) (m := Gf.mul m t) (by omega) bt
    omega
theorem can_rem {k : Kd} {z q : Int} (oz : Ok k z) (q0 : 0 < q) : Can k (remM k z q) q := by
  cases k
  · have := fmod_hi (a := z) (b := q) q0
    refine .inr ?_
    show 0 ≤ (if q = 0 then z else z.fmod q) ∧ (if q = 0 then z else z.fmod q) < q
    rw [if_neg (by omega)]; exact this
  · obtain ⟨n, rfl⟩ := oz.nn
    obtain ⟨m, rfl⟩ := Int.eq_ofNat_of_zero_le (Int.le_of_lt q0)
    exact .inr (Gf.rem_spec (n := n) (d := m) (by omega)).1
theorem pos_factor {k : Kd} {g q n : Int} (og : 0 < g) (oq : Ok k q) (n0 : 0 < n) (h : timesM k g q = n) : 0 < q := by
  cases k
  · have h' : g * q = n := h
    rcases Int.lt_or_le 0 q with z | z
    · exact z
    · have := Int.mul_le_mul_of_nonneg_left z (Int.le_of_lt og)
      rw [Int.mul_zero] at this; omega
  · obtain ⟨x, rfl⟩ := oq.nn
    rcases Nat.eq_zero_or_pos x with z | z
    · subst z
      obtain ⟨y, rfl⟩ := Int.eq_ofNat_of_zero_le (Int.le_of_lt og)
      have h' : ((Gf.mul y 0 : Nat) : Int) = n := h
      rw [Gf.mul_zero] at h'
      have : (0 : Int) = n := h'
      omega
    · omega
theorem met_main {k : Kd} {a m b n g p q x y s : Int} (hP : Pap k m n g p q x y) (h1 : Rst k a m) (h2 : Rst k b n) (m0 : m ≠ 0) (n0 : n ≠ 0) (os : Ok k s) (hs : minusM k b a = timesM k g s) :
    Met k a m b n (plusM k a (timesM k m (remM k (timesM k s x) q))) (timesM k m q) := by
  obtain ⟨oa, lm, ca⟩ := h1
  obtain ⟨ob, ln, cb⟩ := h2
  obtain ⟨op, oq, ox, oy⟩ := hP.ok
  have om : Ok k m := Ok.of_le lm
  have on : Ok k n := Ok.of_le ln
  have og : Ok k g := by rw [hP.val]; exact ok_gcd
  have gp : 0 < g := by rw [hP.val]; exact gcd_pos (.inl m0)
  have q0 : 0 < q := pos_factor gp oq (by omega) hP.hi
  have osx := ok_times os ox
  have otr : Ok k (remM k (timesM k s x) q) := ok_rem
  have ouq : Ok k (quoM k (timesM k s x) q) := ok_quo
  have hsum := crtM oa om ob on og op oq ox oy os otr ouq hP.lo hP.hi hP.sum (quo_rem' osx oq (by omega)) hs
  obtain ⟨cu, lq⟩ := can_up oa (by omega) otr q0 ca (can_rem osx q0)
  have oc := ok_plus oa (ok_times om otr)
  refine ⟨⟨oc, lq, cu⟩, ?_, mu_up oa om otr, ?_⟩
  · rw [← lcm_val om on m0 n0, ← hP.val]
    have e : quoM k n g = q := by
      have := (quo_exact og oq (by omega)).1
      rwa [hP.hi] at this
    rw [e]; omega
  · have := mu_sum (c := plusM k a (timesM k m (remM k (timesM k s x) q))) oc on (ok_plus (ok_times os oy) (ok_times op ouq))
    rwa [hsum] at this
theorem ev_chain {σ : L2.St} {H : Hp} {r r' : R2} {ta tb tc : TE} {x y z v : V} {b : Bool} (ha : Ev ta σ H x) (hb : Ev tb σ H y) (hr : RV r x y H (.bl b)) (hc : b = true → Ev tc σ H z) (hr' : b = true → RV r' y z H v) (hv : b = false → v = .bl false) : Ev (tChain r r' ta tb tc) σ H v := fun H1 e Q q =>
  ha H1 e _ fun H2 e2 => hb H2 (e.trans e2) _ fun H3 e3 => hr H3 ((e.trans e2).trans e3) _ fun H4 e4 => by
    refine ⟨b, rfl, ?_⟩
    cases b with
    | true => exact iteT (hc rfl H4 (((e.trans e2).trans e3).trans e4) _ fun H5 e5 => hr' rfl H5 ((((e.trans e2).trans e3).trans e4).trans e5) _ fun H6 e6 => q H6 ((((e2.trans e3).trans e4).trans e5).trans e6))
    | false => rw [hv rfl] at q; exact iteF (q H4 ((e2.trans e3).trans e4))
theorem ev_lenT {σ : L2.St} {H : Hp} {K : PySem.W.Frag} {ta : TE} {p : Addr} {xs : List V} (ha : Ev ta σ H (.ref p)) (h : SqT K H p xs) : Ev (tCB (fun xs H Q => ∃ p ys, xs = [.ref p] ∧ (SqL K H p ys ∨ SqT K H p ys) ∧ Q (.int ys.length) H) (tCons ta tNil)) σ H (.int (xs.length : Int)) := fun H1 e Q q =>
  ha H1 e _ fun H2 e2 => ⟨p, xs, rfl, .inr (ex_t (e.trans e2) h), q H2 e2⟩
theorem rc_isiT {K : PySem.W.Frag} {H : Hp} {r : Addr} {xs : List V} (h : H r = some (.tup xs)) : RC (rIsi K) [.ref r, .ty "tuple"] H (.bl true) := rc_isi (fun _ e => ex_ty e h) (by decide +kernel)
theorem q_asgCG {D : Ends} {σ : L2.St} {H : Hp} {g : TG} {tz : TS} {sp : Sp} {dvs : List V} {E : XK} {ta : TA} (h : ta σ H fun vs H1 => sp (vs ++ dvs) H1 (fun x H2 => g x σ H2 fun σ' H' => tz D σ' H') E) : tSeq (tAsg (tCall sp dvs E ta) g) tz D σ H := h
section
variable {σ : L2.St} {H : Hp} {a : Addr} {b : Int} {n : Nat} {tg tb te : TE} {tr : TA} {Q : VK} {v : V} {R : List V → Hp → Prop}
theorem a_cons (h : Ev te σ H v) (k : ∀ H1, Evl.Ex H H1 → tr σ H1 fun xs H2 => R (v :: xs) H2) : tCons te tr σ H R := h H (Evl.Ex.refl H) _ k
theorem t_draw (hg : Ev tg σ H (.ref a)) (hb : Ev tb σ H (.int b)) (G : GenAt H a n) (b0 : 0 < b) (bz : sz b ≤ 2000) (hn : n ≤ 1000000000)
    (q : ∀ (z : Int) (H' : Hp), 0 ≤ z → z < b → GenAt H' a (n + 100) → Keep a H H' → Q (.int z) H') : tCall spRandom [] E0 (tCons tg (tCons tb tNil)) σ H Q :=
  (ea_cons hg (ea_cons hb ea_nil)) H (Evl.Ex.refl H) _ fun H1 e1 => ⟨a, b, n, rfl, G.ex_of e1, b0, bz, hn, fun z H2 z0 zb G2 kp => q z H2 z0 zb G2 ((Keep.of e1).trans kp)⟩
theorem t_draw1 (hg : Ev tg σ H (.ref a)) (hb : Ev tb σ H (.int b)) (G : GenAt H a n) (b0 : 0 < b) (bz : sz b ≤ 2000) (hn : n ≤ 1000000000)
    (q : ∀ (z : Int) (H' : Hp), 0 < z → z ≤ b → GenAt H' a (n + 100) → Keep a H H' → Q (.int z) H') : tOp (rI0 fun i j => .int (i + j)) (tC (.int 1)) (tCall spRandom [] E0 (tCons tg (tCons tb tNil))) σ H Q := by
  show tCall spRandom [] E0 (tCons tg (tCons tb tNil)) σ H fun y H2 => ∃ i j : Int, V.int 1 = .int i ∧ y = .int j ∧ Q (.int (i + j)) H2
  exact t_draw hg hb G b0 bz hn fun z H' z0 zb G2 kp => ⟨1, z, rfl, rfl, q (1 + z) H' (by omega) (by omega) G2 kp⟩
theorem a_last (h : te σ H fun x H2 => R [x] H2) : tCons te tNil σ H R := h
theorem a_lastC {sp : Sp} {dvs : List V} {E : XK} {ta : TA} (h : ta σ H fun vs H1 => sp (vs ++ dvs) H1 (fun x H2 => R [x] H2) E) : tCons (tCall sp dvs E ta) tNil σ H R := h
theorem q_asgC {D : Ends} {i : Nat} {tz : TS} {sp : Sp} {dvs : List V} {E : XK} {ta : TA} (h : ta σ H fun vs H1 => sp (vs ++ dvs) H1 (fun x H2 => tz D (σ.set i (some x)) H2) E) : tSeq (tAsg (tCall sp dvs E ta) (gName i)) tz D σ H := h
theorem s_retC {D : Ends} {sp : Sp} {dvs : List V} {E : XK} {ta : TA} (h : ta σ H fun vs H1 => sp (vs ++ dvs) H1 (fun x H2 => D.rt x H2) E) : tRet (tCall sp dvs E ta) D σ H := h
theorem s_retO {D : Ends} {r : R2} {ta tb : TE} (h : ta σ H fun x H1 => tb σ H1 fun y H2 => r x y H2 fun z H3 => D.rt z H3) : tRet (tOp r ta tb) D σ H := h
theorem gn {i : Nat} {x : V} {σ : L2.St} {H : Hp} {Q : L2.St → Hp → Prop} (h : Q (σ.set i (some x)) H) : gName i x σ H Q := h
end
theorem gen_upd {H : Hp} {a p : Addr} {o : HO} {n : Nat} (h : p ≠ a) (G : GenAt H a n) : GenAt (upd H p o) a n := by
  obtain ⟨s0, s1, s2, h0, r⟩ := G.ex
  exact ⟨s0, s1, s2, by rw [upd_ne (fun z => h z.symm)]; exact h0, r⟩
theorem keep_upd {H H' : Hp} {a p : Addr} {o : HO} (h : H p = none) (k : Keep a H H') : Keep a H (upd H' p o) := fun c u hc n => by
  rw [upd_ne (ne_of_none hc h)]; exact k c u hc n
theorem gen_ne {H : Hp} {a p : Addr} {n : Nat} (G : GenAt H a n) (h : H p = none) : p ≠ a := by
  obtain ⟨s0, s1, s2, h', _⟩ := G.ex
  intro z; subst z; rw [h] at h'; cases h'
theorem back_none {H H' : Hp} {a r : Addr} {n m : Nat} (k : Keep a H H') (G : GenAt H a n) (G' : GenAt H' a m) (h : H' r = none) : H r = none := by
  cases e : H r with
  | none => rfl
  | some o => exact absurd (k r o e (gen_ne G' h)) (by rw [h]; intro z; cases z)
theorem et_yes {σ : L2.St} {H : Hp} : EvT tYes σ H true := fun H1 _ _ q => q H1 (Evl.Ex.refl H1)
theorem ev_ixL0 {σ : L2.St} {H : Hp} {K : PySem.W.Frag} {ta tb : TE} {xs : List V} {i : Int} {v : V} (h : EvL ta σ H xs) (hb : Ev tb σ H (.int i)) (ha : atI xs i = some v) : Ev (tOp (rIxL K) ta tb) σ H v :=
  fun H1 e Q q => h H1 e _ fun p H2 hp e2 h2 => hb H2 (e.trans e2) _ fun H3 e3 => ⟨p, xs, i, v, rfl, rfl, sq_of (e3 _ _ h2), ha, q H3 (e2.trans e3)⟩
theorem ne_falseI {x : Int} : (!decide (V.int x = V.int x)) = false := by rw [decide_eq_true rfl]; rfl
theorem ne_falseS {x : Str} : (!decide (V.str x = V.str x)) = false := by rw [decide_eq_true rfl]; rfl
theorem ne_falseB {x : Bool} : (!decide (V.bl x = V.bl x)) = false := by rw [decide_eq_true rfl]; rfl
theorem rv_isnotT {H : Hp} : RV (fun x y H Q => ∃ a b, x = .bl a ∧ y = .bl b ∧ Q (.bl (!decide (a = b))) H) (.bl true) (.bl true) H (.bl false) := fun H1 _ _ q => ⟨true, true, rfl, rfl, q H1 (Evl.Ex.refl H1)⟩
/-! lists of ints -/
def pd (xs : List Int) : PyData := .list (xs.map PyData.int)
theorem can_ints : ∀ xs : List Int, PyData.canLayAll0 (xs.map PyData.int) = true
  | [] => rfl
  | x :: xs => by
    show (PyData.canLay0 (.int x) && PyData.canLayAll0 (xs.map PyData.int)) = true
    rw [can_ints xs]; rfl
theorem depth_ints : ∀ xs : List Int, PyData.depthAll (xs.map PyData.int) ≤ 1
  | [] => by decide
  | x :: xs => by
    have := depth_ints xs
    show max (PyData.depth (.int x)) (PyData.depthAll (xs.map PyData.int)) ≤ 1
    have h : PyData.depth (.int x) ≤ 1 := by first | exact Nat.zero_le 1 | exact Nat.le_refl 1
    omega
theorem shaped_ints (xs : List Int) : SeqAt.shaped (pd xs) = true := by
  have h1 := can_ints xs
  have h2 := depth_ints xs
  show (PyData.canLayAll0 (xs.map PyData.int) && decide (PyData.depth (pd xs) ≤ 64)) = true
  rw [h1, Bool.true_and]
  apply decide_eq_true
  show PyData.depthAll (xs.map PyData.int) + 1 ≤ 64
  omega
theorem eqv_self : ∀ xs : List Int, PyData.eqvAll (xs.map PyData.int) (xs.map PyData.int) = true
  | [] => rfl
  | x :: xs => by
    show (PyData.eqv (.int x) (.int x) && PyData.eqvAll (xs.map PyData.int) (xs.map PyData.int)) = true
    rw [eqv_self xs]
    show ((x == x) && true) = true
    rw [beq_self_eq_true]; rfl
theorem eqv_pd (xs : List Int) : PyData.eqv (pd xs) (pd xs) = true := eqv_self xs
theorem eqv_nil : ∀ xs : List Int, PyData.eqv (pd xs) (pd []) = xs.isEmpty
  | [] => rfl
  | x :: xs => rfl
theorem given_filter (xs : List Int) (p : Int → Bool) : given xs.length (fun i => p (xs.getD i 0)) (fun i => .int (xs.getD i 0)) = (xs.filter p).map V.int := by
  have e : xs = (List.range xs.length).map (fun i => xs.getD i 0) := by
    apply List.ext_getElem
    · simp
    · intro i h1 h2; simp [List.getElem?_eq_getElem h1]
  unfold given
  conv => rhs; rw [e]
  rw [List.filter_map, List.map_map]; rfl
/-- those of a list of ints that a test lets -/
theorem el_ints {K : PySem.W.Frag} {σ : L2.St} {H : Hp} {t : TT} {tl : TE} {j : Nat} {vs : List Nat} {xs : List Int} (p : Int → Bool) (h : EvL tl σ H (xs.map V.int)) (hz : xs.length ≤ 40000) (hw : ∀ x, wipe ((wipe σ vs).set j (some x)) vs = wipe σ vs) (hj : ∀ x, ((wipe σ vs).set j (some x))[j]? = some (some x))
    (ht : ∀ (x : Int) H1, Evl.Ex H H1 → x ∈ xs → EvT t ((wipe σ vs).set j (some (.int x))) H1 (p x)) : EvL (tLc (iList K tl) (gName j) t (tVar j) vs) σ H ((xs.filter p).map V.int) := by
  have ix : ∀ {i : Nat} {x : V}, (xs.map V.int)[i]? = some x → ∃ hi : i < xs.length, x = .int (xs.getD i 0) ∧ xs.getD i 0 ∈ xs := by
    intro i x hx
    rw [List.getElem?_map] at hx
    obtain ⟨y, hy, rfl⟩ := Option.map_eq_some_iff.mp hx
    obtain ⟨hi, e⟩ := List.getElem?_eq_some_iff.mp hy
    have : xs.getD i 0 = y := by rw [List.getD_eq_getElem?_getD, hy]; rfl
    exact ⟨hi, by rw [this], by rw [this]; exact List.mem_of_getElem? hy⟩
  have := el_lcNL (K := K) (σ := σ) (H := H) (t := t) (te := tVar j) (tl := tl) (j := j) (vs := vs) (xs := xs.map V.int) (fun i => p (xs.getD i 0)) (fun i => .int (xs.getD i 0)) h (by rw [List.length_map]; exact hz) hw ?_ ?_
  · rw [List.length_map, given_filter] at this; exact this
  · intro i x H1 e hi
    obtain ⟨_, rfl, hm⟩ := ix hi
    exact ht _ H1 e hm
  · intro i x H1 e hi _
    obtain ⟨_, rfl, hm⟩ := ix hi
    exact ev_var (hj _)
theorem el_have {K : PySem.W.Frag} {σ : L2.St} {H : Hp} {t : TT} {i j : Nat} {vs : List Nat} {l : Addr} {xs : List Int} (p : Int → Bool) (h : σ[i]? = some (some (.ref l))) (hl : H l = some (.lst (xs.map V.int))) (hz : xs.length ≤ 40000) (hw : ∀ x, wipe ((wipe σ vs).set j (some x)) vs = wipe σ vs) (hj : ∀ x, ((wipe σ vs).set j (some x))[j]? = some (some x))
    (ht : ∀ (x : Int) H1, Evl.Ex H H1 → x ∈ xs → EvT t ((wipe σ vs).set j (some (.int x))) H1 (p x)) : EvL (tLc (iList K (tVar i)) (gName j) t (tVar j) vs) σ H ((xs.filter p).map V.int) := by
  have ix : ∀ {i : Nat} {x : V}, (xs.map V.int)[i]? = some x → ∃ hi : i < xs.length, x = .int (xs.getD i 0) ∧ xs.getD i 0 ∈ xs := by
    intro i x hx
    rw [List.getElem?_map] at hx
    obtain ⟨y, hy, rfl⟩ := Option.map_eq_some_iff.mp hx
    obtain ⟨hi, e⟩ := List.getElem?_eq_some_iff.mp hy
    have : xs.getD i 0 = y := by rw [List.getD_eq_getElem?_getD, hy]; rfl
    exact ⟨hi, by rw [this], by rw [this]; exact List.mem_of_getElem? hy⟩
  have := el_lcL (K := K) (σ := σ) (H := H) (t := t) (te := tVar j) (tl := tVar i) (j := j) (vs := vs) (xs := xs.map V.int) (fun i => p (xs.getD i 0)) (fun i => .int (xs.getD i 0)) (ev_var h) (sq_of hl) (by rw [List.length_map]; exact hz) hw ?_ ?_
  · rw [List.length_map, given_filter] at this; exact this
  · intro i x H1 e hi
    obtain ⟨_, rfl, hm⟩ := ix hi
    exact ht _ H1 e hm
  · intro i x H1 e hi _
    obtain ⟨_, rfl, hm⟩ := ix hi
    exact ev_var (hj _)
theorem ed_list {K : PySem.W.Frag} {σ : L2.St} {H : Hp} {te : TE} {xs : List Int} (h : EvL te σ H (xs.map V.int)) : EvD K te σ H (pd xs) := fun H1 e Q q => h H1 e _ fun p H2 _ e2 h2 => q (.ref p) H2 e2 (.lst (sq_of h2) (dps_ints xs))
theorem el_lcT9 {K : PySem.W.Frag} {σ : L2.St} {H : Hp} {t : TT} {te : TE} {a : Addr} {xs : List V} {tl : TE} {j : Nat} {vs : List Nat} (f : Nat → Bool) (v : Nat → V) (h : Ev tl σ H (.ref a)) (hx : SqT K H a xs) (hz : xs.length ≤ 40000) (hw : ∀ x, wipe ((wipe σ vs).set j (some x)) vs = wipe σ vs)
    (ht : ∀ (i : Nat) (x : V) H1, Evl.Ex H H1 → xs[i]? = some x → EvT t ((wipe σ vs).set j (some x)) H1 (f i)) (he : ∀ (i : Nat) (x : V) H1, Evl.Ex H H1 → xs[i]? = some x → f i = true → Ev te ((wipe σ vs).set j (some x)) H1 (v i)) :
    EvL (tLc (iTup K tl) (gName j) t te vs) σ H (given xs.length f v) := by
  intro H0 e Q q
  refine h H0 e _ fun H1 e1 => ⟨a, rfl, ⟨xs, ex_t (e.trans e1) hx⟩, fun Dl hD => ?_⟩
  refine lc_tup (xs := xs) (Cw H1 f v Dl) ⟨hD, Evl.Ex.new hD, upd_same⟩ (fun i H' _ p => ex_t ((e.trans e1).trans p.2.1) hx) ?_ ?_
  · intro i x H' hi p
    exact ⟨hw x, cw_turn p (by have := (List.getElem?_eq_some_iff.mp hi).1; omega) (ht i x H1 (e.trans e1) hi) (fun hf => he i x H1 (e.trans e1) hi hf)⟩
  · intro H' p
    exact q Dl H' (fresh_back e1 p.1) (e1.trans p.2.1) p.2.2
theorem rc_allB {K : PySem.W.Frag} {H : Hp} {σ : L2.St} {te : TE} {bs : List Bool} (h : EvL te σ H (bs.map V.bl)) : Ev (tCB (rAll K) (tCons te tNil)) σ H (.bl (bs.all id)) := fun H1 e Q q =>
  h H1 e _ fun p H2 _ e2 h2 => ⟨p, bs, rfl, sq_of h2, q H2 e2⟩
theorem at5 {P : V → Prop} {c p q x y : V} (h1 : P c) (h2 : P p) (h3 : P q) (h4 : P x) (h5 : P y) {i : Nat} {u : V} (h : [c, p, q, x, y][i]? = some u) : P u := by
  match i, h with
  | 0, h => cases Option.some.inj h; exact h1
  | 1, h => cases Option.some.inj h; exact h2
  | 2, h => cases Option.some.inj h; exact h3
  | 3, h => cases Option.some.inj h; exact h4
  | 4, h => cases Option.some.inj h; exact h5
  | i + 5, h => simp at h
theorem q_parC {D : Ends} {i j : Nat} {tz : TS} {sp : Sp} {dvs : List V} {E : XK} {ta : TA} (h : ta σ H fun vs H1 => sp (vs ++ dvs) H1 (fun x H2 => tr σ H2 fun xs H3 => ∃ v w, x :: xs = [v, w] ∧ tz D ((σ.set i (some v)).set j (some w)) H3) E) :
    tSeq (tPar i j (tCons (tCall sp dvs E ta) tr)) tz D σ H := h
theorem t_call {σ : L2.St} {H : Hp} {Q : VK} {sp : Sp} {dvs : List V} {E : XK} {ta : TA} (h : ta σ H fun vs H1 => sp (vs ++ dvs) H1 Q E) : tCall sp dvs E ta σ H Q := h
theorem rv_isN {H : Hp} : RV (fun x y H Q => y = .non ∧ Q (.bl (decide (x = .non))) H) .non .non H (.bl true) := fun H1 _ _ q => ⟨rfl, q H1 (Evl.Ex.refl H1)⟩
theorem rv_isNr {H : Hp} {r : Addr} : RV (fun x y H Q => y = .non ∧ Q (.bl (decide (x = .non))) H) (.ref r) .non H (.bl false) := fun H1 _ _ q => ⟨rfl, q H1 (Evl.Ex.refl H1)⟩
theorem ev_lenL {σ : L2.St} {H : Hp} {K : PySem.W.Frag} {ta : TE} {p : Addr} {xs : List V} (ha : Ev ta σ H (.ref p)) (h : SqL K H p xs) : Ev (tCB (fun xs H Q => ∃ p ys, xs = [.ref p] ∧ (SqL K H p ys ∨ SqT K H p ys) ∧ Q (.int ys.length) H) (tCons ta tNil)) σ H (.int (xs.length : Int)) := fun H1 e Q q =>
  ha H1 e _ fun H2 e2 => ⟨p, xs, rfl, .inl (ex_l (e.trans e2) h), q H2 e2⟩
theorem eqv_tp (c l : Int) : PyData.eqv (.tuple [.int c, .int l]) (.tuple [.int c, .int l]) = true := by
  show ((c == c) && ((l == l) && true)) = true
  rw [beq_self_eq_true, beq_self_eq_true]; rfl
theorem shaped_tp (c l : Int) : SeqAt.shaped (.tuple [.int c, .int l]) = true := rfl
theorem neat_tp {c l : Int} (h1 : sz c ≤ 1900) (h2 : sz l ≤ 1900) : neat (.tuple [.int c, .int l]) = true := by
  have f : ∀ i : Int, sz i ≤ 1900 → decide (i.natAbs.log2 < 1920) = true := fun i h => decide_eq_true (by have := log_sz i; omega)
  show (decide _ && (decide _ && true)) = true
  rw [f _ h1, f _ h2]; rfl
section
variable {σ : L2.St} {H : Hp} {K : PySem.W.Frag} {ta : TA} {te : TE} {R : List V → Hp → Prop} {D : Ends} {tz : TS} {i j : Nat} {ds es : List PyData}
theorem q_asgX (h : te σ H fun x H1 => tz D (σ.set i (some x)) H1) : tSeq (tAsg te (gName i)) tz D σ H := h
theorem a_lastU {xs : List V} (h : EvU te σ H xs) (k : ∀ p H1, H p = none → Evl.Ex H H1 → H1 p = some (.tup xs) → R [.ref p] H1) : tCons te tNil σ H R := h H (Evl.Ex.refl H) _ k
theorem dps_app : ∀ {vs us : List V} {ds es : List PyData}, DpAll K H vs ds → DpAll K H us es → DpAll K H (vs ++ us) (ds ++ es)
  | _, _, _, _, .nil, h2 => h2
  | _, _, _, _, .cons a b, h2 => .cons a (dps_app b h2)
theorem q_asgLD (h : EvDs K ta σ H ds) (hl : ds.length ≤ 100000) (k : ∀ p xs H1, Evl.Ex H H1 → H1 p = some (.lst xs) → DpAll K H1 xs ds → tz D (σ.set i (some (.ref p))) H1) : tSeq (tAsg (tLst ta) (gName i)) tz D σ H :=
  h H (Evl.Ex.refl H) _ fun xs H2 e2 hs => ⟨sz_of (by rw [dps_len hs]; exact hl), fun p hp => k p xs _ (e2.trans (Evl.Ex.new hp)) upd_same (dps_ex (Evl.Ex.new hp) _ _ hs)⟩
theorem q_asgCat {p : Addr} {xs : List V} (hv : σ[j]? = some (some (.ref p))) (hp : H p = some (.lst xs)) (hd : DpAll K H xs ds) (h : EvDs K ta σ H es) (hl : es.length ≤ 100000) (hl2 : ds.length + es.length ≤ 100000)
    (k : ∀ p xs H1, Evl.Ex H H1 → H1 p = some (.lst xs) → DpAll K H1 xs (ds ++ es) → tz D (σ.set i (some (.ref p))) H1) : tSeq (tAsg (tOp rCat (tVar j) (tLst ta)) (gName i)) tz D σ H :=
  ⟨_, hv, h H (Evl.Ex.refl H) _ fun ys H2 e2 hs => ⟨sz_of (by rw [dps_len hs]; exact hl), fun r hr => ⟨p, r, xs, ys, rfl, rfl, (e2.trans (Evl.Ex.new hr)) _ _ hp, upd_same, sz_of (by rw [dps_len hs, dps_len hd]; exact hl2), fun q hq => by
    have e3 : Evl.Ex H2 (upd (upd H2 r (.lst ys)) q (.lst (xs ++ ys))) := (Evl.Ex.new hr).trans (Evl.Ex.new hq)
    exact k q (xs ++ ys) _ (e2.trans e3) upd_same (dps_app (dps_ex (e2.trans e3) _ _ hd) (dps_ex e3 _ _ hs))⟩⟩⟩
end
end
end Hr
namespace Hr
open PySem PySem.Spec PyProof.Rows L2 Evl
section
variable {P : Program} {w : World} {K : PySem.W.Frag} {mg : Str → Option Value} {base : Heap}
/-! ### what is due, by trying -/
theorem times_ne {k : Kd} {a b : Int} (oa : Ok k a) (ob : Ok k b) (ha : a ≠ 0) (hb : b ≠ 0) : timesM k a b ≠ 0 := by
  intro z
  have h := times_abs oa ob
  rw [z] at h
  have h' : mulN k a.natAbs b.natAbs = mulN k a.natAbs 0 := by rw [(gmN k).zero]; exact h.symm
  have := (gmN k).cancel _ _ _ (by omega) h'
  omega
theorem mu_le {k : Kd} {d z : Int} (d0 : 0 < d) (z0 : 0 < z) (h : Mu k d z) : d ≤ z := by
  have od : Ok k d := Ok.of_le (by omega)
  have oz : Ok k z := Ok.of_le (by omega)
  have D := (mu_iff oz od).mp h
  cases k
  · obtain ⟨q, hq⟩ := D
    have hq' : z.natAbs = d.natAbs * q := hq
    have := Nat.le_of_dvd (m := d.natAbs) (n := z.natAbs) (by omega) ⟨q, hq'⟩
    omega
  · obtain ⟨n, rfl⟩ := Int.eq_ofNat_of_zero_le (Int.le_of_lt d0)
    obtain ⟨m, rfl⟩ := Int.eq_ofNat_of_zero_le (Int.le_of_lt z0)
    obtain ⟨q, hq⟩ := D
    have hq' : m = Gf.mul n q := hq
    have q0 : 0 < q := by
      rcases Nat.eq_zero_or_pos q with e | e
      · subst e; rw [Gf.mul_zero] at hq'; omega
      · exact e
    have b := Gf.bl_mul (a := n) (b := q) (by omega) q0
    rw [← hq'] at b
    have pq := Gf.bl_pos q0
    have pn := Gf.bl_pos (n := n) (by omega)
    rcases Nat.lt_or_ge (Gf.bl n) (Gf.bl m) with h1 | h1
    · have a1 := Gf.bl_le.mp (Nat.le_refl (Gf.bl n))
      have a2 : 2 ^ (Gf.bl m - 1) ≤ m := Gf.lt_bl.mp (by omega)
      have a3 : 2 ^ Gf.bl n ≤ 2 ^ (Gf.bl m - 1) := Nat.pow_le_pow_right (by decide) (by omega)
      omega
    · have bq : Gf.bl q ≤ 1 := by omega
      have q1 : q = 1 := by
        have := Gf.bl_le.mp bq
        omega
      subst q1
      rw [Gf.mul_one] at hq'
      omega
theorem gcd_most {k : Kd} {a b d : Int} (oa : Ok k a) (ob : Ok k b) (d0 : 0 < d) (g0 : 0 < gcdM k a b) (h1 : Mu k d a) (h2 : Mu k d b) : d ≤ gcdM k a b := by
  have od : Ok k d := Ok.of_le (by omega)
  exact mu_le d0 g0 ((mu_iff ok_gcd od).mpr ((gmN k).gg _ _ _ ((mu_iff oa od).mp h1) ((mu_iff ob od).mp h2)))
theorem lcm_least {k : Kd} {a b z : Int} (oa : Ok k a) (ob : Ok k b) (z0 : 0 < z) (l0 : 0 < lcmM k a b) (h1 : Mu k a z) (h2 : Mu k b z) : lcmM k a b ≤ z := by
  have oz : Ok k z := Ok.of_le (by omega)
  exact mu_le l0 z0 ((mu_iff oz ok_lcm).mpr ((gmN k).l_least (lmN k) ((mu_iff oz oa).mp h1) ((mu_iff oz ob).mp h2)))
theorem lcm_pos {k : Kd} {a b : Int} (oa : Ok k a) (ob : Ok k b) (ha : a ≠ 0) (hb : b ≠ 0) : 0 < lcmM k a b := by
  have h0 : 0 ≤ lcmM k a b := Int.natCast_nonneg _
  rcases Int.lt_or_le 0 (lcmM k a b) with h | h
  · exact h
  · exfalso
    have h' : lcmM k a b = 0 := by omega
    rw [← lcm_val oa ob ha hb] at h'
    obtain ⟨u, ou, hu⟩ := gcd_right (k := k) oa ob
    have hg := gcd_pos (k := k) (a := a) (b := b) (.inl ha)
    have nu : u ≠ 0 := fun e => by rw [e, times_zero ok_gcd] at hu; exact hb hu
    have e := (quo_exact (k := k) ok_gcd ou (show gcdM k a b ≠ 0 by omega)).1
    rw [← hu] at e
    rw [e] at h'
    have h0 : (timesM k a u).natAbs = 0 := by omega
    rw [times_abs oa ou] at h0
    have := (gmN k).cancel a.natAbs u.natAbs 0 (by omega) (by rw [h0, (gmN k).zero])
    omega
def rangeI (lo n : Int) : List Int := (List.range (n - lo).toNat).map fun i => lo + (i : Nat)
theorem mem_range {lo n z : Int} : z ∈ rangeI lo n ↔ lo ≤ z ∧ z < n := by
  unfold rangeI
  rw [List.mem_map]
  constructor
  · rintro ⟨i, hi, rfl⟩
    have := List.mem_range.mp hi
    omega
  · intro h
    exact ⟨(z - lo).toNat, List.mem_range.mpr (by omega), by omega⟩
/-- those of a range that a test lets -/
theorem el_rng2 {σ : L2.St} {H : Hp} {t : TT} {ta : TA} {j : Nat} {vs : List Nat} {lo n : Int} (p : Int → Bool) (h : EvA ta σ H [.int lo, .int n]) (hb : 0 ≤ lo ∧ lo ≤ 10000 ∧ 0 ≤ n ∧ n ≤ 10000) (hw : ∀ x, wipe ((wipe σ vs).set j (some x)) vs = wipe σ vs) (hj : ∀ x, ((wipe σ vs).set j (some x))[j]? = some (some x))
    (ht : ∀ (x : Int) H1, Evl.Ex H H1 → lo ≤ x → x < n → EvT t ((wipe σ vs).set j (some (.int x))) H1 (p x)) : EvL (tLc (iRng2 ta) (gName j) t (tVar j) vs) σ H (((rangeI lo n).filter p).map V.int) := by
  intro H0 e Q q
  refine h H0 e _ fun H1 e1 => ⟨lo, n, rfl, ⟨by omega, by omega, by omega, by omega⟩, fun Dl hD => ?_⟩
  refine lc_range (lo := lo) (n := (n - lo).toNat) (fun i H' => Evl.Ex H1 H' ∧ H' Dl = some (.lst ((((List.range i).map fun i => lo + (i : Nat)).filter p).map V.int))) ⟨Evl.Ex.new hD, upd_same⟩ ?_ ?_
  · rintro i H' hi ⟨e2, hd⟩
    refine ⟨hw _, ?_⟩
    have ee := (e.trans e1).trans e2
    refine ht (lo + (i : Nat)) H' ee (by omega) (by omega) H' (Evl.Ex.refl H') _ fun H3 e3 => ?_
    have hl : ((((List.range i).map fun i => lo + (i : Nat)).filter p).map V.int).length ≤ 100000 := by
      rw [List.length_map]
      exact Nat.le_trans (List.length_filter_le _ _) (by rw [List.length_map, List.length_range]; omega)
    cases hp : p (lo + (i : Nat)) with
    | true =>
      refine iteT ?_
      refine ⟨_, hj _, _, e3 _ _ hd, ?_, Evl.Ex.mut (e2.trans e3) hD, ?_⟩
      · have : ((((List.range i).map fun i => lo + (i : Nat)).filter p).map V.int).length ≤ i := by
          rw [List.length_map]
          exact Nat.le_trans (List.length_filter_le _ _) (by rw [List.length_map, List.length_range]; omega)
        exact sz_lt (by omega)
      · rw [upd_same, List.range_succ, List.map_append, List.filter_append, List.map_append]
        simp [List.filter_cons, hp]
    | false =>
      refine iteF ⟨e2.trans e3, ?_⟩
      rw [List.range_succ, List.map_append, List.filter_append, List.map_append]
      simp [List.filter_cons, hp]
      have := e3 _ _ hd
      simpa using this
  · rintro H' ⟨e2, hd⟩
    exact q Dl H' (fresh_back e1 hD) (e1.trans e2) hd
abbrev spMult (K : PySem.W.Frag) : Sp := spLawMult
def spDue : Sp := fun vs H Q _ => ∃ (k : Kd) (a b : Int), vs = [.str (ks k), .int a, .int b] ∧ (Ok k a ∧ Ok k b) ∧ a.natAbs ≤ 40 ∧ b.natAbs ≤ 40 ∧ ∀ (p : Addr) (H' : Hp), H p = none → Evl.Ex H H' → H' p = some (.lst [.int (gcdM k a b), .int (lcmM k a b)]) → Q (.ref p) H'
theorem c_due {k : Kd} {a b : Int} {H : Hp} (oa : Ok k a) (ob : Ok k b) (ha : a.natAbs ≤ 40) (hb : b.natAbs ≤ 40) : SpL spDue [.str (ks k), .int a, .int b] H [.int (gcdM k a b), .int (lcmM k a b)] := fun H1 _ Q q _ => ⟨k, a, b, rfl, ⟨oa, ob⟩, ha, hb, fun p H' hp e h => q p H' hp e h⟩
theorem c_lmult {H : Hp} (k : Kd) (a b : Int) (oa : Ok k a) (b0 : 0 ≤ b) (za : sz a ≤ 100000) (zb : sz b ≤ 8000) : SpV spLawMult (a3 (k, a, b)) H (.bl (decide (Mu k b a))) := spv_P (k, a, b) ⟨⟨oa, b0⟩, za, zb⟩
theorem d_law_due (D : Def K mg "_law_due" s_law_due P_law_due) (h_law_is_multiple : Has P w K mg base 2 "_law_is_multiple" P_law_is_multiple spLawMult) (h_law_times : Has P w K mg base 1 "_law_times" P_law_times spTimes)
    (z_abs : mg "abs" = none) (z_range : mg "range" = none) (z_max : mg "max" = none) : Has P w K mg base 3 "_law_due" P_law_due spDue := by
  refine D.hasS sc_law_due (by rintro _ _ _ _ ⟨k, a, b, rfl, _⟩; rfl) (fun g cdv A out s H vs Q E hr h => ?_)
  obtain ⟨k, a, b, rfl, ⟨oa, ob⟩, ha, hb, q⟩ := h
  refine ⟨_, (pss_cons (ps_asg (pe_tup (pa_cons (pe_callB call_abs (by rfl) z_abs (by decide +kernel) (pa_cons (pv 1) pa_nil)) (pa_cons (pe_callB call_abs (by rfl) z_abs (by decide +kernel) (pa_cons (pv 2) pa_nil)) pa_nil))) (pg_tup rfl (pgs_cons (pg_name (i := 3) sc_law_due.nd rfl (.inr rfl)) (pgs_cons (pg_name (i := 4) sc_law_due.nd rfl (.inr rfl)) pgs_nil))))
      (pss_cons (ps_if (PW.pt (pw_or (pt_cmpR op_eq (pv 3) pe_int (nomark _)) (pw_or1 (pt_cmpR op_eq (pv 4) pe_int (nomark _))))) (pss_one (ps_ret (pe_lst (pa_cons (pe_op op_add (pv 3) (pv 4)) (pa_cons pe_int pa_nil))))) pss_nil)
      (pss_cons (ps_setLc (i := 6) (own := [("_law_item", 5)]) (g := gName 5) rfl sc_law_due.nd rfl rfl (sw_true rfl rfl rfl (by decide +kernel)) (pi_range2 (by rfl) z_range (pa_cons pe_int (pa_cons (pe_op op_add (pe_op op_add (pv 3) (pv 4)) pe_int) pa_nil))) (blkOk_by (own := [("_law_item", 5)]) (N := N_law_due) (sc := defScope s_law_due) (by decide +kernel)) (fun _ _ _ _ _ => (pg_name (i := 5) sc_law_due.nd rfl (.inl rfl))) (fun _ _ _ _ _ => (pts_one (PW.pt (pw_and (pt_val (pe_h h_law_is_multiple hr (pa_cons (pv 0) (pa_cons (pv 3) (pa_cons (pv 5) pa_nil))))) (pw_and1 (pt_val (pe_h h_law_is_multiple hr (pa_cons (pv 0) (pa_cons (pv 4) (pa_cons (pv 5) pa_nil)))))))))) (fun _ _ _ _ _ => (pv 5)))
      (pss_cons (ps_set (i := 7) sc_law_due.nd rfl (.inl rfl) (pe_ifExp (pt_cmpR op_eq (pv 0) pe_str (nomark _)) (pe_op op_mulX (pv 3) (pv 4)) (pe_h h_law_times hr (pa_cons pe_str (pa_cons (pv 3) (pa_cons (pv 4) pa_nil))))))
      (pss_cons (ps_for PassesOwn.never rfl (pi_range2 (by rfl) z_range (pa_cons (pe_callB (call_max2 rfl) (by rfl) z_max (by decide +kernel) (pa_cons (pv 3) (pa_cons (pv 4) pa_nil))) (pa_cons (pe_op op_add (pv 7) pe_int) pa_nil))) (pg_name (i := 5) sc_law_due.nd rfl (.inl rfl)) (pss_one (ps_if (PW.pt (pw_and (pt_val (pe_h h_law_is_multiple hr (pa_cons (pv 0) (pa_cons (pv 5) (pa_cons (pv 3) pa_nil))))) (pw_and1 (pt_val (pe_h h_law_is_multiple hr (pa_cons (pv 0) (pa_cons (pv 5) (pa_cons (pv 4) pa_nil)))))))) (pss_one (ps_ret (pe_lst (pa_cons (pe_callB (cr_max rfl) (by rfl) z_max (by decide +kernel) (pa_cons (pv 6) pa_nil)) (pa_cons (pv 5) pa_nil))))) pss_nil)))
      (pss_one (ps_ret (pe_lst (pa_cons (pe_callB (cr_max rfl) (by rfl) z_max (by decide +kernel) (pa_cons (pv 6) pa_nil)) (pa_cons (pv 7) pa_nil)))))))))), ?_⟩
  have l2 : (2 : Nat) ≤ 100000 := by decide
  refine q_asgPair (eu_tup (ea_cons (ev_cb (ea_cons (ev_var (v := .int a) rfl) ea_nil) rc_abs) (ea_cons (ev_cb (ea_cons (ev_var (v := .int b) rfl) ea_nil) rc_abs) ea_nil)) l2) fun H1 e1 => ?_
  have eg : gcdM k (a.natAbs : Int) (b.natAbs : Int) = gcdM k a b := rfl
  have el : lcmM k (a.natAbs : Int) (b.natAbs : Int) = lcmM k a b := rfl
  rw [← eg, ← el] at q
  have bL : (a.natAbs : Int) ≤ 40 := by omega
  have bH : (b.natAbs : Int) ≤ 40 := by omega
  have oL : Ok k (a.natAbs : Int) := Ok.of_nat k _
  have oH : Ok k (b.natAbs : Int) := Ok.of_nat k _
  have L0 : (0 : Int) ≤ (a.natAbs : Int) := by omega
  have H0 : (0 : Int) ≤ (b.natAbs : Int) := by omega
  generalize (a.natAbs : Int) = lo at *
  generalize (b.natAbs : Int) = hi at *
  have zlo : sz lo ≤ 6 := sz_c (by omega)
  have zhi : sz hi ≤ 6 := sz_c (by omega)
  refine q_when (et_or (et_test (ev_op (ev_var (v := .int lo) rfl) ev_c (rv_eq rfl))) fun _ => et_test (ev_op (ev_var (v := .int hi) rfl) ev_c (rv_eq rfl))) (fun h H2 e2 => ?_) (fun h H2 e2 => ?_)
  · rw [Bool.or_eq_true] at h
    have h0 : lo = 0 ∨ hi = 0 := h.imp (fun h => V.int.inj (of_decide_eq_true h)) (fun h => V.int.inj (of_decide_eq_true h))
    refine s_retL (el_lst (ea_cons (ev_op (ev_var (v := .int lo) rfl) (ev_var (v := .int hi) rfl) rv_I0) (ea_cons ev_c ea_nil)) l2) fun p H3 np e3 hp => ?_
    refine q p H3 (fresh_back (e1.trans e2) np) ((e1.trans e2).trans e3) ?_
    rw [hp]
    have h1 : gcdM k lo hi = lo + hi := by
      rcases h0 with z | z
      · rw [z, gcd_swap, gcd_end]; omega
      · rw [z, gcd_end]; omega
    have h2 : lcmM k lo hi = 0 := by
      show ((lN k lo.natAbs hi.natAbs : Nat) : Int) = 0
      rw [(lmN k).none _ _ (by omega)]; rfl
    rw [h1, h2]
  · rw [Bool.or_eq_false_iff] at h
    have nl : lo ≠ 0 := fun z => by rw [z, decide_eq_true rfl] at h; cases h.1
    have nh : hi ≠ 0 := fun z => by rw [z, decide_eq_true rfl] at h; cases h.2
    have g0 := gcd_pos (k := k) (a := lo) (b := hi) (.inl nl)
    have l0 := lcm_pos oL oH nl nh
    have gl := gcd_mu_left (k := k) (n := hi) oL
    have gh := gcd_mu_right (k := k) (m := lo) oH
    have gle := mu_le g0 (by omega) gl
    refine q_asgL (el_rng2 (fun x => decide (Mu k x lo) && decide (Mu k x hi)) (ea_cons (ev_c (v := .int 1)) (ea_cons (ev_op (ev_op (ev_var (v := .int lo) rfl) (ev_var (v := .int hi) rfl) rv_I0) (ev_c (v := .int 1)) rv_I0) ea_nil)) (by omega) (fun _ => rfl) (fun _ => rfl) (fun x H3 e3 x0 x1 => ?_)) fun pf H3 npf e3 hpf => ?_
    · have zx : sz x ≤ 7 := sz_c (by omega)
      exact et_and (et_B (ev_call (two_then (ev_var rfl) (ev_var (v := .int lo) rfl) (ev_var (v := .int x) rfl)) (c_lmult k lo x oL (by omega) (by omega) (by omega)))) fun _ => et_B (ev_call (two_then (ev_var rfl) (ev_var (v := .int hi) rfl) (ev_var (v := .int x) rfl)) (c_lmult k hi x oH (by omega) (by omega) (by omega)))
    have hmost0 : 0 < timesM k lo hi := by
      have h1 := times_ne oL oH nl nh
      have h2 : 0 ≤ timesM k lo hi := by
        cases k
        · exact Int.mul_nonneg L0 H0
        · exact Int.natCast_nonneg _
      omega
    have hmost : timesM k lo hi ≤ 4096 := by
      have h1 := sz_times oL oH
      have h2 : sz (timesM k lo hi) ≤ 12 := by omega
      have := sz_le.mp h2
      omega
    refine q_asg (v := .int (timesM k lo hi)) (ev_if (et_kind (ev_var rfl)) (fun h => ?_) (fun h => ?_)) fun H4 e4 => ?_
    · cases k <;> cases h
      exact ev_op (ev_var (v := .int lo) rfl) (ev_var (v := .int hi) rfl) (rv_I (cmul_ok (by omega)))
    · cases k <;> cases h
      exact ev_call (two_then (k := .B) ev_c (ev_var (v := .int lo) rfl) (ev_var (v := .int hi) rfl)) (c_times .B lo hi oL oH (by omega) (by omega))
    have hpf4 := e4 _ _ hpf
    have hmax : ∀ {σ : L2.St} {H5 : Hp}, σ[6]? = some (some (.ref pf)) → Evl.Ex H4 H5 → Ev (tCB (rMax K) (tCons (tVar 6) tNil)) σ H5 (.int (gcdM k lo hi)) := by
      intro σ H5 hσ e5
      have hg : gcdM k lo hi ∈ (rangeI 1 (lo + hi + 1)).filter fun x => decide (Mu k x lo) && decide (Mu k x hi) := List.mem_filter.mpr ⟨mem_range.mpr (by omega), by rw [decide_eq_true gl, decide_eq_true gh]; rfl⟩
      refine ev_cb (ea_cons (ev_var hσ) ea_nil) fun H6 e6 Q6 q6 => ⟨pf, _, rfl, sq_of (e6 _ _ (e5 _ _ hpf4)), List.length_pos_of_mem hg, fun m hm hmm => ?_⟩
      obtain ⟨hm1, hm2⟩ := List.mem_filter.mp hm
      rw [Bool.and_eq_true] at hm2
      have r1 := mem_range.mp hm1
      have h1 := gcd_most oL oH (by omega) g0 (of_decide_eq_true hm2.1) (of_decide_eq_true hm2.2)
      have h2 := hmm _ hg
      have : m = gcdM k lo hi := by omega
      rw [this]; exact q6 H6 (Evl.Ex.refl H6)
    have ml := lcm_mu_left (k := k) (n := hi) oL
    have mh := lcm_mu_right (k := k) (m := lo) oH
    have lel := mu_le (k := k) (d := lo) (by omega) l0 ml
    have leh := mu_le (k := k) (d := hi) (by omega) l0 mh
    have lmost : lcmM k lo hi ≤ timesM k lo hi := lcm_least oL oH hmost0 l0 (mu_mul oL oH) (by rw [times_comm]; exact mu_mul oH oL)
    have e14 := ((e1.trans e2).trans e3).trans e4
    have emx : ∃ mx : Int, (if hi > lo then hi else lo) = mx ∧ 0 < mx ∧ mx ≤ lcmM k lo hi ∧ mx ≤ 40 := by
      refine ⟨_, rfl, ?_⟩
      split <;> exact ⟨by omega, by omega, by omega⟩
    obtain ⟨mx, hmx, mx0, mxl, mx40⟩ := emx
    refine q_forR2 (lo := mx) (n := timesM k lo hi + 1) (ea_cons (ev_is (ev_max2 (ev_var (v := .int lo) rfl) (ev_var (v := .int hi) rfl)) (by rw [hmx])) (ea_cons (ev_op (ev_var (v := .int (timesM k lo hi)) rfl) (ev_c (v := .int 1)) rv_I0) ea_nil)) (by omega)
      (fun i σ' H' => ∃ y5 : Option V, σ' = [some (.str (ks k)), some (.int a), some (.int b), some (.int lo), some (.int hi), y5, some (.ref pf), some (.int (timesM k lo hi))] ∧ Evl.Ex H4 H' ∧ ∀ j : Nat, j < i → ¬ (Mu k lo (mx + j) ∧ Mu k hi (mx + j)))
      (fun H5 e5 => ⟨none, rfl, e5, fun j h => absurd h (Nat.not_lt_zero _)⟩) ?_ ?_
    · rintro i σ' H5 hi' ⟨y5, rfl, e5, hno⟩
      have zx : sz (mx + (i : Int)) ≤ 13 := sz_c (by omega)
      have ox : Ok k (mx + (i : Int)) := Ok.of_le (by omega)
      refine s_when (et_and (et_B (ev_call (two_then (ev_var rfl) (ev_var (v := .int (mx + (i : Int))) rfl) (ev_var (v := .int lo) rfl)) (c_lmult k (mx + (i : Int)) lo ox L0 (by omega) (by omega)))) fun _ => et_B (ev_call (two_then (ev_var rfl) (ev_var (v := .int (mx + (i : Int))) rfl) (ev_var (v := .int hi) rfl)) (c_lmult k (mx + (i : Int)) hi ox H0 (by omega) (by omega)))) (fun h H6 e6 => ?_) (fun h H6 e6 => ?_)
      · rw [Bool.and_eq_true] at h
        have c1 := of_decide_eq_true h.1
        have c2 := of_decide_eq_true h.2
        have hle := lcm_least oL oH (by omega) l0 c1 c2
        have heq : mx + (i : Int) = lcmM k lo hi := by
          rcases Int.lt_or_le (lcmM k lo hi) (mx + (i : Int)) with hlt | hge
          · exfalso
            refine hno (lcmM k lo hi - mx).toNat (by omega) ?_
            have e : mx + (((lcmM k lo hi - mx).toNat : Nat) : Int) = lcmM k lo hi := by omega
            rw [e]; exact ⟨ml, mh⟩
          · omega
        refine s_retL (el_lst (ea_cons (hmax rfl (e5.trans e6)) (ea_cons (ev_is (ev_var rfl) (by rw [heq])) ea_nil)) l2) fun p H7 np e7 hp => ?_
        exact q p H7 (fresh_back ((e14.trans e5).trans e6) np) (((e14.trans e5).trans e6).trans e7) hp
      · refine ⟨_, rfl, e5.trans e6, fun j hj => ?_⟩
        rcases Nat.lt_or_ge j i with hlt | hge
        · exact hno j hlt
        · have : j = i := by omega
          subst this
          rintro ⟨c1, c2⟩
          rw [decide_eq_true c1, decide_eq_true c2] at h
          cases h
    · rintro σ' H5 ⟨y5, rfl, e5, hno⟩
      exfalso
      refine hno (lcmM k lo hi - mx).toNat (by omega) ?_
      have e : mx + (((lcmM k lo hi - mx).toNat : Nat) : Int) = lcmM k lo hi := by omega
      rw [e]; exact ⟨ml, mh⟩
end
end Hr
namespace Hr
open PySem PySem.Spec PyProof.Rows L2 Evl
section
variable {P : Program} {w : World} {K : PySem.W.Frag} {mg : Str → Option Value} {base : Heap}
/-! ### any value: data, and the empty dict -/
def tyD : PyData → String
  | .none => "NoneType"
  | .bool _ => "bool"
  | .int _ => "int"
  | .str _ => "str"
  | .list _ => "list"
  | .tuple _ => "tuple"
  | .dict _ => "dict"
inductive Jv (K : PySem.W.Frag) (H : Hp) : V → PyData → Prop
  | dat {x : V} {d : PyData} : Dp K H x d → Jv K H x d
  | emp {p : Addr} : H p = some (.dK []) → Jv K H (.ref p) (.dict [])
theorem jv_ex {K : PySem.W.Frag} {H H1 : Hp} {x : V} {d : PyData} (e : Evl.Ex H H1) (h : Jv K H x d) : Jv K H1 x d := by
  cases h with
  | dat h => exact .dat (dp_ex e d x h)
  | emp h => exact .emp (e _ _ h)
theorem ty_jv {K : PySem.W.Frag} {H : Hp} {x : V} {d : PyData} (h : Jv K H x d) : TyX K H x (.type (tyD d)) := by
  cases h with
  | emp h => exact .base (.dK h)
  | dat h =>
    cases h with
    | non => exact .base .non
    | bl b => exact .base (.bl b)
    | int i => exact .base (.int i)
    | str s => exact .base (.str s)
    | lst a b =>
      rcases a with (a | ⟨o, a⟩) | ⟨o, its, n, a, c, _⟩
      · exact .base (.lst a)
      · exact .base (.frz a)
      · exact .kList a c
    | tup a b =>
      rcases a with (a | ⟨o, a⟩) | ⟨o, its, n, a, c, _⟩
      · exact .base (.tup a)
      · exact .fTuple a
      · exact .kTuple a c
theorem rc_isiJ {K : PySem.W.Frag} {H : Hp} {x : V} {d : PyData} {T : String} {b : Bool} (h : Jv K H x d) (hb : kitB (tyD d) T = some b) : RC (rIsi K) [x, .ty T] H (.bl b) := rc_isi (fun _ e => ty_jv (jv_ex e h)) hb
def isInt : PyData → Bool
  | .int _ => true
  | .bool _ => true
  | _ => false
def isBool : PyData → Bool
  | .bool _ => true
  | _ => false
def isTup : PyData → Bool
  | .tuple _ => true
  | _ => false
theorem kit_int : ∀ d : PyData, kitB (tyD d) "int" = some (isInt d)
  | .none => (by decide +kernel : kitB "NoneType" "int" = some false)
  | .bool _ => (by decide +kernel : kitB "bool" "int" = some true)
  | .int _ => (by decide +kernel : kitB "int" "int" = some true)
  | .str _ => (by decide +kernel : kitB "str" "int" = some false)
  | .list _ => (by decide +kernel : kitB "list" "int" = some false)
  | .tuple _ => (by decide +kernel : kitB "tuple" "int" = some false)
  | .dict _ => (by decide +kernel : kitB "dict" "int" = some false)
theorem kit_bool : ∀ d : PyData, kitB (tyD d) "bool" = some (isBool d)
  | .none => (by decide +kernel : kitB "NoneType" "bool" = some false)
  | .bool _ => (by decide +kernel : kitB "bool" "bool" = some true)
  | .int _ => (by decide +kernel : kitB "int" "bool" = some false)
  | .str _ => (by decide +kernel : kitB "str" "bool" = some false)
  | .list _ => (by decide +kernel : kitB "list" "bool" = some false)
  | .tuple _ => (by decide +kernel : kitB "tuple" "bool" = some false)
  | .dict _ => (by decide +kernel : kitB "dict" "bool" = some false)
theorem kit_tup : ∀ d : PyData, kitB (tyD d) "tuple" = some (isTup d)
  | .none => (by decide +kernel : kitB "NoneType" "tuple" = some false)
  | .bool _ => (by decide +kernel : kitB "bool" "tuple" = some false)
  | .int _ => (by decide +kernel : kitB "int" "tuple" = some false)
  | .str _ => (by decide +kernel : kitB "str" "tuple" = some false)
  | .list _ => (by decide +kernel : kitB "list" "tuple" = some false)
  | .tuple _ => (by decide +kernel : kitB "tuple" "tuple" = some true)
  | .dict _ => (by decide +kernel : kitB "dict" "tuple" = some false)
/-- repr of such a value -/
def rReprX (K : PySem.W.Frag) : List V → Hp → VK → Prop := fun xs H Q => ∃ (x : V) (d : PyData), xs = [x] ∧ ((Dp K H x d ∧ neat d = true ∧ cost d ≤ 10000000 ∧ d.depth ≤ 50) ∨ (d = .dict [] ∧ ∃ p, x = .ref p ∧ H p = some (.dK []))) ∧ Q (.str d.shown) H
theorem cr_reprX {X : Cx} {k : Nat} (hr : Rm k X.A) : CallR X (.builtin "repr") (rReprX X.K) := by
  intro pins s σ H xs us Q I r h
  obtain ⟨x, d, rfl, hd | ⟨rfl, p, rfl, hp⟩, q⟩ := h
  · exact cr_repr hr pins s σ H _ us Q I r ⟨x, d, rfl, hd.1, hd.2.1, hd.2.2.1, hd.2.2.2, q⟩
  · obtain ⟨u, rfl, rv⟩ := vals1 r
    obtain rfl : u = Value.ref p := rv
    obtain ⟨hz, hS, vs, kv, m⟩ := dk_of I.hok hp
    cases kv
    obtain ⟨o, es, ep, h1, h2, h3, _, h5, _⟩ := m
    have he : es.toList = [] := by cases h5' : es.toList with
      | nil => rfl
      | cons a b => rw [h5'] at h5; cases h5
    have rd : Reads s.heap (.ref p) (.dict []) (p :: [] ++ []) := .dict h1 h2.1 h3 (by rw [he]; exact .nil) (by rw [he]; exact .nil)
    refine repr_of_reads' rd (by decide +kernel) (fun _ => ?_) hr.quiet (by have := hr.room.units; show _ + (1 + 1) < _; omega) (fun _ _ e => e) (fun h' v tk kk => ⟨.str _, H, I.kept (t' := tk) kk, ⟨v, rfl⟩, q⟩) (by decide +kernel)
    intro hm
    rcases List.mem_cons.mp hm with e | e
    · rw [← e] at hS; simp at hS
    · simp at e
/-! what is a number, a paper, of any value -/
def wholeD : PyData → Bool
  | .int _ => true
  | _ => false
def numD (k : Kd) : PyData → Bool
  | .int i => isH k || decide (0 ≤ i)
  | _ => false
def spWholeD (K : PySem.W.Frag) : Sp := fun vs H Q _ => ∃ (x : V) (d : PyData), vs = [x] ∧ Jv K H x d ∧ ∀ H', Evl.Ex H H' → Q (.bl (wholeD d)) H'
theorem whole_is (d : PyData) : wholeD d = (isInt d && !isBool d) := by cases d <;> rfl
theorem d_is_whole_D (D : Def K mg "is_whole" s_is_whole P_is_whole) (z_isinstance : mg "isinstance" = none) (z_int : mg "int" = none) (z_bool : mg "bool" = none) : Has P w K mg base 1 "is_whole" P_is_whole (spWholeD K) := by
  refine D.hasS sc_is_whole (by rintro _ _ _ _ ⟨x, d, rfl, _⟩; rfl) (fun g cdv A out s H vs Q E hr h => ?_)
  obtain ⟨x, d, rfl, hj, q⟩ := h
  refine ⟨_, (pss_one (ps_ret (pe_and (pe_callB call_isi (by rfl) z_isinstance (by decide +kernel) (pa_cons (pv 0) (pa_cons (pe_bltn (v := .ty "int") (by rfl) z_int (by decide +kernel) rfl) pa_nil))) (pe_one (pe_not (pe_callB call_isi (by rfl) z_isinstance (by decide +kernel) (pa_cons (pv 0) (pa_cons (pe_bltn (v := .ty "bool") (by rfl) z_bool (by decide +kernel) rfl) pa_nil)))))))), ?_⟩
  exact s_ret (ev_is (ev_andV (ev_cb (ea_cons (ev_var rfl) (ea_cons ev_c ea_nil)) (rc_isiJ hj (kit_int d))) fun _ => ev_notV (ev_cb (ea_cons (ev_var rfl) (ea_cons ev_c ea_nil)) (rc_isiJ hj (kit_bool d)))) (by rw [whole_is])) fun H2 e2 => q H2 e2
def spNumberD (K : PySem.W.Frag) : Sp := fun vs H Q _ => ∃ (k : Kd) (x : V) (d : PyData), vs = [.str (ks k), x] ∧ Jv K H x d ∧ ∀ H', Evl.Ex H H' → Q (.bl (numD k d)) H'
theorem c_numD {K : PySem.W.Frag} {H : Hp} {k : Kd} {x : V} {d : PyData} (h : Jv K H x d) : SpV (spNumberD K) [.str (ks k), x] H (.bl (numD k d)) := fun H1 e _ q _ => ⟨k, x, d, rfl, jv_ex e h, fun H' e' => q H' e'⟩
theorem d_is_number_D (D : Def K mg "is_number" s_is_number P_is_number) (h_is_whole_D : Has P w K mg base 1 "is_whole" P_is_whole (spWholeD K)) : Has P w K mg base 2 "is_number" P_is_number (spNumberD K) := by
  have h_is_whole := h_is_whole_D
  refine D.hasS sc_is_number (by rintro _ _ _ _ ⟨k, x, d, rfl, _⟩; rfl) (fun g cdv A out s H vs Q E hr h => ?_)
  obtain ⟨k, x, d, rfl, hj, q⟩ := h
  refine ⟨_, (pss_one (ps_ret (pe_and (pe_h h_is_whole hr (pa_cons (pv 1) pa_nil)) (pe_one (pe_or (pe_cmpR op_eq (pv 0) pe_str (nomark _)) (pe_one (pe_cmpR op_ge (pv 1) pe_int (nomark _)))))))), ?_⟩
  have hw : Ev (tCall (spWholeD K) [] E0 (tCons (tVar 1) tNil)) (start N_is_number [.str (ks k), x]) H (.bl (wholeD d)) := ev_call (ea_cons (ev_var rfl) ea_nil) (fun H1 e _ q _ => ⟨x, d, rfl, jv_ex e hj, fun H' e' => q H' e'⟩)
  by_cases hwd : wholeD d = true
  · obtain ⟨i, rfl⟩ : ∃ i, d = .int i := by
      cases d <;> first | exact ⟨_, rfl⟩ | cases hwd
    obtain rfl : x = .int i := by cases hj with | dat h => cases h; rfl
    refine s_ret (ev_is (ev_andV (b := isH k || decide (0 ≤ i)) hw fun _ => ev_orV (ev_kind (ev_var rfl)) fun _ => ev_op (ev_var rfl) ev_c rv_I0) ?_) fun H2 e2 => q H2 e2
    rfl
  · have hwf : wholeD d = false := by simpa using hwd
    refine s_ret (ev_is (ev_andV (b := false) hw fun h => by rw [hwf] at h; cases h) ?_) fun H2 e2 => q H2 e2
    rw [hwf]
    cases d <;> first | rfl | cases hwf
end
end Hr
namespace Hr
open PySem PySem.Spec PyProof.Rows L2 Evl
section
variable {P : Program} {w : World} {K : PySem.W.Frag} {mg : Str → Option Value} {base : Heap}
def paperI (k : Kd) (a b c p q x y : Int) : Bool := !decide (c < 0) && ((decide (timesM k c p = a) && decide (timesM k c q = b)) && decide (plusM k (timesM k a x) (timesM k b y) = c))
def paperD (k : Kd) (a b : Int) : PyData → Bool
  | .tuple [.int c, .int p, .int q, .int x, .int y] => (numD k (.int c) && (numD k (.int p) && (numD k (.int q) && (numD k (.int x) && numD k (.int y))))) && paperI k a b c p q x y
  | _ => false
def Good (e : PyData) : Prop := e.canLay0 = true ∧ e.depth ≤ 10 ∧ ∀ i, e = .int i → sz i ≤ 1000
def GoodV (d : PyData) : Prop := ∀ ds, d = .tuple ds → ∀ e ∈ ds, Good e
def spJudge (K : PySem.W.Frag) : Sp := fun vs H Q _ => ∃ (k : Kd) (a b : Int) (x : V) (d : PyData), vs = [.str (ks k), .int a, .int b, x] ∧ (Ok k a ∧ Ok k b) ∧ (sz a ≤ 150 ∧ sz b ≤ 150) ∧ Jv K H x d ∧ GoodV d ∧ ∀ H', Evl.Ex H H' → Q (.bl (paperD k a b d)) H'
theorem paper_not {k : Kd} {a b : Int} {d : PyData} (h : isTup d = false) : paperD k a b d = false := by
  cases d <;> first | rfl | cases h
theorem paper_len {k : Kd} {a b : Int} {ds : List PyData} (h : ds.length ≠ 5) : paperD k a b (.tuple ds) = false := by
  unfold paperD
  split
  · rename_i heq
    simp only [PyData.tuple.injEq] at heq
    subst heq; exact absurd rfl h
  · rfl
theorem paper_num {k : Kd} {a b : Int} {d1 d2 d3 d4 d5 : PyData} (h : (numD k d1 && (numD k d2 && (numD k d3 && (numD k d4 && numD k d5)))) = false) : paperD k a b (.tuple [d1, d2, d3, d4, d5]) = false := by
  unfold paperD
  split
  · rename_i heq
    simp only [PyData.tuple.injEq, List.cons.injEq, and_true] at heq
    obtain ⟨rfl, rfl, rfl, rfl, rfl⟩ := heq
    rw [h]; rfl
  · rfl
theorem num_int {k : Kd} {d : PyData} (h : numD k d = true) : ∃ i, d = .int i ∧ Ok k i := by
  cases d with
  | int i =>
    refine ⟨i, rfl, ?_⟩
    cases k
    · trivial
    · have : (false || decide (0 ≤ i)) = true := h
      rw [Bool.false_or] at this
      show 0 ≤ i
      exact of_decide_eq_true this
  | _ => cases h
theorem len5 {α : Type} {xs : List α} (h : xs.length = 5) : ∃ a b c d e, xs = [a, b, c, d, e] := by
  match xs, h with
  | [a, b, c, d, e], _ => exact ⟨a, b, c, d, e, rfl⟩
theorem dps5 {K : PySem.W.Frag} {H : Hp} {xs : List V} {d1 d2 d3 d4 d5 : PyData} (h : DpAll K H xs [d1, d2, d3, d4, d5]) : ∃ x1 x2 x3 x4 x5, xs = [x1, x2, x3, x4, x5] ∧ Dp K H x1 d1 ∧ Dp K H x2 d2 ∧ Dp K H x3 d3 ∧ Dp K H x4 d4 ∧ Dp K H x5 d5 := by
  cases h with | cons h1 h => cases h with | cons h2 h => cases h with | cons h3 h => cases h with | cons h4 h => cases h with | cons h5 h => cases h; exact ⟨_, _, _, _, _, rfl, h1, h2, h3, h4, h5⟩
theorem at5' {x1 x2 x3 x4 x5 : V} {K : PySem.W.Frag} {H : Hp} {d1 d2 d3 d4 d5 : PyData} (h1 : Dp K H x1 d1) (h2 : Dp K H x2 d2) (h3 : Dp K H x3 d3) (h4 : Dp K H x4 d4) (h5 : Dp K H x5 d5) {i : Nat} {u : V} (h : [x1, x2, x3, x4, x5][i]? = some u) : Dp K H u ([d1, d2, d3, d4, d5].getD i .none) ∧ u = [x1, x2, x3, x4, x5].getD i .non := by
  match i, h with
  | 0, h => cases Option.some.inj h; exact ⟨h1, rfl⟩
  | 1, h => cases Option.some.inj h; exact ⟨h2, rfl⟩
  | 2, h => cases Option.some.inj h; exact ⟨h3, rfl⟩
  | 3, h => cases Option.some.inj h; exact ⟨h4, rfl⟩
  | 4, h => cases Option.some.inj h; exact ⟨h5, rfl⟩
  | i + 5, h => simp at h
theorem d_is_divisor_paper (D : Def K mg "is_divisor_paper" s_is_divisor_paper P_is_divisor_paper) (h_check_two : Has P w K mg base 4 "check_two" P_check_two spCheckTwo) (h_is_number_D : Has P w K mg base 2 "is_number" P_is_number (spNumberD K))
    (h_times : Has P w K mg base 1 "times" P_times spTimes) (h_plus : Has P w K mg base 1 "plus" P_plus spPlus) (z_isinstance : mg "isinstance" = none) (z_tuple : mg "tuple" = none) (z_len : mg "len" = none) (z_all : mg "all" = none) : Has P w K mg base 5 "is_divisor_paper" P_is_divisor_paper (spJudge K) := by
  have h_is_number := h_is_number_D
  refine D.hasS sc_is_divisor_paper (by rintro _ _ _ _ ⟨k, a, b, x, d, rfl, _⟩; rfl) (fun g cdv A out s H vs Q E hr h => ?_)
  obtain ⟨k, a, b, v, d, rfl, ⟨oa, ob⟩, ⟨za, zb⟩, hj, hg, hq⟩ := h
  refine ⟨_, (pss_cons (ps_expr (pe_h h_check_two hr (pa_cons (pv 0) (pa_cons (pv 1) (pa_cons (pv 2) pa_nil)))))
      (pss_cons (ps_if (PW.pt (pw_or (pt_not (pt_val (pe_callB call_isi (by rfl) z_isinstance (by decide +kernel) (pa_cons (pv 3) (pa_cons (pe_bltn (v := .ty "tuple") (by rfl) z_tuple (by decide +kernel) rfl) pa_nil))))) (pw_or1 (pt_cmpR op_ne (pe_callB call_len_seq (by rfl) z_len (by decide +kernel) (pa_cons (pv 3) pa_nil)) pe_int (nomark _))))) (pss_one (ps_ret pe_bl)) pss_nil)
      (pss_cons (ps_if (PW.pt (pw_or (pt_not (pt_val (pe_callB (cr_all rfl) (by rfl) z_all (by decide +kernel) (pa_cons (pe_lc (own := [("item", 9)]) (g := gName 9) rfl sc_is_divisor_paper.nd (pi_tup (pv 3)) (blkOk_by (own := [("item", 9)]) (N := N_is_divisor_paper) (sc := defScope s_is_divisor_paper) (by decide +kernel)) (fun _ _ _ _ _ => (pg_name (i := 9) sc_is_divisor_paper.nd rfl (.inl rfl))) (fun _ _ _ _ _ => pts_nil) (fun _ _ _ _ _ => (pe_h h_is_number hr (pa_cons (pv 0) (pa_cons (pv 9) pa_nil))))) pa_nil)))) (pw_or1 (pt_cmpR op_lt (pe_ix ix_tup (pv 3) pe_int (fun _ _ => rfl)) pe_int (nomark _))))) (pss_one (ps_ret pe_bl)) pss_nil)
      (pss_cons (ps_asg (pv 3) (pg_tup rfl (pgs_cons (pg_name (i := 4) sc_is_divisor_paper.nd rfl (.inl rfl)) (pgs_cons (pg_name (i := 5) sc_is_divisor_paper.nd rfl (.inl rfl)) (pgs_cons (pg_name (i := 6) sc_is_divisor_paper.nd rfl (.inl rfl)) (pgs_cons (pg_name (i := 7) sc_is_divisor_paper.nd rfl (.inl rfl)) (pgs_cons (pg_name (i := 8) sc_is_divisor_paper.nd rfl (.inl rfl)) pgs_nil)))))))
      (pss_cons (ps_if (PW.pt (pw_or (pt_cmpR op_ne (pe_h h_times hr (pa_cons (pv 0) (pa_cons (pv 4) (pa_cons (pv 5) pa_nil)))) (pv 1) (nomark _)) (pw_or1 (pt_cmpR op_ne (pe_h h_times hr (pa_cons (pv 0) (pa_cons (pv 4) (pa_cons (pv 6) pa_nil)))) (pv 2) (nomark _))))) (pss_one (ps_ret pe_bl)) pss_nil)
      (pss_one (ps_ret (pe_cmpR op_eq (pe_h h_plus hr (pa_cons (pv 0) (pa_cons (pe_h h_times hr (pa_cons (pv 0) (pa_cons (pv 1) (pa_cons (pv 7) pa_nil)))) (pa_cons (pe_h h_times hr (pa_cons (pv 0) (pa_cons (pv 2) (pa_cons (pv 8) pa_nil)))) pa_nil)))) (pv 4) (nomark _))))))))), ?_⟩
  refine q_drop (ev_call (two_then (ev_var rfl) (ev_var rfl) (ev_var rfl)) (spv_P (k, a, b) ⟨oa, ob⟩)) fun H1 e1 => ?_
  have hj1 := jv_ex e1 hj
  by_cases ht : isTup d = true
  · obtain ⟨ds, rfl⟩ : ∃ ds, d = .tuple ds := by
      cases d <;> first | exact ⟨_, rfl⟩ | cases ht
    obtain ⟨r, xs, rfl, hS, hds⟩ : ∃ r xs, v = .ref r ∧ SqT K H1 r xs ∧ DpAll K H1 xs ds := by
      cases hj1 with | dat h => cases h with | tup a b => exact ⟨_, _, rfl, a, b⟩
    have hlen := dps_len hds
    by_cases h5 : ds.length = 5
    · refine q_when (b := false) (et_is (et_or (et_not (et_B (ev_is (ev_cb (ea_cons (ev_var rfl) (ea_cons ev_c ea_nil)) (rc_isiJ hj1 (kit_tup _))) (show _ = V.bl true from rfl)))) fun _ => et_test (ev_op (ev_lenT (ev_var rfl) hS) ev_c (rv_ne rfl))) (by rw [hlen, h5]; decide +kernel)) (fun h => by cases h) (fun _ H2 e2 => ?_)
      obtain ⟨d1, d2, d3, d4, d5, rfl⟩ := len5 h5
      obtain ⟨x1, x2, x3, x4, x5, rfl, p1, p2, p3, p4, p5⟩ := dps5 hds
      have hS2 := ex_t e2 hS
      have hall : Ev (tCB (rAll K) (tCons (tLc (iTup K (tVar 3)) (gName 9) tYes (tCall (spNumberD K) [] E0 (tCons (tVar 0) (tCons (tVar 9) tNil))) [9]) tNil)) (start N_is_divisor_paper [.str (ks k), .int a, .int b, .ref r]) H2 (.bl (numD k d1 && (numD k d2 && (numD k d3 && (numD k d4 && numD k d5))))) := by
        refine ev_is (rc_allB (bs := [numD k d1, numD k d2, numD k d3, numD k d4, numD k d5]) (el_lcT9 (xs := [x1, x2, x3, x4, x5]) (fun _ => true) (fun i => .bl (numD k ([d1, d2, d3, d4, d5].getD i .none))) (ev_var rfl) hS2 (by show 5 ≤ 40000; decide) (fun _ => rfl) (fun _ _ _ _ _ => et_yes) ?_)) (by simp only [List.all_cons, List.all_nil, id, Bool.and_true])
        intro i u H3 e3 hi _
        have hu := (at5' p1 p2 p3 p4 p5 hi).1
        exact ev_call (ea_cons (ev_var rfl) (ea_cons (ev_var rfl) ea_nil)) (c_numD (.dat (dp_ex (e2.trans e3) _ _ hu)))
      by_cases hn : (numD k d1 && (numD k d2 && (numD k d3 && (numD k d4 && numD k d5)))) = true
      · have hn' := hn
        simp only [Bool.and_eq_true] at hn'
        obtain ⟨n1, n2, n3, n4, n5⟩ := hn'
        obtain ⟨c, rfl, oc⟩ := num_int n1
        obtain ⟨p, rfl, op⟩ := num_int n2
        obtain ⟨q, rfl, oq⟩ := num_int n3
        obtain ⟨x, rfl, ox⟩ := num_int n4
        obtain ⟨y, rfl, oy⟩ := num_int n5
        cases p1; cases p2; cases p3; cases p4; cases p5
        have gz : ∀ i, PyData.int i ∈ [PyData.int c, .int p, .int q, .int x, .int y] → sz i ≤ 1000 := fun i hi => (hg _ rfl _ hi).2.2 i rfl
        have zc := gz c (by simp)
        have zp := gz p (by simp)
        have zq := gz q (by simp)
        have zx := gz x (by simp)
        have zy := gz y (by simp)
        have hpd : paperD k a b (.tuple [.int c, .int p, .int q, .int x, .int y]) = paperI k a b c p q x y := by
          show (_ && paperI k a b c p q x y) = _
          rw [hn, Bool.true_and]
        rw [hpd] at hq
        refine q_when (b := decide (c < 0)) (et_is (et_or (et_not (et_B hall)) fun _ => et_test (ev_op (ev_op (ev_var rfl) ev_c (rv_ixT (i := 0) hS2 rfl)) ev_c rv_I0)) (by rw [hn]; rfl)) (fun h H3 e3 => ?_) (fun h H3 e3 => ?_)
        · refine s_ret (ev_is ev_c ?_) fun H4 e4 => hq H4 (((e1.trans e2).trans e3).trans e4)
          unfold paperI; rw [h]; rfl
        · have hS3 := ex_t e3 hS2
          refine ⟨_, rfl, r, _, rfl, hS3, rfl, .int c, _, rfl, .int p, _, rfl, .int q, _, rfl, .int x, _, rfl, .int y, _, rfl, rfl, ?_⟩
          dsimp only
          refine q_when (et_or (et_test (ev_op (ev_call (two_then (ev_var rfl) (ev_var rfl) (ev_var rfl)) (c_times k c p oc op (by omega) (by omega))) (ev_var (v := .int a) rfl) (rv_ne rfl))) fun _ => et_test (ev_op (ev_call (two_then (ev_var rfl) (ev_var rfl) (ev_var rfl)) (c_times k c q oc oq (by omega) (by omega))) (ev_var (v := .int b) rfl) (rv_ne rfl))) (fun h' H4 e4 => ?_) (fun h' H4 e4 => ?_)
          · refine s_ret (ev_is ev_c ?_) fun H5 e5 => hq H5 ((((e1.trans e2).trans e3).trans e4).trans e5)
            unfold paperI
            simp only [V.int.injEq] at h'
            rw [← Bool.not_and] at h'
            rw [Bool.not_eq_true'] at h'
            rw [h', Bool.false_and, Bool.and_false]
          · refine s_ret (ev_is (ev_op (ev_call (two_then (ev_var rfl) (ev_call (two_then (ev_var rfl) (ev_var rfl) (ev_var rfl)) (c_times k a x oa ox (by omega) (by omega))) (ev_call (two_then (ev_var rfl) (ev_var rfl) (ev_var rfl)) (c_times k b y ob oy (by omega) (by omega)))) (c_plus k (timesM k a x) (timesM k b y) (ok_times oa ox) (ok_times ob oy))) (ev_var (v := .int c) rfl) (rv_eq rfl)) ?_) fun H5 e5 => hq H5 ((((e1.trans e2).trans e3).trans e4).trans e5)
            unfold paperI
            simp only [V.int.injEq] at h' ⊢
            rw [← Bool.not_and, Bool.not_eq_false'] at h'
            rw [h, h']; rfl
      · have hnf : (numD k d1 && (numD k d2 && (numD k d3 && (numD k d4 && numD k d5)))) = false := by simpa using hn
        refine q_when (b := true) (et_is (et_or (b := false) (et_not (et_B hall)) fun h => by rw [hnf] at h; cases h) (by rw [hnf]; rfl)) (fun _ H3 e3 => ?_) (fun h => by cases h)
        exact s_ret (ev_is ev_c (by rw [paper_num hnf])) fun H4 e4 => hq H4 (((e1.trans e2).trans e3).trans e4)
    · refine q_when (b := true) (et_is (et_or (et_not (et_B (ev_is (ev_cb (ea_cons (ev_var rfl) (ea_cons ev_c ea_nil)) (rc_isiJ hj1 (kit_tup _))) (show _ = V.bl true from rfl)))) fun _ => et_test (ev_op (ev_lenT (ev_var rfl) hS) ev_c (rv_ne rfl))) ?_) (fun _ H2 e2 => ?_) (fun h => by cases h)
      · have : decide (V.int (xs.length : Int) = V.int 5) = false := decide_eq_false (by rw [V.int.injEq]; omega)
        rw [this]; rfl
      · exact s_ret (ev_is ev_c (by rw [paper_len h5])) fun H3 e3 => hq H3 ((e1.trans e2).trans e3)
  · have htf : isTup d = false := by simpa using ht
    refine q_when (b := true) (et_is (et_or (b := false) (et_not (et_B (ev_cb (ea_cons (ev_var rfl) (ea_cons ev_c ea_nil)) (rc_isiJ hj1 (kit_tup _))))) fun h => by rw [htf] at h; cases h) (by rw [htf]; rfl)) (fun _ H2 e2 => ?_) (fun h => by cases h)
    exact s_ret (ev_is ev_c (by rw [paper_not htf])) fun H3 e3 => hq H3 ((e1.trans e2).trans e3)
end
end Hr
namespace Hr
open PySem PySem.Spec PyProof.Rows L2 Evl
section
variable {P : Program} {w : World} {K : PySem.W.Frag} {mg : Str → Option Value} {base : Heap}
def negD : PyData → Bool
  | .int i => decide (i < 0)
  | _ => false
def badD (k : Kd) (d : PyData) : Bool := isBool d || (!isInt d || (!isH k && negD d))
theorem bad_is (k : Kd) (d : PyData) : badD k d = !numD k d := by
  cases d with
  | int i =>
    show (false || (false || (!isH k && decide (i < 0)))) = !(isH k || decide (0 ≤ i))
    cases isH k
    · by_cases h : i < 0
      · rw [decide_eq_true h, decide_eq_false (show ¬ 0 ≤ i by omega)]; rfl
      · rw [decide_eq_false h, decide_eq_true (show 0 ≤ i by omega)]; rfl
    · rfl
  | _ => rfl
theorem et_kindB {σ : L2.St} {H : Hp} {k : Kd} {ta : TE} (h : Ev ta σ H (.str (ks k))) : EvT (tTest (tOp rEq ta (tC (.str "bits")))) σ H (!isH k) :=
  et_is (et_test (ev_op h ev_c (rv_eq rfl))) (by cases k <;> decide +kernel)
theorem eqv_nilD : ∀ ds : List PyData, PyData.eqv (.list ds) (.list []) = ds.isEmpty
  | [] => rfl
  | _ :: _ => rfl
theorem can_good : ∀ ds : List PyData, (∀ e ∈ ds, Good e) → PyData.canLayAll0 ds = true ∧ PyData.depthAll ds ≤ 10
  | [], _ => ⟨rfl, by show (0 : Nat) ≤ 10; decide⟩
  | d :: ds, h => by
    obtain ⟨h1, h2⟩ := can_good ds fun e he => h e (List.mem_cons_of_mem _ he)
    obtain ⟨g1, g2, _⟩ := h d (by simp)
    refine ⟨?_, ?_⟩
    · show (PyData.canLay0 d && PyData.canLayAll0 ds) = true
      rw [g1, h1]; rfl
    · show max (PyData.depth d) (PyData.depthAll ds) ≤ 10
      omega
theorem shaped_good {ds : List PyData} (h : ∀ e ∈ ds, Good e) : SeqAt.shaped (.list ds) = true := by
  obtain ⟨h1, h2⟩ := can_good ds h
  show (PyData.canLayAll0 ds && decide (PyData.depth (.list ds) ≤ 64)) = true
  rw [h1, Bool.true_and]
  apply decide_eq_true
  show PyData.depthAll ds + 1 ≤ 64
  omega
theorem dps_given {K : PySem.W.Frag} {H : Hp} {f : Nat → Bool} {v : Nat → V} {w : Nat → PyData} : ∀ n : Nat, (∀ i, i < n → Dp K H (v i) (w i)) → DpAll K H (given n f v) (((List.range n).filter f).map w)
  | 0, _ => .nil
  | n + 1, h => by
    have ih := dps_given (f := f) n fun i hi => h i (by omega)
    cases hf : f n with
    | true =>
      rw [given_yes hf, List.range_succ, List.filter_append, List.map_append]
      have : List.filter f [n] = [n] := by simp [hf]
      rw [this]
      exact dps_app ih (.cons (h n (by omega)) .nil)
    | false =>
      rw [given_no hf, List.range_succ, List.filter_append, List.map_append]
      have : List.filter f [n] = [] := by simp [hf]
      rw [this, List.map_nil, List.append_nil]; exact ih
theorem ed_given {K : PySem.W.Frag} {σ : L2.St} {H : Hp} {te : TE} {n : Nat} {f : Nat → Bool} {v : Nat → V} {w : Nat → PyData} (h : EvL te σ H (given n f v)) (hd : ∀ i, i < n → Dp K H (v i) (w i)) : EvD K te σ H (.list (((List.range n).filter f).map w)) := fun H1 e Q q =>
  h H1 e _ fun p H2 _ e2 h2 => q (.ref p) H2 e2 (.lst (sq_of h2) (dps_given n fun i hi => dp_ex (e.trans e2) _ _ (hd i hi)))
theorem d_law_is_paper (D : Def K mg "_law_is_paper" s_law_is_paper P_law_is_paper) (h_law_times : Has P w K mg base 1 "_law_times" P_law_times spTimes) (h_law_add : Has P w K mg base 1 "_law_add" P_law_add spPlus)
    (z_isinstance : mg "isinstance" = none) (z_tuple : mg "tuple" = none) (z_len : mg "len" = none) (z_bool : mg "bool" = none) (z_int : mg "int" = none) : Has P w K mg base 2 "_law_is_paper" P_law_is_paper (spJudge K) := by
  refine D.hasS sc_law_is_paper (by rintro _ _ _ _ ⟨k, a, b, x, d, rfl, _⟩; rfl) (fun g cdv A out s H vs Q E hr h => ?_)
  obtain ⟨k, a, b, v, d, rfl, ⟨oa, ob⟩, ⟨za, zb⟩, hj1, hg, hq⟩ := h
  refine ⟨_, (pss_cons (ps_if (PW.pt (pw_or (pt_not (pt_val (pe_callB call_isi (by rfl) z_isinstance (by decide +kernel) (pa_cons (pv 3) (pa_cons (pe_bltn (v := .ty "tuple") (by rfl) z_tuple (by decide +kernel) rfl) pa_nil))))) (pw_or1 (pt_cmpR op_ne (pe_callB call_len_seq (by rfl) z_len (by decide +kernel) (pa_cons (pv 3) pa_nil)) pe_int (nomark _))))) (pss_one (ps_ret pe_bl)) pss_nil)
      (pss_cons (ps_if (pt_cmpR (op_neD hr.room.units) (pe_lc (own := [("_law_item", 9)]) (g := gName 9) rfl sc_law_is_paper.nd (pi_tup (pv 3)) (blkOk_by (own := [("_law_item", 9)]) (N := N_law_is_paper) (sc := defScope s_law_is_paper) (by decide +kernel)) (fun _ _ _ _ _ => (pg_name (i := 9) sc_law_is_paper.nd rfl (.inl rfl))) (fun _ _ _ _ _ => (pts_one (PW.pt (pw_or (pt_val (pe_callB (id := "isinstance") (r := rIsi K) call_isi (by rfl) z_isinstance (by decide +kernel) (pa_cons (pv 9) (pa_cons (pe_bltn (v := .ty "bool") (by rfl) z_bool (by decide +kernel) rfl) pa_nil)))) (pw_or (pt_not (pt_val (pe_callB (id := "isinstance") (r := rIsi K) call_isi (by rfl) z_isinstance (by decide +kernel) (pa_cons (pv 9) (pa_cons (pe_bltn (v := .ty "int") (by rfl) z_int (by decide +kernel) rfl) pa_nil))))) (pw_or1 (PW.pt (pw_and (pt_cmpR op_eq (pv 0) pe_str (nomark _)) (pw_and1 (pt_cmpR op_lt (pv 9) pe_int (nomark _))))))))))) (fun _ _ _ _ _ => (pv 9))) (pe_lst pa_nil) (nomark _)) (pss_one (ps_ret pe_bl)) pss_nil)
      (pss_cons (ps_asg (pv 3) (pg_tup rfl (pgs_cons (pg_name (i := 4) sc_law_is_paper.nd rfl (.inl rfl)) (pgs_cons (pg_name (i := 5) sc_law_is_paper.nd rfl (.inl rfl)) (pgs_cons (pg_name (i := 6) sc_law_is_paper.nd rfl (.inl rfl)) (pgs_cons (pg_name (i := 7) sc_law_is_paper.nd rfl (.inl rfl)) (pgs_cons (pg_name (i := 8) sc_law_is_paper.nd rfl (.inl rfl)) pgs_nil)))))))
      (pss_cons (ps_if (PW.pt (pw_or (pt_cmpR op_lt (pv 4) pe_int (nomark _)) (pw_or (pt_cmpR op_ne (pe_h h_law_times hr (pa_cons (pv 0) (pa_cons (pv 4) (pa_cons (pv 5) pa_nil)))) (pv 1) (nomark _)) (pw_or1 (pt_cmpR op_ne (pe_h h_law_times hr (pa_cons (pv 0) (pa_cons (pv 4) (pa_cons (pv 6) pa_nil)))) (pv 2) (nomark _)))))) (pss_one (ps_ret pe_bl)) pss_nil)
      (pss_one (ps_ret (pe_cmpR op_eq (pe_h h_law_add hr (pa_cons (pv 0) (pa_cons (pe_h h_law_times hr (pa_cons (pv 0) (pa_cons (pv 1) (pa_cons (pv 7) pa_nil)))) (pa_cons (pe_h h_law_times hr (pa_cons (pv 0) (pa_cons (pv 2) (pa_cons (pv 8) pa_nil)))) pa_nil)))) (pv 4) (nomark _)))))))), ?_⟩
  by_cases ht : isTup d = true
  · obtain ⟨ds, rfl⟩ : ∃ ds, d = .tuple ds := by
      cases d <;> first | exact ⟨_, rfl⟩ | cases ht
    obtain ⟨r, xs, rfl, hS, hds⟩ : ∃ r xs, v = .ref r ∧ SqT K H r xs ∧ DpAll K H xs ds := by
      cases hj1 with | dat h => cases h with | tup a b => exact ⟨_, _, rfl, a, b⟩
    have hlen := dps_len hds
    by_cases h5 : ds.length = 5
    · refine q_when (b := false) (et_is (et_or (et_not (et_B (ev_is (ev_cb (ea_cons (ev_var rfl) (ea_cons ev_c ea_nil)) (rc_isiJ hj1 (kit_tup _))) (show _ = V.bl true from rfl)))) fun _ => et_test (ev_op (ev_lenT (ev_var rfl) hS) ev_c (rv_ne rfl))) (by rw [hlen, h5]; decide +kernel)) (fun h => by cases h) (fun _ H2 e2 => ?_)
      obtain ⟨d1, d2, d3, d4, d5, rfl⟩ := len5 h5
      obtain ⟨x1, x2, x3, x4, x5, rfl, p1, p2, p3, p4, p5⟩ := dps5 hds
      have hS2 := ex_t e2 hS
      have hbad : EvD K (tLc (iTup K (tVar 3)) (gName 9) (tOr (tB (tCB (rIsi K) (tCons (tVar 9) (tCons (tC (.ty "bool")) tNil)))) (tOr (tNot (tB (tCB (rIsi K) (tCons (tVar 9) (tCons (tC (.ty "int")) tNil))))) (tAnd (tTest (tOp rEq (tVar 0) (tC (.str "bits")))) (tTest (tOp (rI0 fun i j => .bl (decide (i < j))) (tVar 9) (tC (.int 0))))))) (tVar 9) [9])
          (start N_law_is_paper [.str (ks k), .int a, .int b, .ref r]) H2 (.list (((List.range 5).filter fun i => badD k ([d1, d2, d3, d4, d5].getD i .none)).map fun i => [d1, d2, d3, d4, d5].getD i .none)) := by
        refine ed_given (v := fun i => [x1, x2, x3, x4, x5].getD i .non) (el_lcT9 (xs := [x1, x2, x3, x4, x5]) _ _ (ev_var rfl) hS2 (by show 5 ≤ 40000; decide) (fun _ => rfl) (fun i u H3 e3 hi => ?_) (fun i u H3 e3 hi _ => ?_)) fun i hi => ?_
        · obtain ⟨hu, _⟩ := at5' p1 p2 p3 p4 p5 hi
          have hu3 : Dp K H3 u ([d1, d2, d3, d4, d5].getD i .none) := dp_ex (e2.trans e3) _ _ hu
          generalize [d1, d2, d3, d4, d5].getD i .none = d at hu3 ⊢
          have hj3 : Jv K H3 u d := .dat hu3
          refine et_or (et_B (ev_cb (ea_cons (ev_var rfl) (ea_cons ev_c ea_nil)) (rc_isiJ hj3 (kit_bool d)))) fun hb => et_or (et_not (et_B (ev_cb (ea_cons (ev_var rfl) (ea_cons ev_c ea_nil)) (rc_isiJ hj3 (kit_int d))))) fun hi' => et_and (et_kindB (ev_var rfl)) fun _ => ?_
          obtain ⟨j, rfl⟩ : ∃ j, d = .int j := by
            cases d with
            | int j => exact ⟨j, rfl⟩
            | bool b => cases hb
            | _ => cases hi'
          cases hu3
          exact et_test (ev_op (ev_var rfl) ev_c rv_I0)
        · have := (at5' p1 p2 p3 p4 p5 hi).2
          exact ev_is (ev_var rfl) this
        · have hx : [x1, x2, x3, x4, x5][i]? = some ([x1, x2, x3, x4, x5].getD i .non) := by
            have hi5 : i < [x1, x2, x3, x4, x5].length := hi
            rw [List.getD_eq_getElem?_getD, List.getElem?_eq_getElem hi5]; rfl
          exact dp_ex e2 _ _ (at5' p1 p2 p3 p4 p5 hx).1
      have hgood : ∀ e ∈ ((List.range 5).filter fun i => badD k ([d1, d2, d3, d4, d5].getD i .none)).map (fun i => [d1, d2, d3, d4, d5].getD i .none), Good e := by
        intro e he
        obtain ⟨i, hi, rfl⟩ := List.mem_map.mp he
        have hi5 : i < 5 := List.mem_range.mp (List.mem_filter.mp hi).1
        refine hg _ rfl _ ?_
        have hl : i < [d1, d2, d3, d4, d5].length := hi5
        rw [List.getD_eq_getElem?_getD, List.getElem?_eq_getElem hl]
        exact List.getElem_mem hl
      have hdec := et_test (ev_neD (K := K) hbad (ed_lst eds_nil (by decide)) (shaped_good hgood) (shaped_ints []))
      by_cases hn : (numD k d1 && (numD k d2 && (numD k d3 && (numD k d4 && numD k d5)))) = true
      · have hn' := hn
        simp only [Bool.and_eq_true] at hn'
        obtain ⟨n1, n2, n3, n4, n5⟩ := hn'
        have hnone : (List.range 5).filter (fun i => badD k ([d1, d2, d3, d4, d5].getD i .none)) = [] := by
          show List.filter _ [0, 1, 2, 3, 4] = []
          simp only [List.filter_cons, List.filter_nil, bad_is]
          simp [n1, n2, n3, n4, n5]
        rw [hnone] at hdec
        obtain ⟨c, rfl, oc⟩ := num_int n1
        obtain ⟨p, rfl, op⟩ := num_int n2
        obtain ⟨q, rfl, oq⟩ := num_int n3
        obtain ⟨x, rfl, ox⟩ := num_int n4
        obtain ⟨y, rfl, oy⟩ := num_int n5
        cases p1; cases p2; cases p3; cases p4; cases p5
        have gz : ∀ i, PyData.int i ∈ [PyData.int c, .int p, .int q, .int x, .int y] → sz i ≤ 1000 := fun i hi => (hg _ rfl _ hi).2.2 i rfl
        have zc := gz c (by simp)
        have zp := gz p (by simp)
        have zq := gz q (by simp)
        have zx := gz x (by simp)
        have zy := gz y (by simp)
        have hpd : paperD k a b (.tuple [.int c, .int p, .int q, .int x, .int y]) = paperI k a b c p q x y := by
          show (_ && paperI k a b c p q x y) = _
          rw [hn, Bool.true_and]
        rw [hpd] at hq
        refine q_when (b := false) (et_is hdec (by rw [List.map_nil]; rfl)) (fun h => by cases h) (fun _ H3 e3 => ?_)
        have hS3 := ex_t e3 hS2
        refine ⟨_, rfl, r, _, rfl, hS3, rfl, .int c, _, rfl, .int p, _, rfl, .int q, _, rfl, .int x, _, rfl, .int y, _, rfl, rfl, ?_⟩
        dsimp only
        refine q_when (et_or (et_test (ev_op (ev_var (v := .int c) rfl) (ev_c (v := .int 0)) rv_I0)) fun _ => et_or (et_test (ev_op (ev_call (two_then (ev_var rfl) (ev_var rfl) (ev_var rfl)) (c_times k c p oc op (by omega) (by omega))) (ev_var (v := .int a) rfl) (rv_ne rfl))) fun _ => et_test (ev_op (ev_call (two_then (ev_var rfl) (ev_var rfl) (ev_var rfl)) (c_times k c q oc oq (by omega) (by omega))) (ev_var (v := .int b) rfl) (rv_ne rfl))) (fun h' H4 e4 => ?_) (fun h' H4 e4 => ?_)
        · refine s_ret (ev_is ev_c ?_) fun H5 e5 => hq H5 (((e2.trans e3).trans e4).trans e5)
          unfold paperI
          simp only [V.int.injEq] at h'
          rw [← Bool.not_and] at h'
          cases hc : decide (c < 0) with
          | true => rfl
          | false =>
            have h2 : (decide (timesM k c p = a) && decide (timesM k c q = b)) = false := by
              have h3 : (decide (c < 0) || !(decide (timesM k c p = a) && decide (timesM k c q = b))) = true := h'
              rw [hc, Bool.false_or, Bool.not_eq_true'] at h3; exact h3
            rw [h2]; rfl
        · refine s_ret (ev_is (ev_op (ev_call (two_then (ev_var rfl) (ev_call (two_then (ev_var rfl) (ev_var rfl) (ev_var rfl)) (c_times k a x oa ox (by omega) (by omega))) (ev_call (two_then (ev_var rfl) (ev_var rfl) (ev_var rfl)) (c_times k b y ob oy (by omega) (by omega)))) (c_plus k (timesM k a x) (timesM k b y) (ok_times oa ox) (ok_times ob oy))) (ev_var (v := .int c) rfl) (rv_eq rfl)) ?_) fun H5 e5 => hq H5 (((e2.trans e3).trans e4).trans e5)
          unfold paperI
          simp only [V.int.injEq] at h' ⊢
          rw [← Bool.not_and] at h'
          have h3 : (decide (c < 0) || !(decide (timesM k c p = a) && decide (timesM k c q = b))) = false := h'
          rw [Bool.or_eq_false_iff, Bool.not_eq_false'] at h3
          rw [h3.1, h3.2]; rfl
      · have hnf : (numD k d1 && (numD k d2 && (numD k d3 && (numD k d4 && numD k d5)))) = false := by simpa using hn
        refine q_when (b := true) (et_is hdec ?_) (fun _ H3 e3 => ?_) (fun h => by cases h)
        · rw [eqv_nilD]
          cases hf : (List.range 5).filter (fun i => badD k ([d1, d2, d3, d4, d5].getD i .none)) with
          | cons i l => rfl
          | nil =>
            exfalso
            rw [List.filter_eq_nil_iff] at hf
            have g : ∀ i, i < 5 → numD k ([d1, d2, d3, d4, d5].getD i .none) = true := fun i hi => by
              have := hf i (List.mem_range.mpr hi)
              rw [bad_is] at this
              simpa using this
            have g0 : numD k d1 = true := g 0 (by decide)
            have g1 : numD k d2 = true := g 1 (by decide)
            have g2 : numD k d3 = true := g 2 (by decide)
            have g3 : numD k d4 = true := g 3 (by decide)
            have g4 : numD k d5 = true := g 4 (by decide)
            rw [g0, g1, g2, g3, g4] at hnf; cases hnf
        · exact s_ret (ev_is ev_c (by rw [paper_num hnf])) fun H4 e4 => hq H4 ((e2.trans e3).trans e4)
    · refine q_when (b := true) (et_is (et_or (et_not (et_B (ev_is (ev_cb (ea_cons (ev_var rfl) (ea_cons ev_c ea_nil)) (rc_isiJ hj1 (kit_tup _))) (show _ = V.bl true from rfl)))) fun _ => et_test (ev_op (ev_lenT (ev_var rfl) hS) ev_c (rv_ne rfl))) ?_) (fun _ H2 e2 => ?_) (fun h => by cases h)
      · have : decide (V.int (xs.length : Int) = V.int 5) = false := decide_eq_false (by rw [V.int.injEq]; omega)
        rw [this]; rfl
      · exact s_ret (ev_is ev_c (by rw [paper_len h5])) fun H3 e3 => hq H3 (e2.trans e3)
  · have htf : isTup d = false := by simpa using ht
    refine q_when (b := true) (et_is (et_or (b := false) (et_not (et_B (ev_cb (ea_cons (ev_var rfl) (ea_cons ev_c ea_nil)) (rc_isiJ hj1 (kit_tup _))))) fun h => by rw [htf] at h; cases h) (by rw [htf]; rfl)) (fun _ H2 e2 => ?_) (fun h => by cases h)
    exact s_ret (ev_is ev_c (by rw [paper_not htf])) fun H3 e3 => hq H3 (e2.trans e3)
end
end Hr
namespace Hr
open PySem PySem.Spec PyProof.Rows L2 Evl
section
variable {P : Program} {w : World} {K : PySem.W.Frag} {mg : Str → Option Value} {base : Heap}
/-! ### tuples by their values -/
section
variable {K : PySem.W.Frag} {σ : L2.St} {H : Hp} {te ta tb : TE} {tl th : TO} {tr : TA} {vs us : List V} {D : Ends} {g : TG} {tu tz : TS}
def EvX (te : TE) (σ : L2.St) (H : Hp) (vs : List V) : Prop := ∀ H1, Evl.Ex H H1 → ∀ Q : VK, (∀ t H2, Evl.Ex H1 H2 → H2 t = some (.tup vs) → Q (.ref t) H2) → te σ H1 Q
theorem ex_var {i : Nat} {r : Addr} (h : σ[i]? = some (some (.ref r))) (hr : H r = some (.tup vs)) : EvX (tVar i) σ H vs := fun H1 e Q q => ⟨_, h, q r H1 (Evl.Ex.refl H1) (e _ _ hr)⟩
theorem ex_tup (h : EvU te σ H vs) : EvX te σ H vs := fun H1 e Q q => h H1 e Q fun p H2 _ e2 h2 => q p H2 e2 h2
theorem ex_sl {lo hi : Option Int} (h : EvX te σ H vs) (h1 : EvO tl σ H lo) (h2 : EvO th σ H hi) : EvX (tSl (rSlA K) te tl th) σ H (cutV vs lo hi) := fun H1 e Q q =>
  h H1 e _ fun t H2 e2 ht => h1 H2 (e.trans e2) _ fun H3 e3 => h2 H3 ((e.trans e2).trans e3) _ fun H4 e4 => by
    have ht4 := e4 _ _ (e3 _ _ ht)
    refine ⟨t, vs, rfl, st_of ht4, fun hw => ?_, fun _ p hp => q p _ (((e2.trans e3).trans e4).trans (Evl.Ex.new hp)) upd_same⟩
    refine q t H4 ((e2.trans e3).trans e4) ?_
    have : cutV vs lo hi = vs := by
      unfold cutV
      rw [hw.1, hw.2, List.drop_zero, Nat.sub_zero, List.take_length]
    rw [this]; exact ht4
theorem ex_cat (ha : EvX ta σ H vs) (hb : EvX tb σ H us) (hz : vs.length + us.length ≤ 100000) : EvX (tOp (rCatA K) ta tb) σ H (vs ++ us) := fun H1 e Q q =>
  ha H1 e _ fun t H2 e2 ht => hb H2 (e.trans e2) _ fun t2 H3 e3 ht2 => by
    refine ⟨t, t2, vs, us, rfl, rfl, st_of (e3 _ _ ht), st_of ht2, sz_of hz, fun h0 => ?_, fun _ h0 => ?_, fun _ _ p hp => q p _ ((e2.trans e3).trans (Evl.Ex.new hp)) upd_same⟩
    · refine q t2 H3 (e2.trans e3) ?_
      rw [h0, List.nil_append]; exact ht2
    · refine q t H3 (e2.trans e3) ?_
      rw [h0, List.append_nil]; exact e3 _ _ ht
theorem s_appX {l : Addr} {xs : List V} (hl : H l = some (.lst xs)) (ha : Ev ta σ H (.ref l)) (h : EvX te σ H vs) (hz : xs.length < 100000) (k : ∀ t H1, Evl.Ex H H1 → H1 t = some (.tup vs) → D.nx σ (upd H1 l (.lst (xs ++ [.ref t])))) :
    tDrop (tBM K "list" rAppend ta (tCons te tNil)) D σ H := ha H (Evl.Ex.refl H) _ fun H1 e1 =>
  ⟨Or.inl ⟨rfl, xs, sq_of (e1 l _ hl)⟩, h H1 e1 _ fun t H2 e2 h2 => ⟨l, xs, .ref t, rfl, rfl, e2 l _ (e1 l _ hl), sz_lt hz, k t H2 (e1.trans e2) h2⟩⟩
theorem a_consX {R : List V → Hp → Prop} (h : EvX te σ H vs) (k : ∀ t H1, Evl.Ex H H1 → H1 t = some (.tup vs) → tr σ H1 fun xs H2 => R (.ref t :: xs) H2) : tCons te tr σ H R := h H (Evl.Ex.refl H) _ k
theorem a_consL {R : List V → Hp → Prop} (h : EvL te σ H vs) (k : ∀ p H1, H p = none → Evl.Ex H H1 → H1 p = some (.lst vs) → tr σ H1 fun xs H2 => R (.ref p :: xs) H2) : tCons te tr σ H R := h H (Evl.Ex.refl H) _ k
theorem a_nil {R : List V → Hp → Prop} (h : R [] H) : tNil σ H R := h
theorem s_forItems {ta : TA} (h : ta σ H fun vs H1 => vs.length ≤ sizeLine ∧ ∀ q, H1 q = none → tFor (fun _ _ R => ∃ a, V.ref q = .ref a ∧ (∃ xs, SqL K (upd H1 q (.lst vs)) a xs) ∧ R (Itl K a) (upd H1 q (.lst vs))) g tu D σ (upd H1 q (.lst vs))) : tFor (iList K (tLst ta)) g tu D σ H := h
theorem q_asgLst {i : Nat} {ta : TA} (h : ta σ H fun vs H1 => vs.length ≤ sizeLine ∧ ∀ q, H1 q = none → tz D (σ.set i (some (.ref q))) (upd H1 q (.lst vs))) : tSeq (tAsg (tLst ta) (gName i)) tz D σ H := h
end
/-! ### rows of values that stay while one list grows -/
def IG (e : PyData) : Prop := Good e ∧ neat e = true ∧ cost e ≤ 5000 ∧ e.depth ≤ 5
def Itm (K : PySem.W.Frag) (pr : Addr) (H : Hp) (u : V) : Prop := ∃ e, (∀ H', Keep pr H H' → Dp K H' u e) ∧ IG e
def Row (K : PySem.W.Frag) (pr : Addr) (H : Hp) (v : V) : Prop := ∃ d, (∀ H', Keep pr H H' → Jv K H' v d) ∧ GoodV d ∧ ((neat d = true ∧ cost d ≤ 10000000 ∧ d.depth ≤ 50) ∨ d = .dict [])
theorem row_keep {K : PySem.W.Frag} {pr : Addr} {H H' : Hp} {v : V} (k : Keep pr H H') (h : Row K pr H v) : Row K pr H' v := by
  obtain ⟨d, h1, h2, h3⟩ := h
  exact ⟨d, fun H2 k2 => h1 H2 (k.trans k2), h2, h3⟩
theorem itm_keep {K : PySem.W.Frag} {pr : Addr} {H H' : Hp} {v : V} (k : Keep pr H H') (h : Itm K pr H v) : Itm K pr H' v := by
  obtain ⟨d, h1, h2⟩ := h
  exact ⟨d, fun H2 k2 => h1 H2 (k.trans k2), h2⟩
theorem ig_int {i : Int} (h : sz i ≤ 1000) : IG (.int i) := by
  refine ⟨⟨rfl, Nat.zero_le _, fun j e => by cases e; exact h⟩, decide_eq_true (by have := log_sz i; omega), Nat.le_of_ble_eq_true rfl, Nat.zero_le _⟩
theorem itm_int {K : PySem.W.Frag} {pr : Addr} {H : Hp} {i : Int} (h : sz i ≤ 1000) : Itm K pr H (.int i) := ⟨.int i, fun _ _ => .int i, ig_int h⟩
theorem itm_non {K : PySem.W.Frag} {pr : Addr} {H : Hp} : Itm K pr H .non := ⟨.none, fun _ _ => .non, ⟨rfl, Nat.zero_le _, fun j e => by cases e⟩, rfl, Nat.le_of_ble_eq_true rfl, Nat.zero_le _⟩
theorem itm_true {K : PySem.W.Frag} {pr : Addr} {H : Hp} : Itm K pr H (.bl true) := ⟨.bool true, fun _ _ => .bl true, ⟨rfl, Nat.zero_le _, fun j e => by cases e⟩, rfl, Nat.le_of_ble_eq_true rfl, Nat.zero_le _⟩
theorem itm_one {K : PySem.W.Frag} {pr : Addr} {H : Hp} : Itm K pr H (.str "1") := ⟨.str "1", fun _ _ => .str "1", ⟨by decide +kernel, Nat.zero_le _, fun j e => by cases e⟩, by decide +kernel, by decide +kernel, Nat.zero_le _⟩
theorem itm_list {K : PySem.W.Frag} {pr l : Addr} {H : Hp} (h : H l = some (.lst [.int 1])) (n : l ≠ pr) : Itm K pr H (.ref l) :=
  ⟨.list [.int 1], fun H' k => .lst (sq_of (k _ _ h n)) (.cons (.int 1) .nil), ⟨rfl, by decide, fun j e => by cases e⟩, by decide +kernel, by decide +kernel, by decide⟩
theorem itms {K : PySem.W.Frag} {pr : Addr} {H : Hp} : ∀ {vs : List V}, (∀ u ∈ vs, Itm K pr H u) → ∃ ds, (∀ H', Keep pr H H' → DpAll K H' vs ds) ∧ (∀ e ∈ ds, IG e) ∧ ds.length = vs.length
  | [], _ => ⟨[], fun _ _ => .nil, (by simp), rfl⟩
  | u :: vs, h => by
    obtain ⟨e, h1, h2⟩ := h u (by simp)
    obtain ⟨ds, g1, g2, g3⟩ := itms fun w hw => h w (List.mem_cons_of_mem _ hw)
    refine ⟨e :: ds, fun H' k => .cons (h1 H' k) (g1 H' k), fun w hw => ?_, by rw [List.length_cons, List.length_cons, g3]⟩
    rcases List.mem_cons.mp hw with z | z
    · rw [z]; exact h2
    · exact g2 w z
theorem ig_all : ∀ {ds : List PyData}, (∀ e ∈ ds, IG e) → neats ds = true ∧ costs ds ≤ 5002 * ds.length ∧ PyData.depthAll ds ≤ 5
  | [], _ => ⟨rfl, Nat.le_refl _, Nat.zero_le _⟩
  | d :: ds, h => by
    obtain ⟨a, b, c⟩ := ig_all fun e he => h e (List.mem_cons_of_mem _ he)
    obtain ⟨_, g2, g3, g4⟩ := h d (by simp)
    refine ⟨?_, ?_, ?_⟩
    · show (neat d && neats ds) = true
      rw [g2, a]; rfl
    · show cost d + 2 + costs ds ≤ 5002 * (ds.length + 1)
      omega
    · show max (PyData.depth d) (PyData.depthAll ds) ≤ 5
      omega
theorem row_tup {K : PySem.W.Frag} {pr t : Addr} {H : Hp} {vs : List V} (h : H t = some (.tup vs)) (n : t ≠ pr) (hl : vs.length ≤ 20) (hi : ∀ u ∈ vs, Itm K pr H u) : Row K pr H (.ref t) := by
  obtain ⟨ds, g1, g2, g3⟩ := itms hi
  obtain ⟨a, b, c⟩ := ig_all g2
  refine ⟨.tuple ds, fun H' k => .dat (.tup (st_of (k _ _ h n)) (g1 H' k)), fun ds' e => by cases e; exact fun w hw => (g2 w hw).1, .inl ⟨a, ?_, ?_⟩⟩
  · show costs ds + 3 ≤ 10000000
    rw [g3] at b; omega
  · show PyData.depthAll ds + 1 ≤ 50
    omega
theorem row_lst {K : PySem.W.Frag} {pr t : Addr} {H : Hp} {vs : List V} (h : H t = some (.lst vs)) (n : t ≠ pr) (hl : vs.length ≤ 20) (hi : ∀ u ∈ vs, Itm K pr H u) : Row K pr H (.ref t) := by
  obtain ⟨ds, g1, g2, g3⟩ := itms hi
  obtain ⟨a, b, c⟩ := ig_all g2
  refine ⟨.list ds, fun H' k => .dat (.lst (sq_of (k _ _ h n)) (g1 H' k)), (fun ds' e => by cases e), .inl ⟨a, ?_, ?_⟩⟩
  · show costs ds + 3 ≤ 10000000
    rw [g3] at b; omega
  · show PyData.depthAll ds + 1 ≤ 50
    omega
theorem row_non {K : PySem.W.Frag} {pr : Addr} {H : Hp} : Row K pr H .non := ⟨.none, fun _ _ => .dat .non, (fun ds e => by cases e), .inl ⟨rfl, by decide +kernel, by decide⟩⟩
theorem row_seven {K : PySem.W.Frag} {pr : Addr} {H : Hp} : Row K pr H (.int 7) := ⟨.int 7, fun _ _ => .dat (.int 7), (fun ds e => by cases e), .inl ⟨by decide +kernel, by decide +kernel, by decide⟩⟩
theorem row_dict {K : PySem.W.Frag} {pr t : Addr} {H : Hp} (h : H t = some (.dK [])) (n : t ≠ pr) : Row K pr H (.ref t) := ⟨.dict [], fun H' k => .emp (k _ _ h n), (fun ds e => by cases e), .inr rfl⟩
theorem paper_gcd {k : Kd} {a b c p q x y : Int} (oa : Ok k a) (ob : Ok k b) (oc : Ok k c) (op : Ok k p) (oq : Ok k q) (ox : Ok k x) (oy : Ok k y) (h : paperI k a b c p q x y = true) : c = gcdM k a b := by
  unfold paperI at h
  simp only [Bool.and_eq_true, Bool.not_eq_true', decide_eq_true_eq, decide_eq_false_iff_not] at h
  obtain ⟨c0, ⟨ha, hb⟩, hs⟩ := h
  have og : Ok k (gcdM k a b) := ok_gcd
  have m1 : Mu k c a := by rw [← ha]; exact mu_mul oc op
  have m2 : Mu k c b := by rw [← hb]; exact mu_mul oc oq
  have d1 := (gmN k).gg _ _ _ ((mu_iff oa oc).mp m1) ((mu_iff ob oc).mp m2)
  have g1 : Mu k (gcdM k a b) (timesM k a x) := mu_trans og oa (ok_times oa ox) (gcd_mu_left oa) (mu_mul oa ox)
  have g2 : Mu k (gcdM k a b) (timesM k b y) := mu_trans og ob (ok_times ob oy) (gcd_mu_right ob) (mu_mul ob oy)
  have g3 : Mu k (gcdM k a b) c := by
    rw [← plus_left (ok_times oa ox) (ok_times ob oy) hs] at g2
    exact mu_back oc (ok_times oa ox) og g2 g1
  have d2 := (mu_iff oc og).mp g3
  have e := (gmN k).anti' (a := c.natAbs) (b := (gcdM k a b).natAbs) d1 d2
  have : 0 ≤ gcdM k a b := Int.natCast_nonneg _
  omega
end
end Hr
namespace Hr
open PySem PySem.Spec PyProof.Rows L2 Evl
section
variable {P : Program} {w : World} {K : PySem.W.Frag} {mg : Str → Option Value} {base : Heap}
theorem c_judge {K : PySem.W.Frag} {H : Hp} {k : Kd} {a b : Int} {x : V} {d : PyData} (oa : Ok k a) (ob : Ok k b) (za : sz a ≤ 150) (zb : sz b ≤ 150) (h : Jv K H x d) (hg : GoodV d) : SpV (spJudge K) [.str (ks k), .int a, .int b, x] H (.bl (paperD k a b d)) :=
  fun H1 e _ q _ => ⟨k, a, b, x, d, rfl, ⟨oa, ob⟩, ⟨za, zb⟩, jv_ex e h, hg, fun H' e' => q H' e'⟩
theorem rc_reprX {K : PySem.W.Frag} {H : Hp} {x : V} {d : PyData} (h : Jv K H x d) (hd : (neat d = true ∧ cost d ≤ 10000000 ∧ d.depth ≤ 50) ∨ d = .dict []) : RC (rReprX K) [x] H (.str d.shown) := fun H1 e _ q => by
  cases jv_ex e h with
  | dat hx =>
    refine ⟨x, d, rfl, .inl ⟨hx, ?_⟩, q H1 (Evl.Ex.refl H1)⟩
    rcases hd with hd | hd
    · exact hd
    · subst hd; cases hx
  | emp hp => exact ⟨_, _, rfl, .inr ⟨rfl, _, rfl, hp⟩, q H1 (Evl.Ex.refl H1)⟩
theorem pap_told {k : Kd} {a b c p q x y : Int} (h : Pap k a b c p q x y) : paperD k a b (.tuple [.int c, .int p, .int q, .int x, .int y]) = true := by
  have c0 : ¬ c < 0 := by
    have : 0 ≤ gcdM k a b := Int.natCast_nonneg _
    rw [h.val]; omega
  have oc : Ok k c := by rw [h.val]; exact ok_gcd
  obtain ⟨op, oq, ox, oy⟩ := h.ok
  have hn : ∀ i, Ok k i → numD k (.int i) = true := fun i oi => by
    cases k
    · rfl
    · show (false || decide (0 ≤ i)) = true
      rw [decide_eq_true (show 0 ≤ i from oi)]; rfl
  show (_ && paperI k a b c p q x y) = true
  rw [hn c oc, hn p op, hn q oq, hn x ox, hn y oy]
  unfold paperI
  rw [h.lo, h.hi, h.sum, decide_eq_false c0, decide_eq_true rfl, decide_eq_true rfl, decide_eq_true rfl]; rfl
theorem el_listT {K : PySem.W.Frag} {σ : L2.St} {H : Hp} {ta : TE} {vs : List V} (h : EvX ta σ H vs) : EvL (tCB (rListS K) (tCons ta tNil)) σ H vs := fun H1 e Q q =>
  h H1 e _ fun t H2 e2 ht => ⟨t, vs, rfl, .inr (st_of ht), fun l hl => q l _ (fresh_back e2 hl) (e2.trans (Evl.Ex.new hl)) upd_same⟩
theorem a_consD {σ : L2.St} {H : Hp} {tr : TA} {R : List V → Hp → Prop} (k : ∀ p, H p = none → tr σ (upd H p (.dK [])) fun xs H2 => R (.ref p :: xs) H2) : tCons tDNewK tr σ H R := fun p hp => k p hp
theorem cut_mem {xs : List V} {lo hi : Option Int} {u : V} (h : u ∈ cutV xs lo hi) : u ∈ xs := List.mem_of_mem_drop (List.mem_of_mem_take h)
theorem keep_app {pr : Addr} {H H' : Hp} {o : HO} (e : Evl.Ex H H') : Keep pr H (upd H' pr o) := fun c u hc n => by rw [upd_ne n]; exact e _ _ hc
theorem q_appX {K : PySem.W.Frag} {σ : L2.St} {H : Hp} {te ta : TE} {vs : List V} {D : Ends} {tz : TS} {l : Addr} {xs : List V} (hl : H l = some (.lst xs)) (ha : Ev ta σ H (.ref l)) (h : EvX te σ H vs) (hz : xs.length < 100000) (k : ∀ t H1, Evl.Ex H H1 → H1 t = some (.tup vs) → tz D σ (upd H1 l (.lst (xs ++ [.ref t])))) :
    tSeq (tDrop (tBM K "list" rAppend ta (tCons te tNil))) tz D σ H := s_appX (D := { D with nx := tz D }) hl ha h hz k
theorem gen_keep {H H' : Hp} {a pr : Addr} {n : Nat} (G : GenAt H a n) (k : Keep pr H H') (h : a ≠ pr) : GenAt H' a n := by
  obtain ⟨s0, s1, s2, h0, r⟩ := G.ex
  exact ⟨s0, s1, s2, k _ _ h0 h, r⟩
theorem paper_shape {k : Kd} {a b : Int} {d : PyData} (h : paperD k a b d = true) : ∃ c p q x y, d = .tuple [.int c, .int p, .int q, .int x, .int y] ∧ (Ok k c ∧ Ok k p ∧ Ok k q ∧ Ok k x ∧ Ok k y) ∧ paperI k a b c p q x y = true := by
  unfold paperD at h
  split at h
  · rename_i c p q x y
    simp only [Bool.and_eq_true] at h
    obtain ⟨⟨n1, n2, n3, n4, n5⟩, hI⟩ := h
    have f : ∀ i, numD k (.int i) = true → Ok k i := fun i hi => by
      obtain ⟨j, e, oj⟩ := num_int hi
      cases e; exact oj
    exact ⟨c, p, q, x, y, rfl, ⟨f c n1, f p n2, f q n3, f x n4, f y n5⟩, hI⟩
  · cases h
def spRight (K : PySem.W.Frag) : Sp := fun vs H Q _ => ∃ (a : Addr) (k : Kd) (n : Nat), vs = [.ref a, .str (ks k)] ∧ GenAt H a n ∧ n ≤ 100000000 ∧ ∀ H', GenAt H' a (n + 1000) → Keep a H H' → Q (.bl true) H'
theorem d_law_right (D : Def K mg "_law_right" s_law_right P_law_right) (h_law_number : Has P w K mg base 3 "_law_number" P_law_number spLawNumber) (h_law_due : Has P w K mg base 3 "_law_due" P_law_due spDue)
    (h_divisor : Has P w K mg base 5 "divisor" P_divisor spGcd) (h_multiple : Has P w K mg base 5 "multiple" P_multiple spLcm) (h_divisor_paper : Has P w K mg base 5 "divisor_paper" P_divisor_paper spDF)
    (h_law_is_paper : Has P w K mg base 2 "_law_is_paper" P_law_is_paper (spJudge K)) (h_is_divisor_paper : Has P w K mg base 5 "is_divisor_paper" P_is_divisor_paper (spJudge K))
    (h_law_add : Has P w K mg base 1 "_law_add" P_law_add spPlus) (h_law_less : Has P w K mg base 1 "_law_less" P_law_less spMinus)
    (z_repr : mg "repr" = none) (z_list : mg "list" = none) (z_range : mg "range" = none) (z_abs : mg "abs" = none) :
    Has P w K mg base 6 "_law_right" P_law_right (spRight K) := by
  refine D.hasS sc_law_right (by rintro _ _ _ _ ⟨a, k, n, rfl, _⟩; rfl) (fun g cdv A out s H vs Q E hr h => ?_)
  obtain ⟨g0, k, n, rfl, G, hn, q⟩ := h
  refine ⟨_, (pss_cons (ps_par (i := 2) (j := 3) (by rfl) sc_law_right.nd rfl rfl (by decide) rfl rfl (pa_cons (pe_h h_law_number hr (pa_cons (pv 0) (pa_cons (pv 1) (pa_cons pe_int pa_nil)))) (pa_cons (pe_h h_law_number hr (pa_cons (pv 0) (pa_cons (pv 1) (pa_cons pe_int pa_nil)))) pa_nil)) (by rfl))
      (pss_cons (ps_set (i := 4) sc_law_right.nd rfl (.inl rfl) (pe_h h_law_due hr (pa_cons (pv 1) (pa_cons (pv 2) (pa_cons (pv 3) pa_nil)))))
      (pss_cons (ps_if (PW.pt (pw_or (pt_cmpR op_ne (pe_callB (cr_repr hr) (by rfl) z_repr (by decide +kernel) (pa_cons (pe_lst (pa_cons (pe_h h_divisor hr (pa_cons (pv 1) (pa_cons (pv 2) (pa_cons (pv 3) pa_nil)))) (pa_cons (pe_h h_multiple hr (pa_cons (pv 1) (pa_cons (pv 2) (pa_cons (pv 3) pa_nil)))) pa_nil))) pa_nil)) (pe_callB (cr_repr hr) (by rfl) z_repr (by decide +kernel) (pa_cons (pv 4) pa_nil)) (nomark _)) (pw_or1 (pt_cmpR op_ne (pe_h h_divisor hr (pa_cons (pv 1) (pa_cons (pv 3) (pa_cons (pv 2) pa_nil)))) (pe_ix ix_list (pv 4) pe_int (fun _ _ => rfl)) (nomark _))))) (pss_one (ps_ret pe_bl)) pss_nil)
      (pss_cons (ps_set (i := 5) sc_law_right.nd rfl (.inl rfl) (pe_h h_divisor_paper hr (pa_cons (pv 1) (pa_cons (pv 2) (pa_cons (pv 3) pa_nil)))))
      (pss_cons (ps_if (PW.pt (pw_or (pt_not (pt_val (pe_h h_law_is_paper hr (pa_cons (pv 1) (pa_cons (pv 2) (pa_cons (pv 3) (pa_cons (pv 5) pa_nil))))))) (pw_or1 (pt_cmpR op_ne (pe_ix ix_tup (pv 5) pe_int (fun _ _ => rfl)) (pe_ix ix_list (pv 4) pe_int (fun _ _ => rfl)) (nomark _))))) (pss_one (ps_ret pe_bl)) pss_nil)
      (pss_cons (ps_set (i := 6) sc_law_right.nd rfl (.inl rfl) (pe_lst (pa_cons (pv 5) (pa_cons (pe_slice sl_tupA (pv 5) po_none (po_some pe_int)) (pa_cons (pe_callTy call_list_of (by rfl) z_list (by decide +kernel) (pa_cons (pv 5) pa_nil)) (pa_cons (pe_op op_catA (pv 5) (pe_tup (pa_cons pe_int pa_nil))) (pa_cons pe_non (pa_cons pe_int (pa_cons (pe_tup pa_nil) (pa_cons pe_dnewK pa_nil))))))))))
      (pss_cut (ps_for PassesOwn.never rfl (pi_range1 (by rfl) z_range (pa_cons pe_int pa_nil)) (pg_name (i := 7) sc_law_right.nd rfl (.inl rfl)) (pss_one (ps_for PassesOwn.never rfl (pi_list (pe_lst (pa_cons (pe_op op_add (pe_ix ix_tup (pv 5) (pv 7) (fun _ _ => rfl)) pe_int) (pa_cons (pe_callB call_abs (by rfl) z_abs (by decide +kernel) (pa_cons (pe_op op_sub (pe_ix ix_tup (pv 5) (pv 7) (fun _ _ => rfl)) pe_int) pa_nil)) (pa_cons pe_int (pa_cons pe_int (pa_cons pe_non (pa_cons pe_bl (pa_cons pe_str (pa_cons (pe_lst (pa_cons pe_int pa_nil)) (pa_cons (pe_op op_sub pe_int (pe_ix ix_tup (pv 5) (pv 7) (fun _ _ => rfl))) (pa_cons (pe_un un_neg pe_int) pa_nil)))))))))))) (pg_name (i := 8) sc_law_right.nd rfl (.inl rfl)) (pss_one (ps_expr (pe_bm PySem.F.plainAttrs_list PySem.F.slot_list_append PySem.F.type_list_append mt_append (pv 6) (pa_cons (pe_op op_catA (pe_op op_catA (pe_slice sl_tupA (pv 5) po_none (po_some (pv 7))) (pe_tup (pa_cons (pv 8) pa_nil))) (pe_slice sl_tupA (pv 5) (po_some (pe_op op_add (pv 7) pe_int)) po_none)) pa_nil)))))))
      (pss_cut (ps_if (pt_cmpR op_gt (pe_ix ix_list (pv 4) pe_int (fun _ _ => rfl)) pe_int (nomark _)) (pss_one (ps_expr (pe_bm PySem.F.plainAttrs_list PySem.F.slot_list_append PySem.F.type_list_append mt_append (pv 6) (pa_cons (pe_tup (pa_cons (pe_ix ix_tup (pv 5) pe_int (fun _ _ => rfl)) (pa_cons (pe_ix ix_tup (pv 5) pe_int (fun _ _ => rfl)) (pa_cons (pe_ix ix_tup (pv 5) pe_int (fun _ _ => rfl)) (pa_cons (pe_h h_law_add hr (pa_cons (pv 1) (pa_cons (pe_ix ix_tup (pv 5) pe_int (fun _ _ => rfl)) (pa_cons (pe_ix ix_tup (pv 5) pe_int (fun _ _ => rfl)) pa_nil)))) (pa_cons (pe_h h_law_less hr (pa_cons (pv 1) (pa_cons (pe_ix ix_tup (pv 5) pe_int (fun _ _ => rfl)) (pa_cons (pe_ix ix_tup (pv 5) pe_int (fun _ _ => rfl)) pa_nil)))) pa_nil)))))) pa_nil)))) pss_nil)
      (pss_cons (ps_expr (pe_bm PySem.F.plainAttrs_list PySem.F.slot_list_append PySem.F.type_list_append mt_append (pv 6) (pa_cons (pe_tup (pa_cons pe_int (pa_cons (pv 2) (pa_cons (pv 3) (pa_cons (pe_ix ix_tup (pv 5) pe_int (fun _ _ => rfl)) (pa_cons (pe_ix ix_tup (pv 5) pe_int (fun _ _ => rfl)) pa_nil)))))) pa_nil)))
      (pss_cons (ps_for PassesOwn.never rfl (pi_list (pv 6)) (pg_name (i := 9) sc_law_right.nd rfl (.inl rfl)) (pss_cons (ps_par (i := 10) (j := 11) (by rfl) sc_law_right.nd rfl rfl (by decide) rfl rfl (pa_cons (pe_callB (cr_reprX hr) (by rfl) z_repr (by decide +kernel) (pa_cons (pv 9) pa_nil)) (pa_cons (pe_h h_law_is_paper hr (pa_cons (pv 1) (pa_cons (pv 2) (pa_cons (pv 3) (pa_cons (pv 9) pa_nil))))) pa_nil)) (by rfl))
      (pss_cons (ps_if (PW.pt (pw_or (pt_cmpR op_ne (pe_callB (cr_repr hr) (by rfl) z_repr (by decide +kernel) (pa_cons (pe_h h_is_divisor_paper hr (pa_cons (pv 1) (pa_cons (pv 2) (pa_cons (pv 3) (pa_cons (pv 9) pa_nil))))) pa_nil)) (pe_callB (cr_repr hr) (by rfl) z_repr (by decide +kernel) (pa_cons (pv 11) pa_nil)) (nomark _)) (pw_or1 (pt_cmpR op_ne (pe_callB (cr_reprX hr) (by rfl) z_repr (by decide +kernel) (pa_cons (pv 9) pa_nil)) (pv 10) (nomark _))))) (pss_one (ps_ret pe_bl)) pss_nil)
      (pss_one (ps_if (PW.pt (pw_and (pt_val (pv 11)) (pw_and1 (pt_cmpR op_ne (pe_ix ix_tup (pv 9) pe_int (fun _ _ => rfl)) (pe_ix ix_list (pv 4) pe_int (fun _ _ => rfl)) (nomark _))))) (pss_one (ps_ret pe_bl)) pss_nil)))))
      (pss_one (ps_ret pe_bl)))))))))))), ?_⟩
  -- two numbers
  refine q_parC ?_
  refine (ea_cons (ev_var rfl) (ea_cons (ev_var rfl) (ea_cons ev_c ea_nil)) : EvA _ _ H [.ref g0, .str (ks k), .int 24]) H (Evl.Ex.refl H) _ fun H1 e1 => ?_
  refine ⟨g0, k, 24, n, rfl, G.ex_of e1, by decide, by decide +kernel, by omega, fun a H2 Da G2 k2 => ?_⟩
  refine a_lastC ?_
  refine (ea_cons (ev_var rfl) (ea_cons (ev_var rfl) (ea_cons ev_c ea_nil)) : EvA _ _ H2 [.ref g0, .str (ks k), .int 24]) H2 (Evl.Ex.refl H2) _ fun H3 e3 => ?_
  refine ⟨g0, k, 24, _, rfl, G2.ex_of e3, by decide, by decide +kernel, by omega, fun b H4 Db G4 k4 => ⟨_, _, rfl, ?_⟩⟩
  dsimp only
  obtain ⟨oa, ba⟩ := Da
  obtain ⟨ob, bb⟩ := Db
  have za : sz a ≤ 5 := sz_c (by omega)
  have zb : sz b ≤ 5 := sz_c (by omega)
  have kp4 : Keep g0 H H4 := (((Keep.of e1).trans k2).trans (Keep.of e3)).trans k4
  have zg : sz (gcdM k a b) ≤ 5 := by
    by_cases na : a = 0
    · by_cases nb : b = 0
      · have e : gcdM k a b = 0 := by rw [na, nb, gcd_end]; rfl
        rw [e, sz_zero]; omega
      · exact Nat.le_trans (sz_gcd (.inr nb)) (by omega)
    · exact Nat.le_trans (sz_gcd (.inl na)) (by omega)
  have zl : sz (lcmM k a b) ≤ 10 := Nat.le_trans (sz_lcm oa ob) (by omega)
  -- what is due
  refine q_asgL (el_call (ea_cons (ev_var rfl) (ea_cons (ev_var rfl) (ea_cons (ev_var rfl) ea_nil))) (c_due (k := k) (a := a) (b := b) oa ob (by omega) (by omega))) fun pd H5 npd e5 hpd => ?_
  have dd : Dp K H5 (.ref pd) (.list [.int (gcdM k a b), .int (lcmM k a b)]) := .lst (sq_of hpd) (.cons (.int _) (.cons (.int _) .nil))
  have nt : neat (.list [.int (gcdM k a b), .int (lcmM k a b)]) = true := by
    have f : ∀ i : Int, sz i ≤ 1900 → decide (i.natAbs.log2 < 1920) = true := fun i h => decide_eq_true (by have := log_sz i; omega)
    show (decide _ && (decide _ && true)) = true
    rw [f _ (by omega), f _ (by omega)]; rfl
  refine q_when (b := false) (et_is (et_or (et_test (ev_op (ev_reprD (K := K) (ed_lst (eds_cons (ed_int (ev_call (two_then (ev_var rfl) (ev_var rfl) (ev_var rfl)) (c_gcd k a b oa ob (by omega) (by omega)))) (eds_cons (ed_int (ev_call (two_then (ev_var rfl) (ev_var rfl) (ev_var rfl)) (c_lcm k a b oa ob (by omega) (by omega)))) eds_nil)) (by show 2 ≤ 100000; decide)) nt (Nat.le_of_ble_eq_true rfl) (Nat.le_of_ble_eq_true rfl))
    (ev_reprD (K := K) (ed_var rfl dd) nt (Nat.le_of_ble_eq_true rfl) (Nat.le_of_ble_eq_true rfl)) (rv_ne rfl))) fun _ => et_test (ev_op (ev_is (ev_call (two_then (ev_var rfl) (ev_var rfl) (ev_var rfl)) (c_gcd k b a ob oa (by omega) (by omega))) (by rw [gcd_swap])) (ev_op (ev_var rfl) ev_c (rv_ixL (i := 0) (sq_of hpd) rfl)) (rv_ne rfl))) ?_) (fun h => by cases h) (fun _ H6 e6 => ?_)
  · rw [ne_falseS]
    show (false || (!decide (V.int (gcdM k a b) = V.int (gcdM k a b)))) = false
    rw [ne_falseI]; rfl
  -- the paper
  refine q_asgC ?_
  refine (two_then (ev_var rfl) (ev_var rfl) (ev_var rfl) : EvA _ _ H6 (a3 (k, a, b))) H6 (Evl.Ex.refl H6) _ fun H7 e7 => ?_
  refine ⟨k, a, b, rfl, ⟨oa, ob⟩, by omega, by omega, fun c p qq x y r H8 hp nr e8 hr8 => ?_⟩
  have hpt := pap_told hp
  obtain ⟨op, oq, ox, oy⟩ := hp.ok
  obtain ⟨zp, zq, zx, zy⟩ := hp.size
  have hv := hp.val
  have zc : sz c ≤ 5 := by rw [hv]; exact zg
  have e58 := (e6.trans e7).trans e8
  have hpd8 := e58 _ _ hpd
  have G8 : GenAt H8 g0 (n + 200) := ((G4.ex_of e5).ex_of e58).mono (by omega)
  have kp8 : Keep g0 H H8 := kp4.trans (Keep.of (e5.trans e58))
  have told : ∀ (pr : Addr) H', H' r = some (.tup [.int c, .int p, .int qq, .int x, .int y]) → r ≠ pr → Row K pr H' (.ref r) := fun pr H' h n => row_tup h n (by show 5 ≤ 20; decide) (by
    intro u hu
    simp only [List.mem_cons, List.not_mem_nil, or_false] at hu
    rcases hu with rfl | rfl | rfl | rfl | rfl <;> exact itm_int (by omega))
  have jt : Jv K H8 (.ref r) (.tuple [.int c, .int p, .int qq, .int x, .int y]) := .dat (.tup (st_of hr8) (.cons (.int _) (.cons (.int _) (.cons (.int _) (.cons (.int _) (.cons (.int _) .nil))))))
  have gt : GoodV (.tuple [.int c, .int p, .int qq, .int x, .int y]) := fun ds e => by
    cases e
    intro u hu
    simp only [List.mem_cons, List.not_mem_nil, or_false] at hu
    rcases hu with rfl | rfl | rfl | rfl | rfl <;> exact (ig_int (by omega)).1
  refine q_when (b := false) (et_is (et_or (et_not (et_B (ev_call (ea_cons (ev_var rfl) (ea_cons (ev_var rfl) (ea_cons (ev_var rfl) (ea_cons (ev_var rfl) ea_nil)))) (c_judge oa ob (by omega) (by omega) jt gt)))) fun _ => et_test (ev_op (ev_op (ev_var rfl) ev_c (rv_ixT (i := 0) (st_of hr8) rfl)) (ev_op (ev_var rfl) ev_c (rv_ixL (i := 0) (sq_of hpd8) rfl)) (rv_ne rfl))) ?_) (fun h => by cases h) (fun _ H9 e9 => ?_)
  · rw [hpt]
    show (!true || (!decide (V.int c = V.int (gcdM k a b)))) = false
    rw [hv, ne_falseI]; rfl
  have hr9 := e9 _ _ hr8
  have hpd9 := e9 _ _ hpd8
  -- the rows
  refine q_asgLst ?_
  refine a_cons (v := .ref r) (ev_var rfl) fun H10 e10 => ?_
  refine a_consX (ex_sl (ex_var rfl (e10 _ _ hr9)) eo_none (eo_some ev_c)) fun t1 H11 e11 ht1 => ?_
  refine a_consL (el_listT (ex_var rfl ((e10.trans e11) _ _ hr9))) fun t2 H12 nt2 e12 ht2 => ?_
  refine a_consX (ex_cat (ex_var rfl (((e10.trans e11).trans e12) _ _ hr9)) (ex_tup (eu_tup (ea_cons (ev_c (v := .int 0)) ea_nil) (by show 1 ≤ 100000; decide))) (by show 5 + 1 ≤ 100000; decide)) fun t3 H13 e13 ht3 => ?_
  refine a_cons (v := .non) ev_c fun H14 e14 => ?_
  refine a_cons (v := .int 7) ev_c fun H15 e15 => ?_
  refine a_consX (ex_tup (eu_tup ea_nil (by show 0 ≤ 100000; decide))) fun t4 H16 e16 ht4 => ?_
  refine a_consD fun t5 nt5 => ?_
  refine a_nil ?_
  have e17 : Evl.Ex H16 (upd H16 t5 (.dK [])) := Evl.Ex.new nt5
  have ht5 : upd H16 t5 (.dK []) t5 = some (.dK []) := upd_same
  generalize upd H16 t5 (.dK []) = H17 at e17 ht5 ⊢
  refine ⟨sz_of (by show 8 ≤ 100000; decide), fun pr npr => ?_⟩
  have f14 := e14.trans e15
  have hr17 := (((((((e10.trans e11).trans e12).trans e13).trans f14).trans e16).trans e17)) _ _ hr9
  have ht1' := (((((e12.trans e13).trans f14).trans e16).trans e17)) _ _ ht1
  have ht2' := ((((e13.trans f14).trans e16).trans e17)) _ _ ht2
  have ht3' := (((f14.trans e16).trans e17)) _ _ ht3
  have ht4' := e17 _ _ ht4
  have ne : ∀ {t o}, H17 t = some o → t ≠ pr := fun h z => by subst z; rw [npr] at h; cases h
  have new17 : Evl.Ex H17 (upd H17 pr (.lst [.ref r, .ref t1, .ref t2, .ref t3, .non, .int 7, .ref t4, .ref t5])) := Evl.Ex.new npr
  have vis : ∀ u ∈ ([.int c, .int p, .int qq, .int x, .int y] : List V), ∀ pr H', Itm K pr H' u := fun u hu pr H' => by
    simp only [List.mem_cons, List.not_mem_nil, or_false] at hu
    rcases hu with rfl | rfl | rfl | rfl | rfl <;> exact itm_int (by omega)
  have rows0 : ∀ v ∈ ([.ref r, .ref t1, .ref t2, .ref t3, .non, .int 7, .ref t4, .ref t5] : List V), Row K pr (upd H17 pr (.lst [.ref r, .ref t1, .ref t2, .ref t3, .non, .int 7, .ref t4, .ref t5])) v := by
    intro v hv'
    simp only [List.mem_cons, List.not_mem_nil, or_false] at hv'
    rcases hv' with rfl | rfl | rfl | rfl | rfl | rfl | rfl | rfl
    · exact told pr _ (new17 _ _ hr17) (ne hr17)
    · exact row_tup (new17 _ _ ht1') (ne ht1') (Nat.le_trans (cutV_length _ _ _) (by show 5 ≤ 20; decide)) fun u hu => vis u (cut_mem hu) _ _
    · exact row_lst (new17 _ _ ht2') (ne ht2') (by show 5 ≤ 20; decide) fun u hu => vis u hu _ _
    · exact row_tup (new17 _ _ ht3') (ne ht3') (by show 6 ≤ 20; decide) fun u hu => by
        rcases List.mem_append.mp hu with h | h
        · exact vis u h _ _
        · rw [List.mem_singleton.mp h]; exact itm_int (by rw [sz_zero]; omega)
    · exact row_non
    · exact row_seven
    · exact row_tup (new17 _ _ ht4') (ne ht4') (by show 0 ≤ 20; decide) fun u hu => by cases hu
    · exact row_dict (new17 _ _ ht5) (ne ht5)
  have hpr0 : upd H17 pr (.lst [.ref r, .ref t1, .ref t2, .ref t3, .non, .int 7, .ref t4, .ref t5]) pr = some (.lst [.ref r, .ref t1, .ref t2, .ref t3, .non, .int 7, .ref t4, .ref t5]) := upd_same
  have e917 := (((((e10.trans e11).trans e12).trans e13).trans f14).trans e16).trans e17
  have G17 : GenAt H17 g0 (n + 200) := (G8.ex_of e9).ex_of e917
  have kp17 : Keep g0 H H17 := kp8.trans (Keep.of (e9.trans e917))
  have hpd17 := e917 _ _ hpd9
  have npg : pr ≠ g0 := gen_ne G17 npr
  have nprH : H pr = none := back_none kp17 G G17 npr
  -- what stands from here on: rows at pr, all else as it was
  have Inv0 : ∃ xs, upd H17 pr (.lst [.ref r, .ref t1, .ref t2, .ref t3, .non, .int 7, .ref t4, .ref t5]) pr = some (.lst xs) ∧ xs.length ≤ 8 ∧ (∀ v ∈ xs, Row K pr (upd H17 pr (.lst [.ref r, .ref t1, .ref t2, .ref t3, .non, .int 7, .ref t4, .ref t5])) v) ∧ Keep pr H17 (upd H17 pr (.lst [.ref r, .ref t1, .ref t2, .ref t3, .non, .int 7, .ref t4, .ref t5])) :=
    ⟨_, hpr0, Nat.le_refl 8, rows0, Keep.put⟩
  generalize upd H17 pr (.lst [.ref r, .ref t1, .ref t2, .ref t3, .non, .int 7, .ref t4, .ref t5]) = H18 at Inv0 ⊢
  have l0 : ∀ {H' : Hp} {xs : List V} {t : Addr} {vs : List V} {H1 : Hp}, H' pr = some (.lst xs) → (∀ v ∈ xs, Row K pr H' v) → Evl.Ex H' H1 → H1 t = some (.tup vs) → vs.length ≤ 20 → (∀ u ∈ vs, Itm K pr H1 u) → ∀ v ∈ xs ++ [.ref t], Row K pr (upd H1 pr (.lst (xs ++ [.ref t]))) v := by
    intro H' xs t vs H1 hx hrow e ht hl hi v hv'
    have hx1 := e _ _ hx
    have ntp : t ≠ pr := fun z => by rw [z, hx1] at ht; cases ht
    rcases List.mem_append.mp hv' with h | h
    · exact row_keep (keep_app e) (hrow v h)
    · rw [List.mem_singleton.mp h]
      exact row_tup (by rw [upd_ne ntp]; exact ht) ntp hl fun u hu => itm_keep Keep.put (hi u hu)
  refine q_cut (M := fun σ' H' => ∃ (y7 y8 : Option V) (xs : List V), σ' = [some (.ref g0), some (.str (ks k)), some (.int a), some (.int b), some (.ref pd), some (.ref r), some (.ref pr), y7, y8, none, none, none] ∧ H' pr = some (.lst xs) ∧ xs.length ≤ 58 ∧ (∀ v ∈ xs, Row K pr H' v) ∧ Keep pr H17 H') ?_ ?_
  · refine s_forR1 (n := 5) (ea_cons ev_c ea_nil) (by decide) (fun i σ' H' => ∃ (y7 y8 : Option V) (xs : List V), σ' = [some (.ref g0), some (.str (ks k)), some (.int a), some (.int b), some (.ref pd), some (.ref r), some (.ref pr), y7, y8, none, none, none] ∧ H' pr = some (.lst xs) ∧ xs.length ≤ 8 + 10 * i ∧ (∀ v ∈ xs, Row K pr H' v) ∧ Keep pr H17 H')
      (fun H1 e1 => by
        obtain ⟨xs, h1, h2, h3, h4⟩ := Inv0
        exact ⟨none, none, xs, rfl, e1 _ _ h1, h2, fun v hv => row_keep (Keep.of e1) (h3 v hv), h4.trans (Keep.of e1)⟩) ?_ ?_
    · rintro i σ' H' hi ⟨y7, y8, xs, rfl, hx, hl, hrow, hk⟩
      have hr' := hk _ _ hr17 (ne hr17)
      have M : SqT K H' r [.int c, .int p, .int qq, .int x, .int y] := st_of hr'
      obtain ⟨z, hz, zz⟩ : ∃ z : Int, atI ([.int c, .int p, .int qq, .int x, .int y] : List V) (i : Int) = some (.int z) ∧ sz z ≤ 300 := by
        match i, hi with
        | 0, _ => exact ⟨c, rfl, by omega⟩
        | 1, _ => exact ⟨p, rfl, by omega⟩
        | 2, _ => exact ⟨qq, rfl, by omega⟩
        | 3, _ => exact ⟨x, rfl, by omega⟩
        | 4, _ => exact ⟨y, rfl, by omega⟩
        | i + 5, h => omega
      have z1 : sz (z + 1) ≤ 1000 := Nat.le_trans (sz_add (n := 300) zz (by decide +kernel)) (by decide)
      have z2 : sz (z - 1) ≤ 1000 := Nat.le_trans (sz_sub (n := 300) zz (by decide +kernel)) (by decide)
      have z3 : sz (0 - z) ≤ 1000 := by rw [Int.zero_sub, sz_neg]; omega
      refine s_forItems ?_
      refine a_cons (v := .int (z + 1)) (ev_op (ev_op (ev_var rfl) (ev_var rfl) (rv_ixT (i := (i : Int)) M hz)) ev_c rv_I0) fun I1 f1 => ?_
      refine a_cons (v := .int ((z - 1).natAbs : Int)) (ev_cb (ea_cons (ev_op (ev_op (ev_var rfl) (ev_var rfl) (rv_ixT (i := (i : Int)) (ex_t f1 M) hz)) ev_c rv_I0) ea_nil) rc_abs) fun I2 f2 => ?_
      refine a_cons (v := .int 0) ev_c fun I3 f3 => ?_
      refine a_cons (v := .int 1) ev_c fun I4 f4 => ?_
      refine a_cons (v := .non) ev_c fun I5 f5 => ?_
      refine a_cons (v := .bl true) ev_c fun I6 f6 => ?_
      refine a_cons (v := .str "1") ev_c fun I7 f7 => ?_
      refine a_consL (el_lst (ea_cons (ev_c (v := .int 1)) ea_nil) (by show 1 ≤ 100000; decide)) fun l1 I8 nl1 f8 hl1 => ?_
      have f08 := ((((((f1.trans f2).trans f3).trans f4).trans f5).trans f6).trans f7).trans f8
      refine a_cons (v := .int (0 - z)) (ev_op (ev_c (v := .int 0)) (ev_op (ev_var rfl) (ev_var rfl) (rv_ixT (i := (i : Int)) (ex_t f08 M) hz)) rv_I0) fun I9 f9 => ?_
      refine a_cons (v := .int (-1)) (ev_un ev_c ru_neg) fun I10 f10 => ?_
      refine a_nil ?_
      have f010 := (f08.trans f9).trans f10
      have hl10 := (f9.trans f10) _ _ hl1
      have hx10 := f010 _ _ hx
      have nl : l1 ≠ pr := fun e => by
        have h7 := ((((((f1.trans f2).trans f3).trans f4).trans f5).trans f6).trans f7) _ _ hx
        rw [← e, nl1] at h7; cases h7
      refine ⟨sz_of (by show 10 ≤ 100000; decide), fun q0 nq => ⟨q0, rfl, ⟨_, sq_of upd_same⟩, ?_⟩⟩
      have nqp : q0 ≠ pr := fun e => by rw [e, hx10] at nq; cases nq
      have f011 := f010.trans (Evl.Ex.new (o := .lst [.int (z + 1), .int ((z - 1).natAbs : Int), .int 0, .int 1, .non, .bl true, .str "1", .ref l1, .int (0 - z), .int (-1)]) nq)
      have hl11 : upd I10 q0 (.lst [.int (z + 1), .int ((z - 1).natAbs : Int), .int 0, .int 1, .non, .bl true, .str "1", .ref l1, .int (0 - z), .int (-1)]) l1 = some (.lst [.int 1]) := Evl.Ex.new nq _ _ hl10
      refine for_list (xs := [.int (z + 1), .int ((z - 1).natAbs : Int), .int 0, .int 1, .non, .bl true, .str "1", .ref l1, .int (0 - z), .int (-1)]) (fun j σ' H' => ∃ (y8 : Option V) (xs : List V), σ' = [some (.ref g0), some (.str (ks k)), some (.int a), some (.int b), some (.ref pd), some (.ref r), some (.ref pr), some (.int (i : Int)), y8, none, none, none] ∧
        H' pr = some (.lst xs) ∧ xs.length ≤ 8 + 10 * i + j ∧ (∀ v ∈ xs, Row K pr H' v) ∧ Keep pr H17 H' ∧ H' q0 = some (.lst [.int (z + 1), .int ((z - 1).natAbs : Int), .int 0, .int 1, .non, .bl true, .str "1", .ref l1, .int (0 - z), .int (-1)]) ∧
        ∀ u ∈ ([.int (z + 1), .int ((z - 1).natAbs : Int), .int 0, .int 1, .non, .bl true, .str "1", .ref l1, .int (0 - z), .int (-1)] : List V), Itm K pr H' u)
        ⟨y8, xs, rfl, f011 _ _ hx, hl, fun v hv => row_keep (Keep.of f011) (hrow v hv), hk.trans (Keep.of f011), upd_same, ?_⟩ (fun j σ' H' _ ⟨_, _, _, _, _, _, _, h, _⟩ => sq_of h) ?_ ?_
      · intro u hu
        simp only [List.mem_cons, List.not_mem_nil, or_false] at hu
        rcases hu with rfl | rfl | rfl | rfl | rfl | rfl | rfl | rfl | rfl | rfl
        · exact itm_int z1
        · exact itm_int (by rw [sz_abs]; exact z2)
        · exact itm_int (by rw [sz_zero]; omega)
        · exact itm_int (by decide +kernel)
        · exact itm_non
        · exact itm_true
        · exact itm_one
        · exact itm_list hl11 nl
        · exact itm_int z3
        · exact itm_int (by decide +kernel)
      · rintro j u σ' H2 hj ⟨y8, xs, rfl, hx2, hl2, hrow2, hk2, hq2, hi2⟩
        have hj10 : j < 10 := by have := (List.getElem?_eq_some_iff.mp hj).1; exact this
        have hi5 : i < 5 := by omega
        have hu := hi2 u (List.mem_of_getElem? hj)
        have hr2 := hk2 _ _ hr17 (ne hr17)
        refine gn ?_
        refine s_appX hx2 (ev_var rfl) (ex_cat (ex_cat (ex_sl (ex_var rfl hr2) eo_none (eo_some (ev_var (v := .int (i : Int)) rfl))) (ex_tup (eu_tup (ea_cons (ev_var (v := u) rfl) ea_nil) (by show 1 ≤ 100000; decide))) ?_) (ex_sl (ex_var rfl hr2) (eo_some (ev_op (ev_var (v := .int (i : Int)) rfl) (ev_c (v := .int 1)) rv_I0)) eo_none) ?_) (by omega) fun t H3 e3 ht => ?_
        · have := cutV_length [.int c, .int p, .int qq, .int x, .int y] none (some (i : Int))
          have h5 : ([.int c, .int p, .int qq, .int x, .int y] : List V).length = 5 := rfl
          have h1 : ([u] : List V).length = 1 := rfl
          omega
        · have := cutV_length [.int c, .int p, .int qq, .int x, .int y] none (some (i : Int))
          have := cutV_length [.int c, .int p, .int qq, .int x, .int y] (some ((i : Int) + 1)) none
          have h5 : ([.int c, .int p, .int qq, .int x, .int y] : List V).length = 5 := rfl
          have h1 : ([u] : List V).length = 1 := rfl
          rw [List.length_append]
          omega
        · refine ⟨_, _, rfl, upd_same, ?_, l0 hx2 hrow2 e3 ht ?_ ?_, hk2.trans (keep_app e3), ?_, ?_⟩
          · rw [List.length_append]
            have h1 : ([.ref t] : List V).length = 1 := rfl
            omega
          · have := cutV_length [.int c, .int p, .int qq, .int x, .int y] none (some (i : Int))
            have := cutV_length [.int c, .int p, .int qq, .int x, .int y] (some ((i : Int) + 1)) none
            have h5 : ([.int c, .int p, .int qq, .int x, .int y] : List V).length = 5 := rfl
            have h1 : ([u] : List V).length = 1 := rfl
            rw [List.length_append, List.length_append]
            omega
          · intro w hw
            rcases List.mem_append.mp hw with h | h
            · rcases List.mem_append.mp h with h | h
              · exact vis w (cut_mem h) _ _
              · rw [List.mem_singleton.mp h]; exact itm_keep (Keep.of e3) hu
            · exact vis w (cut_mem h) _ _
          · rw [upd_ne nqp]; exact e3 _ _ hq2
          · exact fun w hw => itm_keep (keep_app e3) (hi2 w hw)
      · rintro σ' H2 ⟨y8, xs, rfl, hx2, hl2, hrow2, hk2, _, _⟩
        have h10 : ([.int (z + 1), .int ((z - 1).natAbs : Int), .int 0, .int 1, .non, .bl true, .str "1", .ref l1, .int (0 - z), .int (-1)] : List V).length = 10 := rfl
        exact ⟨_, _, xs, rfl, hx2, by omega, hrow2, hk2⟩
    · rintro σ' H' ⟨y7, y8, xs, rfl, hx, hl, hrow, hk⟩
      exact ⟨y7, y8, xs, rfl, hx, hl, hrow, hk⟩
  · rintro σ' H19 ⟨y7, y8, xs, rfl, hx, hl, hrow, hk⟩
    have hr19 := hk _ _ hr17 (ne hr17)
    have hpd19 := hk _ _ hpd17 (ne hpd17)
    have M19 : SqT K H19 r [.int c, .int p, .int qq, .int x, .int y] := st_of hr19
    have zxq := sz_plus (n := 300) ox oq (by omega) (by omega)
    have zyp := sz_minus (n := 300) oy op (by omega) (by omega)
    refine q_cut (M := fun σ' H' => ∃ (xs : List V), σ' = [some (.ref g0), some (.str (ks k)), some (.int a), some (.int b), some (.ref pd), some (.ref r), some (.ref pr), y7, y8, none, none, none] ∧ H' pr = some (.lst xs) ∧ xs.length ≤ 59 ∧ (∀ v ∈ xs, Row K pr H' v) ∧ Keep pr H17 H') ?_ ?_
    · refine s_when (et_test (ev_op (ev_op (ev_var rfl) ev_c (rv_ixL (i := 0) (sq_of hpd19) rfl)) ev_c rv_I0)) (fun h H20 e20 => ?_) (fun h H20 e20 => ?_)
      · have M20 := ex_t e20 M19
        refine s_appX (e20 _ _ hx) (ev_var rfl) (ex_tup (eu_tup (ea_cons (ev_op (ev_var rfl) ev_c (rv_ixT (i := 0) M20 rfl)) (ea_cons (ev_op (ev_var rfl) ev_c (rv_ixT (i := 1) M20 rfl)) (ea_cons (ev_op (ev_var rfl) ev_c (rv_ixT (i := 2) M20 rfl))
          (ea_cons (ev_call (two_then (ev_var rfl) (ev_op (ev_var rfl) ev_c (rv_ixT (i := 3) M20 rfl)) (ev_op (ev_var rfl) ev_c (rv_ixT (i := 2) M20 rfl))) (c_plus k x qq ox oq)) (ea_cons (ev_call (two_then (ev_var rfl) (ev_op (ev_var rfl) ev_c (rv_ixT (i := 4) M20 rfl)) (ev_op (ev_var rfl) ev_c (rv_ixT (i := 1) M20 rfl))) (c_minus k y p oy op)) ea_nil))))) (by show 5 ≤ 100000; decide))) (by omega) fun t H21 e21 ht => ?_
        refine ⟨_, rfl, upd_same, by rw [List.length_append]; show xs.length + 1 ≤ 59; omega, l0 (e20 _ _ hx) (fun v hv => row_keep (Keep.of e20) (hrow v hv)) e21 ht (by show 5 ≤ 20; decide) ?_, (hk.trans (Keep.of e20)).trans (keep_app e21)⟩
        intro u hu
        simp only [List.mem_cons, List.not_mem_nil, or_false] at hu
        rcases hu with rfl | rfl | rfl | rfl | rfl <;> exact itm_int (by omega)
      · exact ⟨xs, rfl, e20 _ _ hx, by omega, fun v hv => row_keep (Keep.of e20) (hrow v hv), hk.trans (Keep.of e20)⟩
    · rintro σ' H22 ⟨xs, rfl, hx, hl, hrow, hk⟩
      have hr22 := hk _ _ hr17 (ne hr17)
      have M22 : SqT K H22 r [.int c, .int p, .int qq, .int x, .int y] := st_of hr22
      refine q_appX hx (ev_var rfl) (ex_tup (eu_tup (ea_cons (ev_c (v := .int 1)) (ea_cons (ev_var (v := .int a) rfl) (ea_cons (ev_var (v := .int b) rfl) (ea_cons (ev_op (ev_var rfl) ev_c (rv_ixT (i := 3) M22 rfl)) (ea_cons (ev_op (ev_var rfl) ev_c (rv_ixT (i := 4) M22 rfl)) ea_nil))))) (by show 5 ≤ 100000; decide))) (by omega) fun t H23 e23 ht => ?_
      have hrow' := l0 hx hrow e23 ht (by show 5 ≤ 20; decide) (by
        intro u hu
        simp only [List.mem_cons, List.not_mem_nil, or_false] at hu
        have z1 : sz 1 ≤ 1000 := by decide +kernel
        rcases hu with rfl | rfl | rfl | rfl | rfl <;> exact itm_int (by omega))
      have hk' := hk.trans (keep_app (pr := pr) (o := .lst (xs ++ [.ref t])) e23)
      have hx' : upd H23 pr (.lst (xs ++ [.ref t])) pr = some (.lst (xs ++ [.ref t])) := upd_same
      generalize xs ++ [.ref t] = ys at hrow' hk' hx' ⊢
      generalize upd H23 pr (.lst ys) = H24 at hrow' hk' hx' ⊢
      have hpd24 := hk' _ _ hpd17 (ne hpd17)
      -- each row is judged
      refine q_forL (K := K) (a := pr) (xs := ys) (ev_var rfl) (sq_of hx') (fun i σ' H' => ∃ y9 y10 y11 : Option V, σ' = [some (.ref g0), some (.str (ks k)), some (.int a), some (.int b), some (.ref pd), some (.ref r), some (.ref pr), y7, y8, y9, y10, y11] ∧ Evl.Ex H24 H')
        (fun H25 e25 => ⟨none, none, none, rfl, e25⟩) (fun i σ' H' _ ⟨_, _, _, _, e⟩ => sq_of (e _ _ hx')) ?_ ?_
      · rintro i v σ' H25 hi ⟨y9, y10, y11, rfl, e25⟩
        obtain ⟨d, hj, hg, hd⟩ := hrow' v (List.mem_of_getElem? hi)
        have j25 : Jv K H25 v d := hj _ (Keep.of e25)
        refine gn ?_
        refine q_par (u := .str d.shown) (v := .bl (paperD k a b d)) (ea_cons (ev_cb (ea_cons (ev_var rfl) ea_nil) (rc_reprX j25 hd)) (ea_cons (ev_call (ea_cons (ev_var rfl) (ea_cons (ev_var rfl) (ea_cons (ev_var rfl) (ea_cons (ev_var rfl) ea_nil)))) (c_judge oa ob (by omega) (by omega) j25 hg)) ea_nil)) fun H26 e26 => ?_
        have j26 := jv_ex e26 j25
        refine q_when (b := false) (et_is (et_or (et_test (ev_op (ev_cb (ea_cons (ev_call (ea_cons (ev_var rfl) (ea_cons (ev_var rfl) (ea_cons (ev_var rfl) (ea_cons (ev_var rfl) ea_nil)))) (c_judge oa ob (by omega) (by omega) j26 hg)) ea_nil) rc_reprB) (ev_cb (ea_cons (ev_var (v := .bl (paperD k a b d)) rfl) ea_nil) rc_reprB) (rv_ne rfl)))
          fun _ => et_test (ev_op (ev_cb (ea_cons (ev_var rfl) ea_nil) (rc_reprX j26 hd)) (ev_var (v := .str d.shown) rfl) (rv_ne rfl))) (by rw [ne_falseS, ne_falseS]; rfl)) (fun h => by cases h) (fun _ H27 e27 => ?_)
        have j27 := jv_ex e27 j26
        by_cases hpap : paperD k a b d = true
        · obtain ⟨c', p', q', x', y', rfl, ⟨oc', op', oq', ox', oy'⟩, hI⟩ := paper_shape hpap
          have hc' := paper_gcd oa ob oc' op' oq' ox' oy' hI
          obtain ⟨r', rfl, hS'⟩ : ∃ r', v = .ref r' ∧ ∃ vs, SqT K H27 r' vs ∧ atI vs 0 = some (.int c') := by
            cases j27 with
            | dat h => cases h with
              | tup h1 h2 => cases h2 with
                | cons h3 h4 => cases h3; exact ⟨_, rfl, _, h1, atI_nat (j := 0) rfl⟩
          obtain ⟨vs', hS1, hS2⟩ := hS'
          have hpd27 := ((e25.trans e26).trans e27) _ _ hpd24
          refine s_when (b := false) (et_is (et_and (et_B (ev_var (v := .bl (paperD k a b _)) rfl)) fun _ => et_test (ev_op (ev_op (ev_var rfl) ev_c (rv_ixT (i := 0) hS1 hS2)) (ev_op (ev_var rfl) ev_c (rv_ixL (i := 0) (sq_of hpd27) rfl)) (rv_ne rfl))) ?_) (fun h => by cases h) (fun _ H28 e28 => ?_)
          · rw [hc', ne_falseI, Bool.and_false]
          · exact ⟨_, _, _, rfl, ((e25.trans e26).trans e27).trans e28⟩
        · have hpf : paperD k a b d = false := by simpa using hpap
          refine s_when (b := false) (et_is (et_and (b := false) (et_B (ev_var (v := .bl (paperD k a b d)) rfl)) fun h => absurd h hpap) (by rw [hpf]; rfl)) (fun h => by cases h) (fun _ H28 e28 => ?_)
          exact ⟨_, _, _, rfl, ((e25.trans e26).trans e27).trans e28⟩
      · rintro σ' H25 ⟨y9, y10, y11, rfl, e25⟩
        refine s_ret ev_c fun H26 e26 => q H26 ?_ ?_
        · exact (gen_keep G17 ((hk'.trans (Keep.of e25)).trans (Keep.of e26)) (fun z => npg z.symm)).mono (by omega)
        · exact fun o u h hne => ((hk'.trans (Keep.of e25)).trans (Keep.of e26)) o u (kp17 o u h hne) (ne_of_none h nprH)
end
end Hr
namespace Hr
open PySem PySem.Spec PyProof.Rows L2 Evl
section
variable {P : Program} {w : World} {K : PySem.W.Frag} {mg : Str → Option Value} {base : Heap}
theorem cH {σ : L2.St} {H : Hp} : Ev (tC (.str "hours")) σ H (.str (ks .H)) := ev_c
theorem cB {σ : L2.St} {H : Hp} : Ev (tC (.str "bits")) σ H (.str (ks .B)) := ev_c
theorem cN {σ : L2.St} {H : Hp} {i : Int} : Ev (tUn (rU fun i => .int (-i)) (tC (.int i))) σ H (.int (-i)) := ev_un ev_c ru_neg
theorem rem_val {n d q r : Nat} (hd : 0 < d) (hr : Gf.bl r < Gf.bl d) (h : n = Gf.mul d q ^^^ r) : Gf.quo n d = q ∧ Gf.rem n d = r := by
  obtain ⟨a, b⟩ := Gf.rem_spec (n := n) hd
  have z := Gf.div_one (q := q) (r := r) (q' := Gf.quo n d) (r' := Gf.rem n d) hd hr a (by rw [← h, ← b])
  exact ⟨z.1.symm, z.2.symm⟩
/-- a product by so many steps -/
def mulF (n : Nat) : Nat → Nat → Nat
  | 0, _ => 0
  | f + 1, m => (if m % 2 = 1 then n else 0) ^^^ 2 * mulF n f (m / 2)
theorem mulF_eq {n : Nat} : ∀ (f m : Nat), m < 2 ^ f → Gf.mul n m = mulF n f m
  | 0, m, h => by
    have : m = 0 := by rw [Nat.pow_zero] at h; omega
    subst this; rw [Gf.mul_zero]; rfl
  | f + 1, m, h => by
    rw [Gf.mul_step, mulF_eq f (m / 2) (by rw [Nat.pow_succ] at h; omega)]; rfl
theorem rm {n d : Nat} (q r : Nat) (f : Nat) (hd : 0 < d) (hf : q < 2 ^ f) (hr : Gf.bl r < Gf.bl d) (h : n = mulF d f q ^^^ r) : Gf.quo n d = q ∧ Gf.rem n d = r := rem_val hd hr (by rw [mulF_eq f q hf]; exact h)
theorem gB : Gf.gcd 10 12 = 6 := by
  rw [Gf.gcd_step (by decide), (rm (n := 10) (d := 12) 1 6 4 (by decide) (by decide) (by decide +kernel) (by decide +kernel)).2, Gf.gcd_step (by decide), (rm (n := 12) (d := 6) 2 0 4 (by decide) (by decide) (by decide +kernel) (by decide +kernel)).2, Gf.gcd_zero]
theorem gB9 : Gf.gcd 0 9 = 9 := by
  rw [Gf.gcd_step (by decide), (rm (n := 0) (d := 9) 0 0 4 (by decide) (by decide) (by decide +kernel) (by decide +kernel)).2, Gf.gcd_zero]
theorem v1 : gcdM .B 10 12 = 6 := by
  show ((Gf.gcd 10 12 : Nat) : Int) = 6
  rw [gB]; rfl
theorem v2 : lcmM .B 10 12 = 20 := by
  show ((if (10 : Nat) = 0 ∨ (12 : Nat) = 0 then 0 else Gf.mul 10 (Gf.quo 12 (Gf.gcd 10 12)) : Nat) : Int) = 20
  rw [if_neg (by decide), gB, (rm (n := 12) (d := 6) 2 0 4 (by decide) (by decide) (by decide +kernel) (by decide +kernel)).1, mulF_eq 4 2 (by decide)]; decide +kernel
theorem v3 : gcdM .B 0 9 = 9 := by
  show ((Gf.gcd 0 9 : Nat) : Int) = 9
  rw [gB9]; rfl
theorem v4 : lcmM .B 0 9 = 0 := by
  show ((lN .B 0 9 : Nat) : Int) = 0
  rw [(lmN .B).none _ _ (.inl rfl)]; rfl
theorem good_ints {zs : List Int} (h : ∀ z ∈ zs, sz z ≤ 1000) : GoodV (.tuple (zs.map PyData.int)) := fun ds e => by
  cases e
  intro u hu
  obtain ⟨z, hz, rfl⟩ := List.mem_map.mp hu
  exact (ig_int (h z hz)).1
theorem small_ints {zs : List Int} (h : zs.all (fun z => decide (z.natAbs < 64)) = true) : ∀ z ∈ zs, sz z ≤ 1000 := fun z hz =>
  Nat.le_trans (sz_c (n := 6) (of_decide_eq_true (List.all_eq_true.mp h z hz))) (by decide)
theorem rv_isnotF {H : Hp} : RV (fun x y H Q => ∃ a b, x = .bl a ∧ y = .bl b ∧ Q (.bl (!decide (a = b))) H) (.bl false) (.bl false) H (.bl false) := fun H1 _ _ q => ⟨false, false, rfl, rfl, q H1 (Evl.Ex.refl H1)⟩
theorem ev_judgeX {K : PySem.W.Frag} {σ : L2.St} {H : Hp} {tk ta tb tt : TE} {k : Kd} {a b : Int} {zs : List Int} (oa : Ok k a) (ob : Ok k b) (za : sz a ≤ 150) (zb : sz b ≤ 150) (hz : ∀ z ∈ zs, sz z ≤ 1000) (hk : Ev tk σ H (.str (ks k))) (h1 : Ev ta σ H (.int a)) (h2 : Ev tb σ H (.int b)) (h3 : EvX tt σ H (zs.map V.int)) :
    Ev (tCall (spJudge K) [] E0 (tCons tk (tCons ta (tCons tb (tCons tt tNil))))) σ H (.bl (paperD k a b (.tuple (zs.map PyData.int)))) := fun H1 e Q q =>
  hk H1 e _ fun H2 e2 => h1 H2 (e.trans e2) _ fun H3 e3 => h2 H3 ((e.trans e2).trans e3) _ fun H4 e4 => h3 H4 (((e.trans e2).trans e3).trans e4) _ fun t H5 e5 ht =>
    ⟨k, a, b, .ref t, _, rfl, ⟨oa, ob⟩, ⟨za, zb⟩, .dat (.tup (st_of ht) (dps_ints zs)), good_ints hz, fun H' e' => q H' ((((e2.trans e3).trans e4).trans e5).trans e')⟩
theorem gcd00 (k : Kd) : gcdM k 0 0 = 0 := by rw [gcd_end]; rfl
theorem t_opC {σ : L2.St} {H : Hp} {Q : VK} {sp : Sp} {dvs : List V} {E : XK} {ta : TA} {tb : TE} {r : R2} (h : ta σ H fun vs H1 => sp (vs ++ dvs) H1 (fun x H2 => tb σ H2 fun y H3 => r x y H3 Q) E) : tOp r (tCall sp dvs E ta) tb σ H Q := h
theorem ev_paper0 {K : PySem.W.Frag} {σ : L2.St} {H : Hp} {tk : TE} {k : Kd} (hk : Ev tk σ H (.str (ks k))) : Ev (tOp (rIxT K) (tCall spDF [] E0 (tCons tk (tCons (tC (.int 0)) (tCons (tC (.int 0)) tNil)))) (tC (.int 0))) σ H (.int 0) := by
  intro H1 e Q q
  refine t_opC ?_
  refine (two_then hk ev_c ev_c : EvA _ σ H (a3 (k, 0, 0))) H1 e _ fun H2 e2 => ?_
  refine ⟨k, 0, 0, rfl, ⟨Ok.of_le (by decide), Ok.of_le (by decide)⟩, by rw [sz_zero]; omega, by rw [sz_zero]; omega, fun c p qq x y r H3 hp nr e3 hr => ?_⟩
  have hc : c = 0 := by rw [hp.val, gcd00]
  subst hc
  exact ⟨r, _, 0, .int 0, rfl, rfl, st_of hr, rfl, q H3 (e2.trans e3)⟩
theorem ev_judge0 {K : PySem.W.Frag} {σ : L2.St} {H : Hp} {tk : TE} {k : Kd} (hk : Ev tk σ H (.str (ks k))) : Ev (tCall (spJudge K) [] E0 (tCons tk (tCons (tC (.int 0)) (tCons (tC (.int 0)) (tCons (tCall spDF [] E0 (tCons tk (tCons (tC (.int 0)) (tCons (tC (.int 0)) tNil)))) tNil))))) σ H (.bl true) := by
  intro H1 e Q q
  refine t_call ?_
  refine a_cons (v := .str (ks k)) (fun H2 e2 => hk H2 (e.trans e2)) fun H2 e2 => ?_
  refine a_cons (v := .int 0) ev_c fun H3 e3 => ?_
  refine a_cons (v := .int 0) ev_c fun H4 e4 => ?_
  refine a_lastC ?_
  have e14 := (e2.trans e3).trans e4
  refine (two_then (fun H5 e5 => hk H5 ((e.trans e14).trans e5)) ev_c ev_c : EvA _ σ H4 (a3 (k, 0, 0))) H4 (Evl.Ex.refl H4) _ fun H5 e5 => ?_
  refine ⟨k, 0, 0, rfl, ⟨Ok.of_le (by decide), Ok.of_le (by decide)⟩, by rw [sz_zero]; omega, by rw [sz_zero]; omega, fun c p qq x y r H6 hp nr e6 hr => ?_⟩
  have hpt := pap_told hp
  obtain ⟨zp, zq, zx, zy⟩ := hp.size
  have z0 : sz 0 = 0 := rfl
  have hc : c = 0 := by rw [hp.val, gcd00]
  have zc : sz c ≤ 1000 := by rw [hc, z0]; omega
  refine ⟨k, 0, 0, .ref r, _, rfl, ⟨Ok.of_le (by decide), Ok.of_le (by decide)⟩, ⟨by rw [z0]; omega, by rw [z0]; omega⟩, .dat (.tup (st_of hr) (dps_ints [c, p, qq, x, y])), good_ints (zs := [c, p, qq, x, y]) ?_, fun H' e' => ?_⟩
  · intro z hz
    simp only [List.mem_cons, List.not_mem_nil, or_false] at hz
    rcases hz with rfl | rfl | rfl | rfl | rfl <;> omega
  · have hpt' : paperD k 0 0 (.tuple ([c, p, qq, x, y].map PyData.int)) = true := hpt
    rw [hpt']
    exact q H' (((e14.trans e5).trans e6).trans e')
theorem el_lcD {K : PySem.W.Frag} {σ : L2.St} {H : Hp} {t : TT} {te tl : TE} {j : Nat} {vs : List Nat} {ds : List PyData} (f : Nat → Bool) (v : Nat → V) (h : EvD K tl σ H (.list ds)) (hz : ds.length ≤ 40000) (hw : ∀ x, wipe ((wipe σ vs).set j (some x)) vs = wipe σ vs)
    (ht : ∀ (i : Nat) (x : V) (d : PyData) H1, Evl.Ex H H1 → ds[i]? = some d → Dp K H1 x d → EvT t ((wipe σ vs).set j (some x)) H1 (f i)) (he : ∀ (i : Nat) (x : V) (d : PyData) H1, Evl.Ex H H1 → ds[i]? = some d → Dp K H1 x d → f i = true → Ev te ((wipe σ vs).set j (some x)) H1 (v i)) :
    EvL (tLc (iList K tl) (gName j) t te vs) σ H (given ds.length f v) := fun H0 e Q q => h H0 e _ fun y H1 e1 hy => by
  cases hy with
  | lst a b =>
    rename_i p xs
    have hlen := dps_len b
    refine ⟨p, rfl, ⟨xs, a⟩, fun Dl hD => ?_⟩
    refine lc_list (xs := xs) (Cw H1 f v Dl) ⟨hD, Evl.Ex.new hD, upd_same⟩ (fun i H' _ p => ex_l p.2.1 a) (fun i x H' hi p => ?_) (fun H' p => q Dl H' (fresh_back e1 p.1) (e1.trans p.2.1) (by have := p.2.2; rw [hlen] at this; exact this))
    obtain ⟨d, hd1, hd2⟩ := dps_at b hi
    have hil := (List.getElem?_eq_some_iff.mp hi).1
    exact ⟨hw x, cw_turn p (by omega) (ht i x d H1 (e.trans e1) hd1 hd2) (fun hf => he i x d H1 (e.trans e1) hd1 hd2 hf)⟩
theorem kinds_at {i : Nat} {x : V} (h : ([V.str "hours", V.str "bits"] : List V)[i]? = some x) : ∃ k : Kd, x = .str (ks k) := by
  match i, h with
  | 0, h => exact ⟨.H, (Option.some.inj h).symm⟩
  | 1, h => exact ⟨.B, (Option.some.inj h).symm⟩
  | i + 2, h => simp at h
def spLaw (K : PySem.W.Frag) : Sp := fun vs H Q _ => ∃ (a : Addr) (ns : List Int), vs = [.ref a] ∧ SqL K H a (ns.map V.int) ∧ ns.length ≤ 63 ∧ ∀ H', Q (.bl true) H'
theorem d_law {f : Addr} {fd : FuncData} (F : Fun K "law" "law" s_law f fd) (h_law_generator : Has P w K mg base 2 "_law_generator" P_law_generator (spGen (K := K))) (h_law_right : Has P w K mg base 6 "_law_right" P_law_right (spRight K))
    (h_divisor : Has P w K mg base 5 "divisor" P_divisor spGcd) (h_multiple : Has P w K mg base 5 "multiple" P_multiple spLcm) (h_divisor_paper : Has P w K mg base 5 "divisor_paper" P_divisor_paper spDF) (h_is_divisor_paper : Has P w K mg base 5 "is_divisor_paper" P_is_divisor_paper (spJudge K))
    (z_range : mg "range" = none) : Fq P w K mg base CX0 7 f fd P_law (spLaw K) := by
  refine okq F sc_law (by rintro _ _ _ _ ⟨a, ns, rfl, _⟩; rfl) (fun cdv A out s H vs Q E hr h => ?_)
  obtain ⟨a, ns, rfl, hS, hlen, q⟩ := h
  refine ⟨_, (pss_cons (ps_for PassesOwn.never rfl (pi_range1 (by rfl) z_range (pa_cons pe_int pa_nil)) (pg_name (i := 1) sc_law.nd rfl (.inl rfl)) (pss_cons (ps_set (i := 2) sc_law.nd rfl (.inl rfl) (pe_h h_law_generator hr (pa_cons (pv 0) (pa_cons (pv 1) pa_nil))))
      (pss_one (ps_if (PW.pt (pw_or (pt_not (pt_val (pe_h h_law_right hr (pa_cons (pv 2) (pa_cons pe_str pa_nil))))) (pw_or1 (pt_not (pt_val (pe_h h_law_right hr (pa_cons (pv 2) (pa_cons pe_str pa_nil)))))))) (pss_one (ps_ret pe_bl)) pss_nil))))
      (pss_cons (ps_set (i := 3) sc_law.nd rfl (.inl rfl) (pe_lst (pa_cons (pe_h h_divisor hr (pa_cons pe_str (pa_cons (pe_un un_neg pe_int) (pa_cons pe_int pa_nil)))) (pa_cons (pe_h h_multiple hr (pa_cons pe_str (pa_cons (pe_un un_neg pe_int) (pa_cons pe_int pa_nil)))) (pa_cons (pe_h h_divisor hr (pa_cons pe_str (pa_cons pe_int (pa_cons pe_int pa_nil)))) (pa_cons (pe_h h_multiple hr (pa_cons pe_str (pa_cons pe_int (pa_cons pe_int pa_nil)))) (pa_cons (pe_h h_divisor hr (pa_cons pe_str (pa_cons pe_int (pa_cons pe_int pa_nil)))) (pa_cons (pe_h h_divisor hr (pa_cons pe_str (pa_cons pe_int (pa_cons pe_int pa_nil)))) (pa_cons (pe_h h_multiple hr (pa_cons pe_str (pa_cons pe_int (pa_cons pe_int pa_nil)))) pa_nil)))))))))
      (pss_cons (ps_for PassesOwn.never rfl (pi_list (pe_lst (pa_cons pe_str (pa_cons pe_str pa_nil)))) (pg_name (i := 4) sc_law.nd rfl (.inl rfl)) (pss_one (ps_if (PW.pt (pw_or (pt_cmpR op_ne (pe_ix ix_tup (pe_h h_divisor_paper hr (pa_cons (pv 4) (pa_cons pe_int (pa_cons pe_int pa_nil)))) pe_int (fun _ _ => rfl)) pe_int (nomark _)) (pw_or1 (pt_cmpR op_isnot_bl (pe_h h_is_divisor_paper hr (pa_cons (pv 4) (pa_cons pe_int (pa_cons pe_int (pa_cons (pe_h h_divisor_paper hr (pa_cons (pv 4) (pa_cons pe_int (pa_cons pe_int pa_nil)))) pa_nil))))) pe_bl (nomark _))))) (pss_one (ps_ret pe_bl)) pss_nil)))
      (pss_cons (ps_if (PW.pt (pw_or (pt_cmpR (op_neD hr.room.units) (pv 3) (pe_lst (pa_cons pe_int (pa_cons pe_int (pa_cons pe_int (pa_cons pe_int (pa_cons pe_int (pa_cons pe_int (pa_cons pe_int pa_nil)))))))) (nomark _)) (pw_or (pt_cmpR op_isnot_bl (pe_h h_is_divisor_paper hr (pa_cons pe_str (pa_cons pe_int (pa_cons pe_int (pa_cons (pe_tup (pa_cons pe_int (pa_cons pe_int (pa_cons (pe_un un_neg pe_int) (pa_cons pe_int (pa_cons pe_int pa_nil)))))) pa_nil))))) pe_bl (nomark _)) (pw_or1 (pt_cmpR op_isnot_bl (pe_h h_is_divisor_paper hr (pa_cons pe_str (pa_cons pe_int (pa_cons pe_int (pa_cons (pe_tup (pa_cons pe_int (pa_cons pe_int (pa_cons pe_int (pa_cons pe_int (pa_cons pe_int pa_nil)))))) pa_nil))))) pe_bl (nomark _)))))) (pss_one (ps_ret pe_bl)) pss_nil)
      (pss_cons (ps_setLc (i := 3) (own := [("_law_value_there", 5)]) (g := gName 5) rfl sc_law.nd rfl rfl (sw_true rfl rfl rfl (by decide +kernel)) (pi_list (pe_lst (pa_cons (pe_tup (pa_cons pe_int (pa_cons pe_int (pa_cons pe_int (pa_cons (pe_un un_neg pe_int) (pa_cons pe_int pa_nil)))))) (pa_cons (pe_tup (pa_cons pe_int (pa_cons pe_int (pa_cons pe_int (pa_cons (pe_un un_neg pe_int) (pa_cons pe_int pa_nil)))))) (pa_cons (pe_tup (pa_cons (pe_un un_neg pe_int) (pa_cons (pe_un un_neg pe_int) (pa_cons (pe_un un_neg pe_int) (pa_cons pe_int (pa_cons (pe_un un_neg pe_int) pa_nil)))))) pa_nil))))) (blkOk_by (own := [("_law_value_there", 5)]) (N := N_law) (sc := defScope s_law) (by decide +kernel)) (fun _ _ _ _ _ => (pg_name (i := 5) sc_law.nd rfl (.inl rfl))) (fun _ _ _ _ _ => pts_nil) (fun _ _ _ _ _ => (pe_h h_is_divisor_paper hr (pa_cons pe_str (pa_cons pe_int (pa_cons pe_int (pa_cons (pv 5) pa_nil)))))))
      (pss_one (ps_ret (pe_cmpR (op_eqD hr.room.units) (pv 3) (pe_lst (pa_cons pe_bl (pa_cons pe_bl (pa_cons pe_bl pa_nil)))) (nomark _))))))))), ?_⟩
  refine q_forR1 (n := 2) (ea_cons ev_c ea_nil) (by decide) (fun i σ' H' => ∃ y1 y2 : Option V, σ' = [some (.ref a), y1, y2, none, none, none] ∧ Evl.Ex H H')
    (fun H1 e1 => ⟨none, none, rfl, e1⟩) ?_ ?_
  · rintro i σ' H' hi ⟨y1, y2, rfl, e⟩
    refine ⟨_, rfl, _, rfl, a, ns, i, rfl, ex_l e hS, by omega, fun p H1 np e1 G1 => ?_⟩
    have np0 : H p = none := fresh_back e np
    have e1' := e.trans e1
    refine ⟨_, rfl, p, .H, _, rfl, G1, by omega, fun H2 G2 K2 => ⟨true, rfl, ?_⟩⟩
    refine iteF ?_
    refine ⟨_, rfl, p, .B, _, rfl, G2, by omega, fun H3 G3 K3 => ⟨true, rfl, ?_⟩⟩
    refine iteF ?_
    exact ⟨_, _, rfl, fun b o h => K3 b o (K2 b o (e1' b o h) (ne_of_none h np0)) (ne_of_none h np0)⟩
  · rintro σ' H1 ⟨y1, y2, rfl, e1⟩
    have zs : ∀ i : Int, i.natAbs < 64 → sz i ≤ 8000 := fun i h => Nat.le_trans (sz_c (n := 6) h) (by decide)
    have zt : ∀ i : Int, i.natAbs < 64 → sz i ≤ 150 := fun i h => Nat.le_trans (sz_c (n := 6) h) (by decide)
    have nB : ∀ n : Nat, Ok .B (n : Int) := fun n => Int.natCast_nonneg n
    refine q_asgL (xs := ([6, 36, 6, 20, 0, 9, 0] : List Int).map V.int) (el_lst (ea_cons (ev_is (ev_call (two_then cH cN ev_c) (c_gcd .H (-12) 18 trivial trivial (zs _ (by decide)) (zs _ (by decide)))) (by decide +kernel)) (ea_cons (ev_is (ev_call (two_then cH cN ev_c) (c_lcm .H (-12) 18 trivial trivial (zs _ (by decide)) (zs _ (by decide)))) (by decide +kernel))
      (ea_cons (ev_is (ev_call (two_then cB ev_c ev_c) (c_gcd .B 10 12 (nB 10) (nB 12) (zs _ (by decide)) (zs _ (by decide)))) (by rw [v1])) (ea_cons (ev_is (ev_call (two_then cB ev_c ev_c) (c_lcm .B 10 12 (nB 10) (nB 12) (zs _ (by decide)) (zs _ (by decide)))) (by rw [v2]))
      (ea_cons (ev_is (ev_call (two_then cH ev_c ev_c) (c_gcd .H 0 0 trivial trivial (zs _ (by decide)) (zs _ (by decide)))) (by decide +kernel)) (ea_cons (ev_is (ev_call (two_then cB ev_c ev_c) (c_gcd .B 0 9 (nB 0) (nB 9) (zs _ (by decide)) (zs _ (by decide)))) (by rw [v3])) (ea_cons (ev_is (ev_call (two_then cB ev_c ev_c) (c_lcm .B 0 9 (nB 0) (nB 9) (zs _ (by decide)) (zs _ (by decide)))) (by rw [v4])) ea_nil))))))) (by show 7 ≤ 100000; decide)) fun pt H2 npt e2 hpt => ?_
    refine q_forNL (K := K) (xs := [.str "hours", .str "bits"]) (el_lst (ea_cons ev_c (ea_cons ev_c ea_nil)) (by show 2 ≤ 100000; decide))
      (fun l j σ' H' => ∃ y4 : Option V, σ' = [some (.ref a), y1, y2, some (.ref pt), y4, none] ∧ Evl.Ex H2 H' ∧ H' l = some (.lst [.str "hours", .str "bits"]))
      (fun l H3 nl e3 hl => ⟨none, rfl, e3, hl⟩) (fun l j σ' H' _ ⟨_, _, _, hl⟩ => sq_of hl) ?_ ?_
    · rintro l j u σ' H3 hj ⟨y4, rfl, e3, hl⟩
      obtain ⟨k, rfl⟩ := kinds_at hj
      refine gn ?_
      refine s_when (b := false) (et_is (et_or (et_test (ev_op (ev_paper0 (ev_var rfl)) (ev_c (v := .int 0)) (rv_ne rfl))) fun _ => et_test (ev_op (ev_judge0 (ev_var rfl)) (ev_c (v := .bl true)) rv_isnotT)) (by decide +kernel)) (fun h => by cases h) (fun _ H4 e4 => ?_)
      exact ⟨_, rfl, e3.trans e4, e4 _ _ hl⟩
    · rintro l σ' H3 ⟨y4, rfl, e3, hl⟩
      have hpt3 := e3 _ _ hpt
      have E7 : EvD K (tLst (tCons (tC (.int 6)) (tCons (tC (.int 36)) (tCons (tC (.int 6)) (tCons (tC (.int 20)) (tCons (tC (.int 0)) (tCons (tC (.int 9)) (tCons (tC (.int 0)) tNil)))))))) [some (.ref a), y1, y2, some (.ref pt), y4, none] H3 (pd [6, 36, 6, 20, 0, 9, 0]) :=
        ed_lst (eds_cons (ed_int ev_c) (eds_cons (ed_int ev_c) (eds_cons (ed_int ev_c) (eds_cons (ed_int ev_c) (eds_cons (ed_int ev_c) (eds_cons (ed_int ev_c) (eds_cons (ed_int ev_c) eds_nil))))))) (by show 7 ≤ 100000; decide)
      have l5 : (5 : Nat) ≤ 100000 := by decide
      refine q_when (b := false) (et_is (et_or (et_test (ev_neD (K := K) (ed_var rfl (.lst (sq_of hpt3) (dps_ints [6, 36, 6, 20, 0, 9, 0]))) E7 (shaped_ints _) (shaped_ints _)))
        fun _ => et_or (et_test (ev_op (ev_is (ev_judgeX (zs := [0, 5, -3, 1, 1]) (k := .H) (a := 0) (b := 0) trivial trivial (zt _ (by decide)) (zt _ (by decide)) (small_ints (by decide)) cH ev_c ev_c (ex_tup (eu_tup (ea_cons ev_c (ea_cons ev_c (ea_cons cN (ea_cons ev_c (ea_cons ev_c ea_nil))))) l5))) (show _ = V.bl true from by decide +kernel)) (ev_c (v := .bl true)) rv_isnotT))
        fun _ => et_test (ev_op (ev_is (ev_judgeX (zs := [1, 0, 0, 0, 0]) (k := .H) (a := 0) (b := 0) trivial trivial (zt _ (by decide)) (zt _ (by decide)) (small_ints (by decide)) cH ev_c ev_c (ex_tup (eu_tup (ea_cons ev_c (ea_cons ev_c (ea_cons ev_c (ea_cons ev_c (ea_cons ev_c ea_nil))))) l5))) (show _ = V.bl false from by decide +kernel)) (ev_c (v := .bl false)) rv_isnotF)) (by show (!PyData.eqv (pd [6, 36, 6, 20, 0, 9, 0]) (pd [6, 36, 6, 20, 0, 9, 0]) || (false || false)) = false; rw [eqv_pd]; rfl)) (fun h => by cases h) (fun _ H4 e4 => ?_)
      have T5 : ∀ (u1 u2 u3 u4 u5 : Int) (t1 t2 t3 t4 t5 : TE) (σ : L2.St) (H : Hp), Ev t1 σ H (.int u1) → Ev t2 σ H (.int u2) → Ev t3 σ H (.int u3) → Ev t4 σ H (.int u4) → Ev t5 σ H (.int u5) → EvD K (tTup (tCons t1 (tCons t2 (tCons t3 (tCons t4 (tCons t5 tNil)))))) σ H (.tuple ([u1, u2, u3, u4, u5].map PyData.int)) :=
        fun u1 u2 u3 u4 u5 t1 t2 t3 t4 t5 σ H h1 h2 h3 h4 h5 => ed_tup (eds_cons (ed_int h1) (eds_cons (ed_int h2) (eds_cons (ed_int h3) (eds_cons (ed_int h4) (eds_cons (ed_int h5) eds_nil))))) (by show 5 ≤ 100000; decide)
      refine q_asgL (xs := [.bl true, .bl false, .bl false]) (el_lcD (ds := [.tuple ([6, 2, 3, -1, 1].map PyData.int), .tuple ([3, 4, 6, -1, 1].map PyData.int), .tuple ([-6, -2, -3, 1, -1].map PyData.int)]) (fun _ => true) (fun i => [V.bl true, .bl false, .bl false].getD i .non)
        (ed_lst (eds_cons (T5 6 2 3 (-1) 1 _ _ _ _ _ _ _ ev_c ev_c ev_c cN ev_c) (eds_cons (T5 3 4 6 (-1) 1 _ _ _ _ _ _ _ ev_c ev_c ev_c cN ev_c) (eds_cons (T5 (-6) (-2) (-3) 1 (-1) _ _ _ _ _ _ _ cN cN cN ev_c cN) eds_nil))) (by show 3 ≤ 100000; decide)) (by show 3 ≤ 40000; decide) (fun _ => rfl) (fun _ _ _ _ _ _ _ => et_yes) ?_) fun pl H5 npl e5 hpl => ?_
      · intro i v d H5 e5 hi hd _
        have jg : ∀ (zs : List Int) (b : Bool), d = .tuple (zs.map PyData.int) → zs.all (fun z => decide (z.natAbs < 64)) = true → paperD .H 12 18 (.tuple (zs.map PyData.int)) = b → [V.bl true, .bl false, .bl false].getD i .non = .bl b →
            Ev (tCall (spJudge K) [] E0 (tCons (tC (.str "hours")) (tCons (tC (.int 12)) (tCons (tC (.int 18)) (tCons (tVar 5) tNil))))) ((wipe [some (.ref a), y1, y2, some (.ref pt), y4, none] [5]).set 5 (some v)) H5 ([V.bl true, .bl false, .bl false].getD i .non) := fun zs b e hz hb hv => by
          subst e
          refine ev_is (ev_call (ea_cons cH (ea_cons ev_c (ea_cons ev_c (ea_cons (ev_var rfl) ea_nil)))) (c_judge (k := .H) (a := 12) (b := 18) trivial trivial (zt _ (by decide)) (zt _ (by decide)) (.dat hd) (good_ints (small_ints hz)))) ?_
          rw [hb, hv]
        match i, hi with
        | 0, hi => exact jg [6, 2, 3, -1, 1] true (Option.some.inj hi).symm (by decide) (by decide +kernel) rfl
        | 1, hi => exact jg [3, 4, 6, -1, 1] false (Option.some.inj hi).symm (by decide) (by decide +kernel) rfl
        | 2, hi => exact jg [-6, -2, -3, 1, -1] false (Option.some.inj hi).symm (by decide) (by decide +kernel) rfl
        | i + 3, hi => simp at hi
      · refine s_ret (v := .bl true) (ev_is (ev_eqD (K := K) (d := .list [.bool true, .bool false, .bool false]) (ed_var rfl (.lst (sq_of hpl) (.cons (.bl _) (.cons (.bl _) (.cons (.bl _) .nil))))) (ed_lst (eds_cons (ed_bl ev_c) (eds_cons (ed_bl ev_c) (eds_cons (ed_bl ev_c) eds_nil))) (by show 3 ≤ 100000; decide)) (by decide +kernel) (by decide +kernel)) (by decide +kernel)) fun H6 _ => q H6
end
end Hr
namespace Hr
open PySem PySem.Spec PyProof.Rows L2 Evl
/-! ### what the top has written -/
theorem def_mk {K : PySem.W.Frag} {h : Heap} {mg : Str → Option Value} {x : Str} {st : Stmt} {ps : List Str} {f : Addr} {oc kV dc pm cd ct : Value} {od an : Option Addr} {sl : Array (Option Value)} (X : K.In h) (G : h.Ns mainGlobals mg)
    (a : PySem.W.nsIn K mainGlobals x = some (some (.ref f))) (l : K.lookup f = some ⟨oc, od, .func (PySem.W.fnOf x x (defArgs st) (defBody st) (defScope st) .none kV dc pm an cd ct), sl⟩) (c : PySem.W.codeIn K cd x = true) (k : PySem.W.keepIn K (.ref f) = true)
    (b : ∀ (kV dc pm : Value) (an : Option Addr) (cd ct : Value) (us : List Value), us.length = ps.length → bindArgs (PySem.W.fnOf x x (defArgs st) (defBody st) (defScope st) .none kV dc pm an cd ct) ⟨us, []⟩ = pure (ps.zip us)) : Def K mg x st ps :=
  ⟨f, _, PySem.W.mg_of X G a, fun_mk l c k, (fun_mk (st := st) l c k).binds b⟩
theorem kin_tup {K : PySem.W.Frag} {H : Hp} {a : Addr} {dd : Option Addr} {us : Array Value} {n : Nat} {sl : Array (Option Value)} {xs : List V} (l : K.lookup a = some ⟨.type "tuple", dd, .seq us n, sl⟩) (r : Vals xs us.toList) (hl : xs.length ≤ 100000) : SqT K H a xs :=
  .inr ⟨_, us, _, l, rfl, rfl, by rw [← Array.length_toList, ← r.length]; exact sz_of hl, r⟩
theorem all_mk {l : PySem.W.OpenLaw} {w : World} {K : PySem.W.Frag} {h : Heap} {mg : Str → Option Value} {fa : Addr} (X : K.In h) (G : h.Ns mainGlobals mg) (hfa : mg "law" = some (.ref fa))
    {f1 : Addr} {od1 an1 : Option Addr} {sl1 : Array (Option Value)} {oc1 kV1 dc1 pm1 cd1 ct1 : Value}
    {f2 : Addr} {od2 an2 : Option Addr} {sl2 : Array (Option Value)} {oc2 kV2 dc2 pm2 cd2 ct2 : Value}
    {f3 : Addr} {od3 an3 : Option Addr} {sl3 : Array (Option Value)} {oc3 kV3 dc3 pm3 cd3 ct3 : Value}
    {f4 : Addr} {od4 an4 : Option Addr} {sl4 : Array (Option Value)} {oc4 kV4 dc4 pm4 cd4 ct4 : Value}
    {f5 : Addr} {od5 an5 : Option Addr} {sl5 : Array (Option Value)} {oc5 kV5 dc5 pm5 cd5 ct5 : Value}
    {f6 : Addr} {od6 an6 : Option Addr} {sl6 : Array (Option Value)} {oc6 kV6 dc6 pm6 cd6 ct6 : Value}
    {f7 : Addr} {od7 an7 : Option Addr} {sl7 : Array (Option Value)} {oc7 kV7 dc7 pm7 cd7 ct7 : Value}
    {f8 : Addr} {od8 an8 : Option Addr} {sl8 : Array (Option Value)} {oc8 kV8 dc8 pm8 cd8 ct8 : Value}
    {f9 : Addr} {od9 an9 : Option Addr} {sl9 : Array (Option Value)} {oc9 kV9 dc9 pm9 cd9 ct9 : Value}
    {f10 : Addr} {od10 an10 : Option Addr} {sl10 : Array (Option Value)} {oc10 kV10 dc10 pm10 cd10 ct10 : Value}
    {f11 : Addr} {od11 an11 : Option Addr} {sl11 : Array (Option Value)} {oc11 kV11 dc11 pm11 cd11 ct11 : Value}
    {f12 : Addr} {od12 an12 : Option Addr} {sl12 : Array (Option Value)} {oc12 kV12 dc12 pm12 cd12 ct12 : Value}
    {f13 : Addr} {od13 an13 : Option Addr} {sl13 : Array (Option Value)} {oc13 kV13 dc13 pm13 cd13 ct13 : Value}
    {f14 : Addr} {od14 an14 : Option Addr} {sl14 : Array (Option Value)} {oc14 kV14 dc14 pm14 cd14 ct14 : Value}
    {f15 : Addr} {od15 an15 : Option Addr} {sl15 : Array (Option Value)} {oc15 kV15 dc15 pm15 cd15 ct15 : Value}
    {f16 : Addr} {od16 an16 : Option Addr} {sl16 : Array (Option Value)} {oc16 kV16 dc16 pm16 cd16 ct16 : Value}
    {f17 : Addr} {od17 an17 : Option Addr} {sl17 : Array (Option Value)} {oc17 kV17 dc17 pm17 cd17 ct17 : Value}
    {f18 : Addr} {od18 an18 : Option Addr} {sl18 : Array (Option Value)} {oc18 kV18 dc18 pm18 cd18 ct18 : Value}
    {f19 : Addr} {od19 an19 : Option Addr} {sl19 : Array (Option Value)} {oc19 kV19 dc19 pm19 cd19 ct19 : Value}
    {f20 : Addr} {od20 an20 : Option Addr} {sl20 : Array (Option Value)} {oc20 kV20 dc20 pm20 cd20 ct20 : Value}
    {f21 : Addr} {od21 an21 : Option Addr} {sl21 : Array (Option Value)} {oc21 kV21 dc21 pm21 cd21 ct21 : Value}
    {f22 : Addr} {od22 an22 : Option Addr} {sl22 : Array (Option Value)} {oc22 kV22 dc22 pm22 cd22 ct22 : Value}
    {f23 : Addr} {od23 an23 : Option Addr} {sl23 : Array (Option Value)} {oc23 kV23 dc23 pm23 cd23 ct23 : Value}
    {f24 : Addr} {od24 an24 : Option Addr} {sl24 : Array (Option Value)} {oc24 kV24 dc24 pm24 cd24 ct24 : Value}
    {f25 : Addr} {od25 an25 : Option Addr} {sl25 : Array (Option Value)} {oc25 kV25 dc25 pm25 cd25 ct25 : Value}
    {f26 : Addr} {od26 an26 : Option Addr} {sl26 : Array (Option Value)} {oc26 kV26 dc26 pm26 cd26 ct26 : Value}
    {f27 : Addr} {od27 an27 : Option Addr} {sl27 : Array (Option Value)} {oc27 kV27 dc27 pm27 cd27 ct27 : Value}
    {f28 : Addr} {od28 an28 : Option Addr} {sl28 : Array (Option Value)} {oc28 kV28 dc28 pm28 cd28 ct28 : Value}
    {f29 : Addr} {od29 an29 : Option Addr} {sl29 : Array (Option Value)} {oc29 kV29 dc29 pm29 cd29 ct29 : Value}
    {f30 : Addr} {od30 an30 : Option Addr} {sl30 : Array (Option Value)} {oc30 kV30 dc30 pm30 cd30 ct30 : Value}
    {f31 : Addr} {od31 an31 : Option Addr} {sl31 : Array (Option Value)} {oc31 kV31 dc31 pm31 cd31 ct31 : Value}
    {f32 : Addr} {od32 an32 : Option Addr} {sl32 : Array (Option Value)} {oc32 kV32 dc32 pm32 cd32 ct32 : Value}
    {kd : Addr} {ddk : Option Addr} {tk1 tk2 : Tok} {nk : Nat} {slk : Array (Option Value)}
    (a1 : PySem.W.nsIn K mainGlobals "plus" = some (some (.ref f1))) (l1 : K.lookup f1 = some ⟨oc1, od1, .func (PySem.W.fnOf "plus" "plus" (defArgs s_plus) (defBody s_plus) (defScope s_plus) .none kV1 dc1 pm1 an1 cd1 ct1), sl1⟩) (c1 : PySem.W.codeIn K cd1 "plus" = true) (k1 : PySem.W.keepIn K (.ref f1) = true)
    (a2 : PySem.W.nsIn K mainGlobals "minus" = some (some (.ref f2))) (l2 : K.lookup f2 = some ⟨oc2, od2, .func (PySem.W.fnOf "minus" "minus" (defArgs s_minus) (defBody s_minus) (defScope s_minus) .none kV2 dc2 pm2 an2 cd2 ct2), sl2⟩) (c2 : PySem.W.codeIn K cd2 "minus" = true) (k2 : PySem.W.keepIn K (.ref f2) = true)
    (a3 : PySem.W.nsIn K mainGlobals "times" = some (some (.ref f3))) (l3 : K.lookup f3 = some ⟨oc3, od3, .func (PySem.W.fnOf "times" "times" (defArgs s_times) (defBody s_times) (defScope s_times) .none kV3 dc3 pm3 an3 cd3 ct3), sl3⟩) (c3 : PySem.W.codeIn K cd3 "times" = true) (k3 : PySem.W.keepIn K (.ref f3) = true)
    (a4 : PySem.W.nsIn K mainGlobals "split_by" = some (some (.ref f4))) (l4 : K.lookup f4 = some ⟨oc4, od4, .func (PySem.W.fnOf "split_by" "split_by" (defArgs s_split_by) (defBody s_split_by) (defScope s_split_by) .none kV4 dc4 pm4 an4 cd4 ct4), sl4⟩) (c4 : PySem.W.codeIn K cd4 "split_by" = true) (k4 : PySem.W.keepIn K (.ref f4) = true)
    (a5 : PySem.W.nsIn K mainGlobals "rest_by" = some (some (.ref f5))) (l5 : K.lookup f5 = some ⟨oc5, od5, .func (PySem.W.fnOf "rest_by" "rest_by" (defArgs s_rest_by) (defBody s_rest_by) (defScope s_rest_by) .none kV5 dc5 pm5 an5 cd5 ct5), sl5⟩) (c5 : PySem.W.codeIn K cd5 "rest_by" = true) (k5 : PySem.W.keepIn K (.ref f5) = true)
    (a6 : PySem.W.nsIn K mainGlobals "is_kind" = some (some (.ref f6))) (l6 : K.lookup f6 = some ⟨oc6, od6, .func (PySem.W.fnOf "is_kind" "is_kind" (defArgs s_is_kind) (defBody s_is_kind) (defScope s_is_kind) .none kV6 dc6 pm6 an6 cd6 ct6), sl6⟩) (c6 : PySem.W.codeIn K cd6 "is_kind" = true) (k6 : PySem.W.keepIn K (.ref f6) = true)
    (a7 : PySem.W.nsIn K mainGlobals "is_whole" = some (some (.ref f7))) (l7 : K.lookup f7 = some ⟨oc7, od7, .func (PySem.W.fnOf "is_whole" "is_whole" (defArgs s_is_whole) (defBody s_is_whole) (defScope s_is_whole) .none kV7 dc7 pm7 an7 cd7 ct7), sl7⟩) (c7 : PySem.W.codeIn K cd7 "is_whole" = true) (k7 : PySem.W.keepIn K (.ref f7) = true)
    (a8 : PySem.W.nsIn K mainGlobals "is_number" = some (some (.ref f8))) (l8 : K.lookup f8 = some ⟨oc8, od8, .func (PySem.W.fnOf "is_number" "is_number" (defArgs s_is_number) (defBody s_is_number) (defScope s_is_number) .none kV8 dc8 pm8 an8 cd8 ct8), sl8⟩) (c8 : PySem.W.codeIn K cd8 "is_number" = true) (k8 : PySem.W.keepIn K (.ref f8) = true)
    (a9 : PySem.W.nsIn K mainGlobals "check_kind" = some (some (.ref f9))) (l9 : K.lookup f9 = some ⟨oc9, od9, .func (PySem.W.fnOf "check_kind" "check_kind" (defArgs s_check_kind) (defBody s_check_kind) (defScope s_check_kind) .none kV9 dc9 pm9 an9 cd9 ct9), sl9⟩) (c9 : PySem.W.codeIn K cd9 "check_kind" = true) (k9 : PySem.W.keepIn K (.ref f9) = true)
    (a10 : PySem.W.nsIn K mainGlobals "check_number" = some (some (.ref f10))) (l10 : K.lookup f10 = some ⟨oc10, od10, .func (PySem.W.fnOf "check_number" "check_number" (defArgs s_check_number) (defBody s_check_number) (defScope s_check_number) .none kV10 dc10 pm10 an10 cd10 ct10), sl10⟩) (c10 : PySem.W.codeIn K cd10 "check_number" = true) (k10 : PySem.W.keepIn K (.ref f10) = true)
    (a11 : PySem.W.nsIn K mainGlobals "check_two" = some (some (.ref f11))) (l11 : K.lookup f11 = some ⟨oc11, od11, .func (PySem.W.fnOf "check_two" "check_two" (defArgs s_check_two) (defBody s_check_two) (defScope s_check_two) .none kV11 dc11 pm11 an11 cd11 ct11), sl11⟩) (c11 : PySem.W.codeIn K cd11 "check_two" = true) (k11 : PySem.W.keepIn K (.ref f11) = true)
    (a12 : PySem.W.nsIn K mainGlobals "_law_hash" = some (some (.ref f12))) (l12 : K.lookup f12 = some ⟨oc12, od12, .func (PySem.W.fnOf "_law_hash" "_law_hash" (defArgs s_law_hash) (defBody s_law_hash) (defScope s_law_hash) .none kV12 dc12 pm12 an12 cd12 ct12), sl12⟩) (c12 : PySem.W.codeIn K cd12 "_law_hash" = true) (k12 : PySem.W.keepIn K (.ref f12) = true)
    (a13 : PySem.W.nsIn K mainGlobals "_law_random" = some (some (.ref f13))) (l13 : K.lookup f13 = some ⟨oc13, od13, .func (PySem.W.fnOf "_law_random" "_law_random" (defArgs s_law_random) (defBody s_law_random) (defScope s_law_random) .none kV13 dc13 pm13 an13 cd13 ct13), sl13⟩) (c13 : PySem.W.codeIn K cd13 "_law_random" = true) (k13 : PySem.W.keepIn K (.ref f13) = true)
    (a14 : PySem.W.nsIn K mainGlobals "_law_cell" = some (some (.ref f14))) (l14 : K.lookup f14 = some ⟨oc14, od14, .func (PySem.W.fnOf "_law_cell" "_law_cell" (defArgs s_law_cell) (defBody s_law_cell) (defScope s_law_cell) .none kV14 dc14 pm14 an14 cd14 ct14), sl14⟩) (c14 : PySem.W.codeIn K cd14 "_law_cell" = true) (k14 : PySem.W.keepIn K (.ref f14) = true)
    (a15 : PySem.W.nsIn K mainGlobals "_law_generator" = some (some (.ref f15))) (l15 : K.lookup f15 = some ⟨oc15, od15, .func (PySem.W.fnOf "_law_generator" "_law_generator" (defArgs s_law_generator) (defBody s_law_generator) (defScope s_law_generator) .none kV15 dc15 pm15 an15 cd15 ct15), sl15⟩) (c15 : PySem.W.codeIn K cd15 "_law_generator" = true) (k15 : PySem.W.keepIn K (.ref f15) = true)
    (a16 : PySem.W.nsIn K mainGlobals "_law_add" = some (some (.ref f16))) (l16 : K.lookup f16 = some ⟨oc16, od16, .func (PySem.W.fnOf "_law_add" "_law_add" (defArgs s_law_add) (defBody s_law_add) (defScope s_law_add) .none kV16 dc16 pm16 an16 cd16 ct16), sl16⟩) (c16 : PySem.W.codeIn K cd16 "_law_add" = true) (k16 : PySem.W.keepIn K (.ref f16) = true)
    (a17 : PySem.W.nsIn K mainGlobals "_law_less" = some (some (.ref f17))) (l17 : K.lookup f17 = some ⟨oc17, od17, .func (PySem.W.fnOf "_law_less" "_law_less" (defArgs s_law_less) (defBody s_law_less) (defScope s_law_less) .none kV17 dc17 pm17 an17 cd17 ct17), sl17⟩) (c17 : PySem.W.codeIn K cd17 "_law_less" = true) (k17 : PySem.W.keepIn K (.ref f17) = true)
    (a18 : PySem.W.nsIn K mainGlobals "_law_times" = some (some (.ref f18))) (l18 : K.lookup f18 = some ⟨oc18, od18, .func (PySem.W.fnOf "_law_times" "_law_times" (defArgs s_law_times) (defBody s_law_times) (defScope s_law_times) .none kV18 dc18 pm18 an18 cd18 ct18), sl18⟩) (c18 : PySem.W.codeIn K cd18 "_law_times" = true) (k18 : PySem.W.keepIn K (.ref f18) = true)
    (a19 : PySem.W.nsIn K mainGlobals "_law_rest" = some (some (.ref f19))) (l19 : K.lookup f19 = some ⟨oc19, od19, .func (PySem.W.fnOf "_law_rest" "_law_rest" (defArgs s_law_rest) (defBody s_law_rest) (defScope s_law_rest) .none kV19 dc19 pm19 an19 cd19 ct19), sl19⟩) (c19 : PySem.W.codeIn K cd19 "_law_rest" = true) (k19 : PySem.W.keepIn K (.ref f19) = true)
    (a20 : PySem.W.nsIn K mainGlobals "_law_is_multiple" = some (some (.ref f20))) (l20 : K.lookup f20 = some ⟨oc20, od20, .func (PySem.W.fnOf "_law_is_multiple" "_law_is_multiple" (defArgs s_law_is_multiple) (defBody s_law_is_multiple) (defScope s_law_is_multiple) .none kV20 dc20 pm20 an20 cd20 ct20), sl20⟩) (c20 : PySem.W.codeIn K cd20 "_law_is_multiple" = true) (k20 : PySem.W.keepIn K (.ref f20) = true)
    (a21 : PySem.W.nsIn K mainGlobals "_law_number" = some (some (.ref f21))) (l21 : K.lookup f21 = some ⟨oc21, od21, .func (PySem.W.fnOf "_law_number" "_law_number" (defArgs s_law_number) (defBody s_law_number) (defScope s_law_number) .none kV21 dc21 pm21 an21 cd21 ct21), sl21⟩) (c21 : PySem.W.codeIn K cd21 "_law_number" = true) (k21 : PySem.W.keepIn K (.ref f21) = true)
    (a22 : PySem.W.nsIn K mainGlobals "common_divisor" = some (some (.ref f22))) (l22 : K.lookup f22 = some ⟨oc22, od22, .func (PySem.W.fnOf "common_divisor" "common_divisor" (defArgs s_common_divisor) (defBody s_common_divisor) (defScope s_common_divisor) .none kV22 dc22 pm22 an22 cd22 ct22), sl22⟩) (c22 : PySem.W.codeIn K cd22 "common_divisor" = true) (k22 : PySem.W.keepIn K (.ref f22) = true)
    (a23 : PySem.W.nsIn K mainGlobals "common_multiple" = some (some (.ref f23))) (l23 : K.lookup f23 = some ⟨oc23, od23, .func (PySem.W.fnOf "common_multiple" "common_multiple" (defArgs s_common_multiple) (defBody s_common_multiple) (defScope s_common_multiple) .none kV23 dc23 pm23 an23 cd23 ct23), sl23⟩) (c23 : PySem.W.codeIn K cd23 "common_multiple" = true) (k23 : PySem.W.keepIn K (.ref f23) = true)
    (a24 : PySem.W.nsIn K mainGlobals "divisor" = some (some (.ref f24))) (l24 : K.lookup f24 = some ⟨oc24, od24, .func (PySem.W.fnOf "divisor" "divisor" (defArgs s_divisor) (defBody s_divisor) (defScope s_divisor) .none kV24 dc24 pm24 an24 cd24 ct24), sl24⟩) (c24 : PySem.W.codeIn K cd24 "divisor" = true) (k24 : PySem.W.keepIn K (.ref f24) = true)
    (a25 : PySem.W.nsIn K mainGlobals "multiple" = some (some (.ref f25))) (l25 : K.lookup f25 = some ⟨oc25, od25, .func (PySem.W.fnOf "multiple" "multiple" (defArgs s_multiple) (defBody s_multiple) (defScope s_multiple) .none kV25 dc25 pm25 an25 cd25 ct25), sl25⟩) (c25 : PySem.W.codeIn K cd25 "multiple" = true) (k25 : PySem.W.keepIn K (.ref f25) = true)
    (a26 : PySem.W.nsIn K mainGlobals "divisor_with_factors" = some (some (.ref f26))) (l26 : K.lookup f26 = some ⟨oc26, od26, .func (PySem.W.fnOf "divisor_with_factors" "divisor_with_factors" (defArgs s_divisor_with_factors) (defBody s_divisor_with_factors) (defScope s_divisor_with_factors) .none kV26 dc26 pm26 an26 cd26 ct26), sl26⟩) (c26 : PySem.W.codeIn K cd26 "divisor_with_factors" = true) (k26 : PySem.W.keepIn K (.ref f26) = true)
    (a27 : PySem.W.nsIn K mainGlobals "divisor_paper" = some (some (.ref f27))) (l27 : K.lookup f27 = some ⟨oc27, od27, .func (PySem.W.fnOf "divisor_paper" "divisor_paper" (defArgs s_divisor_paper) (defBody s_divisor_paper) (defScope s_divisor_paper) .none kV27 dc27 pm27 an27 cd27 ct27), sl27⟩) (c27 : PySem.W.codeIn K cd27 "divisor_paper" = true) (k27 : PySem.W.keepIn K (.ref f27) = true)
    (a28 : PySem.W.nsIn K mainGlobals "_law_due" = some (some (.ref f28))) (l28 : K.lookup f28 = some ⟨oc28, od28, .func (PySem.W.fnOf "_law_due" "_law_due" (defArgs s_law_due) (defBody s_law_due) (defScope s_law_due) .none kV28 dc28 pm28 an28 cd28 ct28), sl28⟩) (c28 : PySem.W.codeIn K cd28 "_law_due" = true) (k28 : PySem.W.keepIn K (.ref f28) = true)
    (a29 : PySem.W.nsIn K mainGlobals "is_divisor_paper" = some (some (.ref f29))) (l29 : K.lookup f29 = some ⟨oc29, od29, .func (PySem.W.fnOf "is_divisor_paper" "is_divisor_paper" (defArgs s_is_divisor_paper) (defBody s_is_divisor_paper) (defScope s_is_divisor_paper) .none kV29 dc29 pm29 an29 cd29 ct29), sl29⟩) (c29 : PySem.W.codeIn K cd29 "is_divisor_paper" = true) (k29 : PySem.W.keepIn K (.ref f29) = true)
    (a30 : PySem.W.nsIn K mainGlobals "_law_is_paper" = some (some (.ref f30))) (l30 : K.lookup f30 = some ⟨oc30, od30, .func (PySem.W.fnOf "_law_is_paper" "_law_is_paper" (defArgs s_law_is_paper) (defBody s_law_is_paper) (defScope s_law_is_paper) .none kV30 dc30 pm30 an30 cd30 ct30), sl30⟩) (c30 : PySem.W.codeIn K cd30 "_law_is_paper" = true) (k30 : PySem.W.keepIn K (.ref f30) = true)
    (a31 : PySem.W.nsIn K mainGlobals "_law_right" = some (some (.ref f31))) (l31 : K.lookup f31 = some ⟨oc31, od31, .func (PySem.W.fnOf "_law_right" "_law_right" (defArgs s_law_right) (defBody s_law_right) (defScope s_law_right) .none kV31 dc31 pm31 an31 cd31 ct31), sl31⟩) (c31 : PySem.W.codeIn K cd31 "_law_right" = true) (k31 : PySem.W.keepIn K (.ref f31) = true)
    (a32 : PySem.W.nsIn K mainGlobals "law" = some (some (.ref f32))) (l32 : K.lookup f32 = some ⟨oc32, od32, .func (PySem.W.fnOf "law" "law" (defArgs s_law) (defBody s_law) (defScope s_law) .none kV32 dc32 pm32 an32 cd32 ct32), sl32⟩) (c32 : PySem.W.codeIn K cd32 "law" = true) (k32 : PySem.W.keepIn K (.ref f32) = true)
    (bz_divmod : PySem.W.nsIn K mainGlobals "divmod" = some none)
    (bz_isinstance : PySem.W.nsIn K mainGlobals "isinstance" = some none)
    (bz_str : PySem.W.nsIn K mainGlobals "str" = some none)
    (bz_int : PySem.W.nsIn K mainGlobals "int" = some none)
    (bz_bool : PySem.W.nsIn K mainGlobals "bool" = some none)
    (bz_range : PySem.W.nsIn K mainGlobals "range" = some none)
    (bz_len : PySem.W.nsIn K mainGlobals "len" = some none)
    (bz_sum : PySem.W.nsIn K mainGlobals "sum" = some none)
    (bz_max : PySem.W.nsIn K mainGlobals "max" = some none)
    (bz_abs : PySem.W.nsIn K mainGlobals "abs" = some none)
    (bz_tuple : PySem.W.nsIn K mainGlobals "tuple" = some none)
    (bz_all : PySem.W.nsIn K mainGlobals "all" = some none)
    (bz_repr : PySem.W.nsIn K mainGlobals "repr" = some none)
    (bz_list : PySem.W.nsIn K mainGlobals "list" = some none)
    (bm_KINDS : PySem.W.nsIn K mainGlobals "KINDS" = some (some (.ref kd))) (lm_KINDS : K.lookup kd = some ⟨.type "tuple", ddk, .seq #[.str "hours" tk1, .str "bits" tk2] nk, slk⟩)
    (bm_gcd : PySem.W.nsIn K mainGlobals "gcd" = some (some (.builtin "math.gcd")))
    : ∃ fd : FuncData, (∀ (s : Shared) (v : Value), BindsTo s fd ⟨[v], []⟩ [("_law_script", v)]) ∧ ∀ base : Heap, K.In base → base.Ns mainGlobals mg → Fq l.prog w K mg base CX0 7 fa fd ["_law_script"] (spLaw K) := by
  have e := hfa.symm.trans (PySem.W.mg_of X G a32)
  cases e
  have z_divmod := PySem.W.mg_none_of X G bz_divmod
  have z_isinstance := PySem.W.mg_none_of X G bz_isinstance
  have z_str := PySem.W.mg_none_of X G bz_str
  have z_int := PySem.W.mg_none_of X G bz_int
  have z_bool := PySem.W.mg_none_of X G bz_bool
  have z_range := PySem.W.mg_none_of X G bz_range
  have z_len := PySem.W.mg_none_of X G bz_len
  have z_sum := PySem.W.mg_none_of X G bz_sum
  have z_max := PySem.W.mg_none_of X G bz_max
  have z_abs := PySem.W.mg_none_of X G bz_abs
  have z_tuple := PySem.W.mg_none_of X G bz_tuple
  have z_all := PySem.W.mg_none_of X G bz_all
  have z_repr := PySem.W.mg_none_of X G bz_repr
  have z_list := PySem.W.mg_none_of X G bz_list
  have m_KINDS := PySem.W.mg_of X G bm_KINDS
  have m_gcd := PySem.W.mg_of X G bm_gcd
  have hK : ∀ H, SqT K H kd [.str "hours", .str "bits"] := fun H => kin_tup lm_KINDS (.cons ⟨_, rfl⟩ (.cons ⟨_, rfl⟩ .nil)) (by show 2 ≤ 100000; decide)
  have D_plus : Def K mg "plus" s_plus P_plus := def_mk X G a1 l1 c1 k1 fun _ _ _ _ _ _ us hl => match us, hl with | [_, _, _], _ => rfl
  have D_minus : Def K mg "minus" s_minus P_minus := def_mk X G a2 l2 c2 k2 fun _ _ _ _ _ _ us hl => match us, hl with | [_, _, _], _ => rfl
  have D_times : Def K mg "times" s_times P_times := def_mk X G a3 l3 c3 k3 fun _ _ _ _ _ _ us hl => match us, hl with | [_, _, _], _ => rfl
  have D_split_by : Def K mg "split_by" s_split_by P_split_by := def_mk X G a4 l4 c4 k4 fun _ _ _ _ _ _ us hl => match us, hl with | [_, _, _], _ => rfl
  have D_rest_by : Def K mg "rest_by" s_rest_by P_rest_by := def_mk X G a5 l5 c5 k5 fun _ _ _ _ _ _ us hl => match us, hl with | [_, _, _], _ => rfl
  have D_is_kind : Def K mg "is_kind" s_is_kind P_is_kind := def_mk X G a6 l6 c6 k6 fun _ _ _ _ _ _ us hl => match us, hl with | [_], _ => rfl
  have D_is_whole : Def K mg "is_whole" s_is_whole P_is_whole := def_mk X G a7 l7 c7 k7 fun _ _ _ _ _ _ us hl => match us, hl with | [_], _ => rfl
  have D_is_number : Def K mg "is_number" s_is_number P_is_number := def_mk X G a8 l8 c8 k8 fun _ _ _ _ _ _ us hl => match us, hl with | [_, _], _ => rfl
  have D_check_kind : Def K mg "check_kind" s_check_kind P_check_kind := def_mk X G a9 l9 c9 k9 fun _ _ _ _ _ _ us hl => match us, hl with | [_], _ => rfl
  have D_check_number : Def K mg "check_number" s_check_number P_check_number := def_mk X G a10 l10 c10 k10 fun _ _ _ _ _ _ us hl => match us, hl with | [_, _], _ => rfl
  have D_check_two : Def K mg "check_two" s_check_two P_check_two := def_mk X G a11 l11 c11 k11 fun _ _ _ _ _ _ us hl => match us, hl with | [_, _, _], _ => rfl
  have D_law_hash : Def K mg "_law_hash" s_law_hash P_law_hash := def_mk X G a12 l12 c12 k12 fun _ _ _ _ _ _ us hl => match us, hl with | [_, _], _ => rfl
  have D_law_random : Def K mg "_law_random" s_law_random P_law_random := def_mk X G a13 l13 c13 k13 fun _ _ _ _ _ _ us hl => match us, hl with | [_, _], _ => rfl
  have D_law_cell : Def K mg "_law_cell" s_law_cell P_law_cell := def_mk X G a14 l14 c14 k14 fun _ _ _ _ _ _ us hl => match us, hl with | [_, _], _ => rfl
  have D_law_generator : Def K mg "_law_generator" s_law_generator P_law_generator := def_mk X G a15 l15 c15 k15 fun _ _ _ _ _ _ us hl => match us, hl with | [_, _], _ => rfl
  have D_law_add : Def K mg "_law_add" s_law_add P_law_add := def_mk X G a16 l16 c16 k16 fun _ _ _ _ _ _ us hl => match us, hl with | [_, _, _], _ => rfl
  have D_law_less : Def K mg "_law_less" s_law_less P_law_less := def_mk X G a17 l17 c17 k17 fun _ _ _ _ _ _ us hl => match us, hl with | [_, _, _], _ => rfl
  have D_law_times : Def K mg "_law_times" s_law_times P_law_times := def_mk X G a18 l18 c18 k18 fun _ _ _ _ _ _ us hl => match us, hl with | [_, _, _], _ => rfl
  have D_law_rest : Def K mg "_law_rest" s_law_rest P_law_rest := def_mk X G a19 l19 c19 k19 fun _ _ _ _ _ _ us hl => match us, hl with | [_, _, _], _ => rfl
  have D_law_is_multiple : Def K mg "_law_is_multiple" s_law_is_multiple P_law_is_multiple := def_mk X G a20 l20 c20 k20 fun _ _ _ _ _ _ us hl => match us, hl with | [_, _, _], _ => rfl
  have D_law_number : Def K mg "_law_number" s_law_number P_law_number := def_mk X G a21 l21 c21 k21 fun _ _ _ _ _ _ us hl => match us, hl with | [_, _, _], _ => rfl
  have D_common_divisor : Def K mg "common_divisor" s_common_divisor P_common_divisor := def_mk X G a22 l22 c22 k22 fun _ _ _ _ _ _ us hl => match us, hl with | [_, _, _], _ => rfl
  have D_common_multiple : Def K mg "common_multiple" s_common_multiple P_common_multiple := def_mk X G a23 l23 c23 k23 fun _ _ _ _ _ _ us hl => match us, hl with | [_, _, _], _ => rfl
  have D_divisor : Def K mg "divisor" s_divisor P_divisor := def_mk X G a24 l24 c24 k24 fun _ _ _ _ _ _ us hl => match us, hl with | [_, _, _], _ => rfl
  have D_multiple : Def K mg "multiple" s_multiple P_multiple := def_mk X G a25 l25 c25 k25 fun _ _ _ _ _ _ us hl => match us, hl with | [_, _, _], _ => rfl
  have D_divisor_with_factors : Def K mg "divisor_with_factors" s_divisor_with_factors P_divisor_with_factors := def_mk X G a26 l26 c26 k26 fun _ _ _ _ _ _ us hl => match us, hl with | [_, _, _], _ => rfl
  have D_divisor_paper : Def K mg "divisor_paper" s_divisor_paper P_divisor_paper := def_mk X G a27 l27 c27 k27 fun _ _ _ _ _ _ us hl => match us, hl with | [_, _, _], _ => rfl
  have D_law_due : Def K mg "_law_due" s_law_due P_law_due := def_mk X G a28 l28 c28 k28 fun _ _ _ _ _ _ us hl => match us, hl with | [_, _, _], _ => rfl
  have D_is_divisor_paper : Def K mg "is_divisor_paper" s_is_divisor_paper P_is_divisor_paper := def_mk X G a29 l29 c29 k29 fun _ _ _ _ _ _ us hl => match us, hl with | [_, _, _, _], _ => rfl
  have D_law_is_paper : Def K mg "_law_is_paper" s_law_is_paper P_law_is_paper := def_mk X G a30 l30 c30 k30 fun _ _ _ _ _ _ us hl => match us, hl with | [_, _, _, _], _ => rfl
  have D_law_right : Def K mg "_law_right" s_law_right P_law_right := def_mk X G a31 l31 c31 k31 fun _ _ _ _ _ _ us hl => match us, hl with | [_, _], _ => rfl
  have FL := fun_mk (st := s_law) l32 c32 k32
  refine ⟨PySem.W.fnOf "law" "law" (defArgs s_law) (defBody s_law) (defScope s_law) .none kV32 dc32 pm32 an32 cd32 ct32, fun s v => .of_eq rfl, fun base _ _ => ?_⟩
  have h_plus : Has l.prog w K mg base _ "plus" P_plus _ := d_plus D_plus 
  have h_minus : Has l.prog w K mg base _ "minus" P_minus _ := d_minus D_minus 
  have h_times : Has l.prog w K mg base _ "times" P_times _ := d_times D_times 
  have h_split_by : Has l.prog w K mg base _ "split_by" P_split_by _ := d_split_by D_split_by (z_divmod := z_divmod)
  have h_rest_by : Has l.prog w K mg base _ "rest_by" P_rest_by _ := d_rest_by D_rest_by (h_split_by := h_split_by)
  have h_is_kind : Has l.prog w K mg base _ "is_kind" P_is_kind _ := d_is_kind D_is_kind (z_isinstance := z_isinstance) (z_str := z_str) (m_KINDS := m_KINDS) (hK := hK)
  have h_is_whole : Has l.prog w K mg base _ "is_whole" P_is_whole _ := d_is_whole D_is_whole (z_isinstance := z_isinstance) (z_int := z_int) (z_bool := z_bool)
  have h_is_number : Has l.prog w K mg base _ "is_number" P_is_number _ := d_is_number D_is_number (h_is_whole := h_is_whole)
  have h_check_kind : Has l.prog w K mg base _ "check_kind" P_check_kind _ := d_check_kind D_check_kind (h_is_kind := h_is_kind)
  have h_check_number : Has l.prog w K mg base _ "check_number" P_check_number _ := d_check_number D_check_number (h_is_number := h_is_number)
  have h_check_two : Has l.prog w K mg base _ "check_two" P_check_two _ := d_check_two D_check_two (h_check_kind := h_check_kind) (h_check_number := h_check_number)
  have h_law_hash : Has l.prog w K mg base _ "_law_hash" P_law_hash _ := d_law_hash D_law_hash (z_int := z_int)
  have h_law_random : Has l.prog w K mg base _ "_law_random" P_law_random _ := d_law_random D_law_random (h_law_hash := h_law_hash) (z_int := z_int) (z_range := z_range)
  have h_law_cell : Has l.prog w K mg base _ "_law_cell" P_law_cell _ := d_law_cell D_law_cell (z_len := z_len) (z_sum := z_sum)
  have h_law_generator : Has l.prog w K mg base _ "_law_generator" P_law_generator _ := d_law_generator D_law_generator (h_law_cell := h_law_cell) (z_int := z_int) (z_max := z_max)
  have h_law_add : Has l.prog w K mg base _ "_law_add" P_law_add _ := d_law_add D_law_add 
  have h_law_less : Has l.prog w K mg base _ "_law_less" P_law_less _ := d_law_less D_law_less 
  have h_law_times : Has l.prog w K mg base _ "_law_times" P_law_times _ := d_law_times D_law_times (z_int := z_int) (z_range := z_range)
  have h_law_rest : Has l.prog w K mg base _ "_law_rest" P_law_rest _ := d_law_rest D_law_rest (z_int := z_int)
  have h_law_is_multiple : Has l.prog w K mg base _ "_law_is_multiple" P_law_is_multiple _ := d_law_is_multiple D_law_is_multiple (h_law_rest := h_law_rest)
  have h_law_number : Has l.prog w K mg base _ "_law_number" P_law_number _ := d_law_number D_law_number (h_law_random := h_law_random)
  have h_common_divisor : Has l.prog w K mg base _ "common_divisor" P_common_divisor _ := d_common_divisor D_common_divisor (h_rest_by := h_rest_by) (m_gcd := m_gcd)
  have h_common_multiple : Has l.prog w K mg base _ "common_multiple" P_common_multiple _ := d_common_multiple D_common_multiple (h_split_by := h_split_by) (h_common_divisor := h_common_divisor) (h_times := h_times) (z_abs := z_abs)
  have h_divisor : Has l.prog w K mg base _ "divisor" P_divisor _ := d_divisor D_divisor (h_check_two := h_check_two) (h_common_divisor := h_common_divisor)
  have h_multiple : Has l.prog w K mg base _ "multiple" P_multiple _ := d_multiple D_multiple (h_check_two := h_check_two) (h_common_multiple := h_common_multiple)
  have h_divisor_with_factors : Has l.prog w K mg base _ "divisor_with_factors" P_divisor_with_factors _ := d_divisor_with_factors D_divisor_with_factors (h_split_by := h_split_by) (h_minus := h_minus) (h_times := h_times)
  have h_divisor_paper : Has l.prog w K mg base _ "divisor_paper" P_divisor_paper _ := d_divisor_paper D_divisor_paper (h_check_two := h_check_two) (h_divisor_with_factors := h_divisor_with_factors)
  have h_law_due : Has l.prog w K mg base _ "_law_due" P_law_due _ := d_law_due D_law_due (h_law_is_multiple := h_law_is_multiple) (h_law_times := h_law_times) (z_abs := z_abs) (z_range := z_range) (z_max := z_max)
  have h_is_whole_D : Has l.prog w K mg base _ "is_whole" P_is_whole _ := d_is_whole_D D_is_whole (z_isinstance := z_isinstance) (z_int := z_int) (z_bool := z_bool)
  have h_is_number_D : Has l.prog w K mg base _ "is_number" P_is_number _ := d_is_number_D D_is_number (h_is_whole_D := h_is_whole_D)
  have h_is_divisor_paper : Has l.prog w K mg base _ "is_divisor_paper" P_is_divisor_paper _ := d_is_divisor_paper D_is_divisor_paper (h_check_two := h_check_two) (h_is_number_D := h_is_number_D) (h_times := h_times) (h_plus := h_plus) (z_isinstance := z_isinstance) (z_tuple := z_tuple) (z_len := z_len) (z_all := z_all)
  have h_law_is_paper : Has l.prog w K mg base _ "_law_is_paper" P_law_is_paper _ := d_law_is_paper D_law_is_paper (h_law_times := h_law_times) (h_law_add := h_law_add) (z_isinstance := z_isinstance) (z_tuple := z_tuple) (z_len := z_len) (z_bool := z_bool) (z_int := z_int)
  have h_law_right : Has l.prog w K mg base _ "_law_right" P_law_right _ := d_law_right D_law_right (h_law_number := h_law_number) (h_law_due := h_law_due) (h_divisor := h_divisor) (h_multiple := h_multiple) (h_divisor_paper := h_divisor_paper) (h_law_is_paper := h_law_is_paper) (h_is_divisor_paper := h_is_divisor_paper) (h_law_add := h_law_add) (h_law_less := h_law_less) (z_repr := z_repr) (z_list := z_list) (z_range := z_range) (z_abs := z_abs)
  exact d_law FL (h_law_generator := h_law_generator) (h_law_right := h_law_right) (h_divisor := h_divisor) (h_multiple := h_multiple) (h_divisor_paper := h_divisor_paper) (h_is_divisor_paper := h_is_divisor_paper) (z_range := z_range)
end Hr
open PySem PySem.W PyProof.Rows
set_option maxRecDepth 100000 in
set_option maxHeartbeats 0 in
theorem PySem.Challenge.cw_hourrings_k08_whole_divisors_and_multipl_holds : PySem.Challenge.rw_hourrings_k08_whole_divisors_and_multipl.Holds := by
  w_on; o_law; k_head; (case hw => w_witness2)
  k_fill
  refine Hr.rowq (l := PySem.Challenge.rw_hourrings_k08_whole_divisors_and_multipl) (n := 63) (k := 7) (x := "_law_script") (sp := Hr.spLaw) rfl (by decide) rfl ⟨⟨rfl, by decide, by decide⟩, rfl⟩ (fun w h Y => PySem.W.kIn_of Y) ?F (fun K H a ns hl _ hS => ⟨a, ns, rfl, hS, hl, fun _ => rfl⟩)
  case F =>
    intro w mg fa h KX G hmg
    refine' Hr.all_mk KX G hmg ?a1 ?l1 ?c1 ?k1 ?a2 ?l2 ?c2 ?k2 ?a3 ?l3 ?c3 ?k3 ?a4 ?l4 ?c4 ?k4 ?a5 ?l5 ?c5 ?k5 ?a6 ?l6 ?c6 ?k6 ?a7 ?l7 ?c7 ?k7 ?a8 ?l8 ?c8 ?k8 ?a9 ?l9 ?c9 ?k9 ?a10 ?l10 ?c10 ?k10 ?a11 ?l11 ?c11 ?k11 ?a12 ?l12 ?c12 ?k12 ?a13 ?l13 ?c13 ?k13 ?a14 ?l14 ?c14 ?k14 ?a15 ?l15 ?c15 ?k15 ?a16 ?l16 ?c16 ?k16 ?a17 ?l17 ?c17 ?k17 ?a18 ?l18 ?c18 ?k18 ?a19 ?l19 ?c19 ?k19 ?a20 ?l20 ?c20 ?k20 ?a21 ?l21 ?c21 ?k21 ?a22 ?l22 ?c22 ?k22 ?a23 ?l23 ?c23 ?k23 ?a24 ?l24 ?c24 ?k24 ?a25 ?l25 ?c25 ?k25 ?a26 ?l26 ?c26 ?k26 ?a27 ?l27 ?c27 ?k27 ?a28 ?l28 ?c28 ?k28 ?a29 ?l29 ?c29 ?k29 ?a30 ?l30 ?c30 ?k30 ?a31 ?l31 ?c31 ?k31 ?a32 ?l32 ?c32 ?k32 ?bz_divmod ?bz_isinstance ?bz_str ?bz_int ?bz_bool ?bz_range ?bz_len ?bz_sum ?bz_max ?bz_abs ?bz_tuple ?bz_all ?bz_repr ?bz_list ?bm_KINDS ?lm_KINDS ?bm_gcd
    (case a1 => k_is)
    (case l1 => k_is)
    (case c1 => k_is)
    (case k1 => k_is)
    (case a2 => k_is)
    (case l2 => k_is)
    (case c2 => k_is)
    (case k2 => k_is)
    (case a3 => k_is)
    (case l3 => k_is)
    (case c3 => k_is)
    (case k3 => k_is)
    (case a4 => k_is)
    (case l4 => k_is)
    (case c4 => k_is)
    (case k4 => k_is)
    (case a5 => k_is)
    (case l5 => k_is)
    (case c5 => k_is)
    (case k5 => k_is)
    (case a6 => k_is)
    (case l6 => k_is)
    (case c6 => k_is)
    (case k6 => k_is)
    (case a7 => k_is)
    (case l7 => k_is)
    (case c7 => k_is)
    (case k7 => k_is)
    (case a8 => k_is)
    (case l8 => k_is)
    (case c8 => k_is)
    (case k8 => k_is)
    (case a9 => k_is)
    (case l9 => k_is)
    (case c9 => k_is)
    (case k9 => k_is)
    (case a10 => k_is)
    (case l10 => k_is)
    (case c10 => k_is)
    (case k10 => k_is)
    (case a11 => k_is)
    (case l11 => k_is)
    (case c11 => k_is)
    (case k11 => k_is)
    (case a12 => k_is)
    (case l12 => k_is)
    (case c12 => k_is)
    (case k12 => k_is)
    (case a13 => k_is)
    (case l13 => k_is)
    (case c13 => k_is)
    (case k13 => k_is)
    (case a14 => k_is)
    (case l14 => k_is)
    (case c14 => k_is)
    (case k14 => k_is)
    (case a15 => k_is)
    (case l15 => k_is)
    (case c15 => k_is)
    (case k15 => k_is)
    (case a16 => k_is)
    (case l16 => k_is)
    (case c16 => k_is)
    (case k16 => k_is)
    (case a17 => k_is)
    (case l17 => k_is)
    (case c17 => k_is)
    (case k17 => k_is)
    (case a18 => k_is)
    (case l18 => k_is)
    (case c18 => k_is)
    (case k18 => k_is)
    (case a19 => k_is)
    (case l19 => k_is)
    (case c19 => k_is)
    (case k19 => k_is)
    (case a20 => k_is)
    (case l20 => k_is)
    (case c20 => k_is)
    (case k20 => k_is)
    (case a21 => k_is)
    (case l21 => k_is)
    (case c21 => k_is)
    (case k21 => k_is)
    (case a22 => k_is)
    (case l22 => k_is)
    (case c22 => k_is)
    (case k22 => k_is)
    (case a23 => k_is)
    (case l23 => k_is)
    (case c23 => k_is)
    (case k23 => k_is)
    (case a24 => k_is)
    (case l24 => k_is)
    (case c24 => k_is)
    (case k24 => k_is)
    (case a25 => k_is)
    (case l25 => k_is)
    (case c25 => k_is)
    (case k25 => k_is)
    (case a26 => k_is)
    (case l26 => k_is)
    (case c26 => k_is)
    (case k26 => k_is)
    (case a27 => k_is)
    (case l27 => k_is)
    (case c27 => k_is)
    (case k27 => k_is)
    (case a28 => k_is)
    (case l28 => k_is)
    (case c28 => k_is)
    (case k28 => k_is)
    (case a29 => k_is)
    (case l29 => k_is)
    (case c29 => k_is)
    (case k29 => k_is)
    (case a30 => k_is)
    (case l30 => k_is)
    (case c30 => k_is)
    (case k30 => k_is)
    (case a31 => k_is)
    (case l31 => k_is)
    (case c31 => k_is)
    (case k31 => k_is)
    (case a32 => k_is)
    (case l32 => k_is)
    (case c32 => k_is)
    (case k32 => k_is)
    (case bz_divmod => k_is)
    (case bz_isinstance => k_is)
    (case bz_str => k_is)
    (case bz_int => k_is)
    (case bz_bool => k_is)
    (case bz_range => k_is)
    (case bz_len => k_is)
    (case bz_sum => k_is)
    (case bz_max => k_is)
    (case bz_abs => k_is)
    (case bz_tuple => k_is)
    (case bz_all => k_is)
    (case bz_repr => k_is)
    (case bz_list => k_is)
    (case bm_KINDS => k_is)
    (case lm_KINDS => k_is)
    (case bm_gcd => k_is)
