import PyProof.Rows.All
import Wide.All
import OpenK.AllK
import Wide.FinOn
import PyProof.EqAt
import PyProof.EqKinds
import PyProof.TupleCall
import PyProof.ReprRoads
import PyProof.ReprLen
import PyProof.StrLawsRepr
import HandS.ForMost
import HandS.Wide
import HandS.WideBits
import HandS.IsInst
import HandS.Gcd
import HandS.Style
import HandS.Evl
import HandS.RaiseMore
import HandS.TupAny
import HandS.TupLe
import HandS.Conv
import HandS.Text
import HandS.Deep
import HandS.TryOnly
import HandS.Dict
import HandS.DictComp
import HandS.Comp
import HandS.Set
import HandS.SetKeys
import KE.SortData
import KE.DataMinMax
import HandS.StrMore
import HandS.Star
import PySem.Challenge.RW_hourrings_k01_names_lines_and_books
set_option Elab.async false
set_option linter.all false
set_option maxRecDepth 100000
set_option maxHeartbeats 4000000
/-! words of bits, added without carries -/
namespace Gf
theorem two_xor (a b : Nat) : 2 * (a ^^^ b) = 2 * a ^^^ 2 * b := by
  have h := Nat.shiftLeft_xor_distrib (a := a) (b := b) (i := 1)
  simpa [Nat.shiftLeft_eq, Nat.mul_comm] using h
/-- the product without carries -/
def mul (a b : Nat) : Nat := if h : b = 0 then 0 else (if b % 2 = 1 then a else 0) ^^^ 2 * mul a (b / 2)
termination_by b
decreasing_by omega
theorem mul_zero (a : Nat) : mul a 0 = 0 := by unfold mul; simp
theorem mul_step (a b : Nat) : mul a b = (if b % 2 = 1 then a else 0) ^^^ 2 * mul a (b / 2) := by
  by_cases h : b = 0
  · subst h; simp [mul_zero]
  · conv => lhs; unfold mul
    simp [h]
theorem zero_mul (b : Nat) : mul 0 b = 0 := by
  induction b using Nat.strongRecOn with
  | _ b ih =>
    by_cases h : b = 0
    · subst h; exact mul_zero 0
    · rw [mul_step, ih (b / 2) (by omega)]; simp
theorem mul_double (a b : Nat) : mul a (2 * b) = 2 * mul a b := by
  rw [mul_step]
  have h1 : (2 * b) % 2 = 0 := by omega
  have h2 : (2 * b) / 2 = b := by omega
  rw [h1, h2]; simp
theorem double_mul (a b : Nat) : mul (2 * a) b = 2 * mul a b := by
  induction b using Nat.strongRecOn with
  | _ b ih =>
    by_cases h : b = 0
    · subst h; simp [mul_zero]
    · rw [mul_step, mul_step a b, ih (b / 2) (by omega), two_xor]
      by_cases e : b % 2 = 1 <;> simp [e]
theorem mul_one (a : Nat) : mul a 1 = a := by
  rw [mul_step]; simp [mul_zero]
theorem one_mul (b : Nat) : mul 1 b = b := by
  induction b using Nat.strongRecOn with
  | _ b ih =>
    by_cases h : b = 0
    · subst h; exact mul_zero 1
    · rw [mul_step, ih (b / 2) (by omega)]
      have e2 : (b % 2) ^^^ 2 * (b / 2) = b := by
        apply Nat.eq_of_testBit_eq
        intro i
        rw [Nat.testBit_xor]
        cases i with
        | zero => 
          simp [Nat.testBit_zero]
        | succ i =>
          have e : Nat.testBit (b % 2) (i + 1) = false := by
            apply Nat.testBit_lt_two_pow
            have : b % 2 < 2 := Nat.mod_lt _ (by decide)
            have : 2 ≤ 2 ^ (i + 1) := by
              rw [Nat.pow_succ]; have := Nat.one_le_two_pow (n := i); omega
            omega
          rw [e, Nat.testBit_succ, Nat.testBit_succ]
          have : 2 * (b / 2) / 2 = b / 2 := by omega
          rw [this]; simp
      rcases Nat.mod_two_eq_zero_or_one b with e | e
      · rw [e] at e2 ⊢; simpa using e2
      · rw [e] at e2 ⊢; simpa using e2
/-- a number is its last bit and twice the rest -/
theorem split2 (b : Nat) : b = (b % 2) ^^^ 2 * (b / 2) := by
  have h := one_mul b
  rw [mul_step, one_mul] at h
  rcases Nat.mod_two_eq_zero_or_one b with e | e
  · rw [e] at h ⊢; simpa using h.symm
  · rw [e] at h ⊢; simpa using h.symm
theorem xor_half (b c : Nat) : (b ^^^ c) / 2 = b / 2 ^^^ c / 2 := by
  have h := Nat.shiftRight_xor_distrib (a := b) (b := c) (i := 1)
  simpa [Nat.shiftRight_eq_div_pow] using h
theorem xor_odd (b c : Nat) : (b ^^^ c) % 2 = (b % 2) ^^^ (c % 2) := by
  have h := Nat.xor_mod_two_pow (a := b) (b := c) (n := 1)
  simpa using h
theorem xor_mul (a a' b : Nat) : mul (a ^^^ a') b = mul a b ^^^ mul a' b := by
  induction b using Nat.strongRecOn with
  | _ b ih =>
    by_cases h : b = 0
    · subst h; simp [mul_zero]
    · rw [mul_step, mul_step a b, mul_step a' b, ih (b / 2) (by omega), two_xor]
      by_cases e : b % 2 = 1
      · simp only [e, if_true]; ac_rfl
      · simp only [e, if_false]; simp
theorem mul_xor (a b c : Nat) : mul a (b ^^^ c) = mul a b ^^^ mul a c := by
  induction b using Nat.strongRecOn generalizing c with
  | _ b ih =>
    by_cases h : b = 0
    · subst h; simp [mul_zero]
    · rw [mul_step, mul_step a b, mul_step a c, xor_half, ih (b / 2) (by omega), two_xor, xor_odd]
      rcases Nat.mod_two_eq_zero_or_one b with e | e <;> rcases Nat.mod_two_eq_zero_or_one c with f | f <;> simp only [e, f]
      · simp
      · simp only [Nat.zero_xor, if_true, show ¬ (0 : Nat) = 1 by decide, if_false]; ac_rfl
      · simp only [Nat.xor_zero, if_true, show ¬ (0 : Nat) = 1 by decide, if_false, Nat.zero_xor]; ac_rfl
      · have z : a ^^^ a = 0 := Nat.xor_self a
        simp only [Nat.xor_self, show ¬ (0 : Nat) = 1 by decide, if_false, if_true, Nat.zero_xor]
        have : a ^^^ 2 * mul a (b / 2) ^^^ (a ^^^ 2 * mul a (c / 2)) = (a ^^^ a) ^^^ (2 * mul a (b / 2) ^^^ 2 * mul a (c / 2)) := by ac_rfl
        rw [this, z]; simp
theorem mul_comm (a b : Nat) : mul a b = mul b a := by
  induction b using Nat.strongRecOn generalizing a with
  | _ b ih =>
    by_cases h : b = 0
    · subst h; rw [mul_zero, zero_mul]
    · rw [mul_step, ih (b / 2) (by omega)]
      conv => rhs; rw [split2 b]
      rw [xor_mul, double_mul]
      rcases Nat.mod_two_eq_zero_or_one b with e | e <;> simp [e, zero_mul, one_mul]
theorem mul_assoc (a b c : Nat) : mul (mul a b) c = mul a (mul b c) := by
  induction c using Nat.strongRecOn with
  | _ c ih =>
    by_cases h : c = 0
    · subst h; simp [mul_zero]
    · rw [mul_step, mul_step b c, mul_xor, mul_double, ih (c / 2) (by omega)]
      by_cases e : c % 2 = 1 <;> simp [e, mul_zero]
/-! ### sizes -/
/-- how many bits a number has -/
def bl (n : Nat) : Nat := if n = 0 then 0 else n.log2 + 1
theorem bl_zero : bl 0 = 0 := rfl
theorem bl_pos {n : Nat} (h : 0 < n) : 0 < bl n := by unfold bl; rw [if_neg (by omega)]; omega
theorem bl_le {n k : Nat} : bl n ≤ k ↔ n < 2 ^ k := by
  unfold bl
  by_cases h : n = 0
  · subst h; simp [Nat.two_pow_pos]
  · rw [if_neg h, Nat.succ_le_iff, Nat.log2_lt h]
theorem lt_bl {n k : Nat} : k < bl n ↔ 2 ^ k ≤ n := by
  have := @bl_le n k; omega
theorem bl_eq {n k : Nat} (h1 : 2 ^ k ≤ n) (h2 : n < 2 ^ (k + 1)) : bl n = k + 1 := by
  have a := lt_bl.mpr h1; have b := bl_le.mpr h2; omega
theorem bl_eq_zero {n : Nat} : bl n = 0 ↔ n = 0 := by
  constructor
  · intro h; have := (bl_le (n := n) (k := 0)).mp (by omega); simpa using this
  · rintro rfl; rfl
theorem top_bit {n k : Nat} (h1 : 2 ^ k ≤ n) (h2 : n < 2 ^ (k + 1)) : n.testBit k = true := by
  have e : n / 2 ^ k = 1 := by
    rw [Nat.pow_succ] at h2
    exact Nat.div_eq_of_lt_le (by omega) (by omega)
  rw [Nat.testBit_eq_decide_div_mod_eq, e]; rfl
theorem xor_lt_top {x y k : Nat} (hx : 2 ^ k ≤ x) (hx2 : x < 2 ^ (k + 1)) (hy : 2 ^ k ≤ y) (hy2 : y < 2 ^ (k + 1)) : x ^^^ y < 2 ^ k := by
  apply Nat.lt_pow_two_of_testBit
  intro i hi
  rw [Nat.testBit_xor]
  by_cases e : i = k
  · subst e; rw [top_bit hx hx2, top_bit hy hy2]; rfl
  · have l : 2 ^ (k + 1) ≤ 2 ^ i := Nat.pow_le_pow_right (by decide) (by omega)
    rw [Nat.testBit_lt_two_pow (Nat.lt_of_lt_of_le hx2 l), Nat.testBit_lt_two_pow (Nat.lt_of_lt_of_le hy2 l)]; rfl
theorem mul_span {i j a b : Nat} (ha : 2 ^ i ≤ a) (ha2 : a < 2 ^ (i + 1)) (hb : 2 ^ j ≤ b) (hb2 : b < 2 ^ (j + 1)) : 2 ^ (i + j) ≤ mul a b ∧ mul a b < 2 ^ (i + j + 1) := by
  induction j generalizing b with
  | zero =>
    have : b = 1 := by simp at hb hb2; omega
    subst this; rw [mul_one]; exact ⟨ha, ha2⟩
  | succ j ih =>
    have p : 2 ^ (j + 1) = 2 * 2 ^ j := by rw [Nat.pow_succ]; omega
    have p2 : 2 ^ (j + 1 + 1) = 2 * 2 ^ (j + 1) := by rw [Nat.pow_succ]; omega
    obtain ⟨l, u⟩ := ih (b := b / 2) (by omega) (by omega)
    rw [mul_step]
    have q : 2 ^ (i + (j + 1)) = 2 * 2 ^ (i + j) := by rw [← Nat.add_assoc, Nat.pow_succ]; omega
    have q2 : 2 ^ (i + (j + 1) + 1) = 2 * 2 ^ (i + j + 1) := by rw [← Nat.add_assoc, Nat.pow_succ]; omega
    have c : (if b % 2 = 1 then a else 0) < 2 ^ (i + (j + 1)) := by
      have : 2 ^ (i + 1) ≤ 2 ^ (i + (j + 1)) := Nat.pow_le_pow_right (by decide) (by omega)
      have := Nat.two_pow_pos (i + (j + 1))
      split <;> omega
    have u2 : 2 * mul a (b / 2) < 2 ^ (i + (j + 1) + 1) := by omega
    constructor
    · apply Nat.ge_two_pow_of_testBit
      rw [Nat.testBit_xor, Nat.testBit_lt_two_pow c, top_bit (by omega) u2]; rfl
    · apply Nat.xor_lt_two_pow _ u2
      have := Nat.pow_le_pow_right (n := 2) (by decide) (show i + (j + 1) ≤ i + (j + 1) + 1 by omega)
      omega
theorem span {n : Nat} (h : 0 < n) : 2 ^ (bl n - 1) ≤ n ∧ n < 2 ^ (bl n - 1 + 1) := by
  have p := bl_pos h
  exact ⟨lt_bl.mp (by omega), bl_le.mp (by omega)⟩
theorem bl_mul {a b : Nat} (ha : 0 < a) (hb : 0 < b) : bl (mul a b) = bl a + bl b - 1 := by
  obtain ⟨a1, a2⟩ := span ha
  obtain ⟨b1, b2⟩ := span hb
  obtain ⟨l, u⟩ := mul_span a1 a2 b1 b2
  have := bl_pos ha; have := bl_pos hb
  rw [bl_eq l u]; omega
theorem mul_pos {a b : Nat} (ha : 0 < a) (hb : 0 < b) : 0 < mul a b := by
  have := bl_mul ha hb; have := bl_pos ha; have := bl_pos hb
  have h : bl (mul a b) ≠ 0 := by omega
  have : mul a b ≠ 0 := fun e => h (bl_eq_zero.mpr e)
  omega
theorem mul_eq_zero {a b : Nat} : mul a b = 0 ↔ a = 0 ∨ b = 0 := by
  constructor
  · intro h
    by_cases ha : a = 0
    · exact .inl ha
    · by_cases hb : b = 0
      · exact .inr hb
      · have := mul_pos (a := a) (b := b) (by omega) (by omega); omega
  · rintro (rfl | rfl)
    · exact zero_mul b
    · exact mul_zero a
theorem xor_eq_zero {a b : Nat} : a ^^^ b = 0 ↔ a = b := by
  constructor
  · intro h
    have : a ^^^ b ^^^ b = 0 ^^^ b := by rw [h]
    rw [Nat.xor_assoc, Nat.xor_self, Nat.xor_zero, Nat.zero_xor] at this
    exact this
  · rintro rfl; exact Nat.xor_self a
theorem mul_cancel {a b c : Nat} (ha : 0 < a) (h : mul a b = mul a c) : b = c := by
  have : mul a (b ^^^ c) = 0 := by rw [mul_xor, h, Nat.xor_self]
  rcases mul_eq_zero.mp this with z | z
  · omega
  · exact xor_eq_zero.mp z
theorem mul_pow (a k : Nat) : mul a (2 ^ k) = a * 2 ^ k := by
  induction k with
  | zero => simp [mul_one]
  | succ k ih => rw [Nat.pow_succ, Nat.mul_comm (2 ^ k) 2, mul_double, ih]; ac_rfl
end Gf
/-! ### division -/
namespace Gf
theorem step_lt {n d : Nat} (hd : 0 < d) (h : bl d ≤ bl n) : n ^^^ d * 2 ^ (bl n - bl d) < 2 ^ (bl n - 1) := by
  have p := bl_pos hd
  have hn : 0 < n := by
    rcases Nat.eq_zero_or_pos n with e | e
    · subst e; rw [bl_zero] at h; omega
    · exact e
  obtain ⟨n1, n2⟩ := span hn
  obtain ⟨d1, d2⟩ := span hd
  have e1 : 2 ^ (bl n - 1) = 2 ^ (bl d - 1) * 2 ^ (bl n - bl d) := by
    rw [← Nat.pow_add]; congr 1; omega
  have e2 : 2 ^ (bl n - 1 + 1) = 2 ^ (bl d - 1 + 1) * 2 ^ (bl n - bl d) := by
    rw [← Nat.pow_add]; congr 1; omega
  refine xor_lt_top n1 n2 ?_ ?_
  · rw [e1]; exact Nat.mul_le_mul_right _ d1
  · rw [e2]; exact Nat.mul_lt_mul_of_pos_right d2 (Nat.two_pow_pos _)
theorem step_less {n d : Nat} (hd : 0 < d) (h : bl d ≤ bl n) : n ^^^ d * 2 ^ (bl n - bl d) < n := by
  have p := bl_pos hd
  have := step_lt hd h
  have := lt_bl.mp (show bl n - 1 < bl n by omega)
  omega
/-- the rest by d -/
def rem (n d : Nat) : Nat := if h : 0 < d ∧ bl d ≤ bl n then rem (n ^^^ d * 2 ^ (bl n - bl d)) d else n
termination_by n
decreasing_by exact step_less h.1 h.2
def quo (n d : Nat) : Nat := if h : 0 < d ∧ bl d ≤ bl n then 2 ^ (bl n - bl d) ^^^ quo (n ^^^ d * 2 ^ (bl n - bl d)) d else 0
termination_by n
decreasing_by exact step_less h.1 h.2
theorem rem_go {n d : Nat} (hd : 0 < d) (h : bl d ≤ bl n) : rem n d = rem (n ^^^ d * 2 ^ (bl n - bl d)) d := by
  conv => lhs; unfold rem
  rw [dif_pos ⟨hd, h⟩]
theorem rem_end {n d : Nat} (h : bl n < bl d) : rem n d = n := by
  unfold rem; rw [dif_neg (by omega)]
theorem rem_zero (n : Nat) : rem n 0 = n := by
  unfold rem; rw [dif_neg (by omega)]
theorem quo_go {n d : Nat} (hd : 0 < d) (h : bl d ≤ bl n) : quo n d = 2 ^ (bl n - bl d) ^^^ quo (n ^^^ d * 2 ^ (bl n - bl d)) d := by
  conv => lhs; unfold quo
  rw [dif_pos ⟨hd, h⟩]
theorem quo_end {n d : Nat} (h : bl n < bl d) : quo n d = 0 := by
  unfold quo; rw [dif_neg (by omega)]
theorem rem_spec {n d : Nat} (hd : 0 < d) : bl (rem n d) < bl d ∧ n = mul d (quo n d) ^^^ rem n d := by
  induction n using Nat.strongRecOn with
  | _ n ih =>
    by_cases h : bl d ≤ bl n
    · obtain ⟨a, b⟩ := ih _ (step_less hd h)
      rw [rem_go hd h, quo_go hd h, mul_xor, mul_pow]
      refine ⟨a, ?_⟩
      have e : d * 2 ^ (bl n - bl d) ^^^ mul d (quo (n ^^^ d * 2 ^ (bl n - bl d)) d) ^^^ rem (n ^^^ d * 2 ^ (bl n - bl d)) d = d * 2 ^ (bl n - bl d) ^^^ (mul d (quo (n ^^^ d * 2 ^ (bl n - bl d)) d) ^^^ rem (n ^^^ d * 2 ^ (bl n - bl d)) d) := by ac_rfl
      rw [e, ← b]
      have e3 : d * 2 ^ (bl n - bl d) ^^^ (n ^^^ d * 2 ^ (bl n - bl d)) = n ^^^ (d * 2 ^ (bl n - bl d) ^^^ d * 2 ^ (bl n - bl d)) := by ac_rfl
      rw [e3, Nat.xor_self, Nat.xor_zero]
    · rw [rem_end (by omega), quo_end (by omega), mul_zero, Nat.zero_xor]
      exact ⟨by omega, rfl⟩
theorem bl_xor_lt {a b k : Nat} (ha : bl a < k) (hb : bl b < k) : bl (a ^^^ b) < k := by
  obtain ⟨j, rfl⟩ : ∃ j, k = j + 1 := ⟨k - 1, by omega⟩
  have := Nat.xor_lt_two_pow (bl_le.mp (Nat.le_of_lt_succ ha)) (bl_le.mp (Nat.le_of_lt_succ hb))
  have := bl_le.mpr this; omega
theorem div_one {d q r q' r' : Nat} (hd : 0 < d) (hr : bl r < bl d) (hr' : bl r' < bl d) (h : mul d q ^^^ r = mul d q' ^^^ r') : q = q' ∧ r = r' := by
  have e : mul d (q ^^^ q') = r ^^^ r' := by
    rw [mul_xor]
    have : mul d q = mul d q' ^^^ r' ^^^ r := by
      rw [← h]; rw [Nat.xor_assoc, Nat.xor_self, Nat.xor_zero]
    rw [this]
    have e3 : mul d q' ^^^ r' ^^^ r ^^^ mul d q' = (mul d q' ^^^ mul d q') ^^^ (r ^^^ r') := by ac_rfl
    rw [e3, Nat.xor_self, Nat.zero_xor]
  have l := bl_xor_lt hr hr'
  by_cases z : q ^^^ q' = 0
  · rw [z, mul_zero] at e
    exact ⟨xor_eq_zero.mp z, xor_eq_zero.mp e.symm⟩
  · have := bl_mul hd (b := q ^^^ q') (by omega)
    have := bl_pos (n := q ^^^ q') (by omega)
    rw [e] at *
    omega
/-- d has n as a multiple -/
def Dv (d n : Nat) : Prop := ∃ q, n = mul d q
theorem dv_rem {n d : Nat} : rem n d = 0 ↔ Dv d n := by
  rcases Nat.eq_zero_or_pos d with e | hd
  · subst e
    rw [rem_zero]
    constructor
    · rintro rfl; exact ⟨0, by rw [mul_zero]⟩
    · rintro ⟨q, rfl⟩; exact zero_mul q
  · obtain ⟨a, b⟩ := rem_spec (n := n) hd
    constructor
    · intro h; rw [h, Nat.xor_zero] at b; exact ⟨_, b⟩
    · rintro ⟨q, hq⟩
      have p := bl_pos hd
      exact (div_one (q := q) (r := 0) (q' := quo n d) hd (by rw [bl_zero]; omega) a (by rw [Nat.xor_zero]; exact hq.symm.trans b)).2.symm
theorem quo_mul {d q : Nat} (hd : 0 < d) : quo (mul d q) d = q ∧ rem (mul d q) d = 0 := by
  obtain ⟨a, b⟩ := rem_spec (n := mul d q) hd
  have p := bl_pos hd
  have := div_one (q := q) (r := 0) (q' := quo (mul d q) d) hd (by rw [bl_zero]; omega) a (by rw [Nat.xor_zero]; exact b)
  exact ⟨this.1.symm, this.2.symm⟩
theorem Dv.refl (a : Nat) : Dv a a := ⟨1, (mul_one a).symm⟩
theorem Dv.zero (a : Nat) : Dv a 0 := ⟨0, (mul_zero a).symm⟩
theorem Dv.one (a : Nat) : Dv 1 a := ⟨a, (one_mul a).symm⟩
theorem Dv.trans {a b c : Nat} : Dv a b → Dv b c → Dv a c := by
  rintro ⟨q, rfl⟩ ⟨p, rfl⟩; exact ⟨mul q p, by rw [mul_assoc]⟩
theorem Dv.mul_right {a b : Nat} (c : Nat) : Dv a b → Dv a (mul b c) := by
  rintro ⟨q, rfl⟩; exact ⟨mul q c, by rw [mul_assoc]⟩
theorem Dv.xor {a b c : Nat} : Dv a b → Dv a c → Dv a (b ^^^ c) := by
  rintro ⟨q, rfl⟩ ⟨p, rfl⟩; exact ⟨q ^^^ p, by rw [mul_xor]⟩
theorem Dv.le {a b : Nat} (hb : 0 < b) : Dv a b → bl a ≤ bl b := by
  rintro ⟨q, rfl⟩
  have ha : 0 < a := by
    rcases Nat.eq_zero_or_pos a with e | e
    · subst e; rw [zero_mul] at hb; omega
    · exact e
  have hq : 0 < q := by
    rcases Nat.eq_zero_or_pos q with e | e
    · subst e; rw [mul_zero] at hb; omega
    · exact e
  have := bl_mul ha hq; have := bl_pos hq; omega
theorem Dv.antisymm {a b : Nat} : Dv a b → Dv b a → a = b := by
  rintro ⟨q, rfl⟩ ⟨p, hp⟩
  rcases Nat.eq_zero_or_pos a with e | ha
  · subst e; rw [zero_mul]
  · rw [mul_assoc] at hp
    have e1 : mul q p = 1 := mul_cancel ha (by rw [mul_one]; exact hp.symm)
    have hq : 0 < q := by
      rcases Nat.eq_zero_or_pos q with e | e
      · subst e; rw [zero_mul] at e1; omega
      · exact e
    have hp' : 0 < p := by
      rcases Nat.eq_zero_or_pos p with e | e
      · subst e; rw [mul_zero] at e1; omega
      · exact e
    have s := bl_mul hq hp'
    rw [e1] at s
    have b1 : bl 1 = 1 := by decide
    have := bl_pos hq; have := bl_pos hp'
    have : bl q ≤ 1 := by omega
    have := bl_le.mp this
    have : q = 1 := by omega
    rw [this, mul_one]
theorem dv_zero {a : Nat} : Dv 0 a → a = 0 := by rintro ⟨q, rfl⟩; exact zero_mul q
/-- Euclid -/
theorem rem_less {a b : Nat} (hb : 0 < b) : rem a b < b := by
  have := (rem_spec (n := a) hb).1
  have p := bl_pos hb
  have h1 := lt_bl.mp (show bl b - 1 < bl b by omega)
  have h2 := bl_le.mp (show bl (rem a b) ≤ bl b - 1 by omega)
  omega
def gcd (a b : Nat) : Nat := if h : 0 < b then gcd b (rem a b) else a
termination_by b
decreasing_by exact rem_less h
theorem gcd_zero (a : Nat) : gcd a 0 = a := by unfold gcd; simp
theorem gcd_step {a b : Nat} (h : 0 < b) : gcd a b = gcd b (rem a b) := by
  conv => lhs; unfold gcd
  rw [dif_pos h]
theorem gcd_dv (a b : Nat) : Dv (gcd a b) a ∧ Dv (gcd a b) b := by
  induction b using Nat.strongRecOn generalizing a with
  | _ b ih =>
    rcases Nat.eq_zero_or_pos b with e | hb
    · subst e; rw [gcd_zero]; exact ⟨.refl a, .zero a⟩
    · rw [gcd_step hb]
      obtain ⟨h1, h2⟩ := ih _ (rem_less (a := a) hb) b
      refine ⟨?_, h1⟩
      have e := (rem_spec (n := a) hb).2
      have := (h1.mul_right (quo a b)).xor h2
      rwa [← e] at this
theorem gcd_bez (a b : Nat) : ∃ x y, gcd a b = mul a x ^^^ mul b y := by
  induction b using Nat.strongRecOn generalizing a with
  | _ b ih =>
    rcases Nat.eq_zero_or_pos b with e | hb
    · subst e; exact ⟨1, 0, by rw [gcd_zero, mul_one, mul_zero, Nat.xor_zero]⟩
    · obtain ⟨x, y, h⟩ := ih _ (rem_less (a := a) hb) b
      have e := (rem_spec (n := a) hb).2
      have er : rem a b = a ^^^ mul b (quo a b) := by
        conv => rhs; rw [e]
        have : mul b (quo a b) ^^^ rem a b ^^^ mul b (quo a b) = (mul b (quo a b) ^^^ mul b (quo a b)) ^^^ rem a b := by ac_rfl
        rw [← e] at this ⊢
        rw [this, Nat.xor_self, Nat.zero_xor]
      refine ⟨y, x ^^^ mul (quo a b) y, ?_⟩
      rw [gcd_step hb, h, mul_xor, ← mul_assoc]
      conv => lhs; rw [er]
      rw [xor_mul]
      ac_rfl
theorem dv_gcd {c a b : Nat} (h1 : Dv c a) (h2 : Dv c b) : Dv c (gcd a b) := by
  obtain ⟨x, y, e⟩ := gcd_bez a b
  rw [e]; exact (h1.mul_right x).xor (h2.mul_right y)
theorem gcd_mul (m a b : Nat) : gcd (mul m a) (mul m b) = mul m (gcd a b) := by
  apply Dv.antisymm
  · obtain ⟨x, y, e⟩ := gcd_bez a b
    rw [e, mul_xor, ← mul_assoc, ← mul_assoc]
    obtain ⟨h1, h2⟩ := gcd_dv (mul m a) (mul m b)
    exact (h1.mul_right x).xor (h2.mul_right y)
  · obtain ⟨⟨p, hp⟩, ⟨q, hq⟩⟩ := gcd_dv a b
    exact dv_gcd ⟨p, by rw [mul_assoc, ← hp]⟩ ⟨q, by rw [mul_assoc, ← hq]⟩
theorem gcd_comm (a b : Nat) : gcd a b = gcd b a :=
  Dv.antisymm (dv_gcd (gcd_dv a b).2 (gcd_dv a b).1) (dv_gcd (gcd_dv b a).2 (gcd_dv b a).1)
theorem gcd_eq_zero {a b : Nat} : gcd a b = 0 ↔ a = 0 ∧ b = 0 := by
  constructor
  · intro h
    obtain ⟨h1, h2⟩ := gcd_dv a b
    rw [h] at h1 h2; exact ⟨dv_zero h1, dv_zero h2⟩
  · rintro ⟨rfl, rfl⟩; exact gcd_zero 0
end Gf
namespace Gf
theorem bl_double (a : Nat) : bl (2 * a) ≤ bl a + 1 := by
  rw [bl_le, Nat.pow_succ]
  have := bl_le.mp (Nat.le_refl (bl a)); omega
theorem bl_half {b : Nat} (h : 0 < b) : bl (b / 2) + 1 = bl b := by
  obtain ⟨l, u⟩ := span h
  have p := bl_pos h
  have e : 2 ^ (bl b - 1 + 1) = 2 * 2 ^ (bl b - 1) := by rw [Nat.pow_succ]; omega
  rcases Nat.eq_zero_or_pos (bl b - 1) with z | z
  · rw [z] at l u
    have : b = 1 := by simp at l u; omega
    subst this; decide
  · have e2 : 2 ^ (bl b - 1) = 2 * 2 ^ (bl b - 1 - 1) := by
      have : 2 ^ (bl b - 1 - 1 + 1) = 2 * 2 ^ (bl b - 1 - 1) := by rw [Nat.pow_succ]; omega
      rw [← this]; congr 1; omega
    have := bl_eq (n := b / 2) (k := bl b - 1 - 1) (by omega) (by rw [show bl b - 1 - 1 + 1 = bl b - 1 by omega]; omega)
    omega
theorem mul_odd {a b : Nat} (h : b % 2 = 1) : mul a b = a ^^^ mul (2 * a) (b / 2) := by rw [mul_step, if_pos h, double_mul]
theorem mul_even {a b : Nat} (h : ¬ b % 2 = 1) : mul a b = mul (2 * a) (b / 2) := by rw [mul_step, if_neg h, double_mul, Nat.zero_xor]
theorem bl_mul_le (a b : Nat) : bl (mul a b) ≤ bl a + bl b := by
  rcases Nat.eq_zero_or_pos a with e | ha
  · subst e; rw [zero_mul, bl_zero]; omega
  · rcases Nat.eq_zero_or_pos b with e | hb
    · subst e; rw [mul_zero, bl_zero]; omega
    · rw [bl_mul ha hb]; omega
theorem bl_xor (a b : Nat) {k : Nat} (ha : bl a ≤ k) (hb : bl b ≤ k) : bl (a ^^^ b) ≤ k := by
  have := bl_xor_lt (a := a) (b := b) (k := k + 1) (by omega) (by omega); omega
theorem bl_shl (a k : Nat) : bl (a * 2 ^ k) ≤ bl a + k := by
  rw [bl_le, Nat.pow_add]
  exact Nat.mul_lt_mul_of_pos_right (bl_le.mp (Nat.le_refl _)) (Nat.two_pow_pos _)
end Gf
namespace Hr
open PySem PySem.Spec PyProof.Rows L2
/-! ### defs whose run is promised where no text of an object is being written -/
/-- nothing is being shown, and there is room -/
structure Rm (k : Nat) (A : Around) : Prop where
  room : Room k A
  quiet : A.guards = some []
theorem Rm.mono {j k : Nat} {A : Around} (r : Rm k A) (h : j ≤ k) : Rm j A := ⟨r.room.mono h, r.quiet⟩
theorem Rm.deeper {k : Nat} {A : Around} (r : Rm (k + 1) A) (e : Env) : Rm k (A.deeper e) := ⟨r.room.deeper e, r.quiet⟩
structure Fq (P : Program) (w : World) (K : PySem.W.Frag) (mg : Str → Option Value) (base : Heap) (CX : CXT) (k : Nat) (f : Addr) (fd : FuncData) (ps : List Str) (sp : Sp) : Prop where
  len : ∀ vs H Q E, sp vs H Q E → vs.length = ps.length
  go : ∀ (A : Around) (out : List Env) (s : Shared) (H : Hp) (args : Args) (us : List Value) (vs : List V) (Q : VK) (E : XK),
    Rm k A → Env0 P w K mg base A out s H → BindsTo s fd args (ps.zip us) → Vals vs us → sp vs H Q E →
    codeAny (model P w) A (.call (.ref f) args) (CR CX out P w H s Q E) s
section
variable {P : Program} {w : World} {K : PySem.W.Frag} {mg : Str → Option Value} {base : Heap} {CX : CXT} {f : Addr} {fd : FuncData} {ps : List Str} {sp sp' : Sp} {j k : Nat}
theorem Fq.mono (F : Fq P w K mg base CX j f fd ps sp) (h : j ≤ k) : Fq P w K mg base CX k f fd ps sp :=
  { len := F.len, go := fun A out s H args us vs Q E r => F.go A out s H args us vs Q E (r.mono h) }
theorem Fq.imp (F : Fq P w K mg base CX k f fd ps sp) (h : ∀ vs H Q E, sp' vs H Q E → sp vs H Q E) : Fq P w K mg base CX k f fd ps sp' :=
  { len := fun vs H Q E q => F.len vs H Q E (h _ _ _ _ q)
    go := fun A out s H args us vs Q E r e b v q => F.go A out s H args us vs Q E r e b v (h _ _ _ _ q) }
end
section
variable {X : Cx} {CX : CXT} {k : Nat} {f : Addr} {fd : FuncData} {ps ks : List Str} {sp : Sp} {dvs : List V} {ds : List Value} {E : XK} {x : Str} {p pos : Pos} {e : Expr} {es : List Expr} {ta : TA} {kws : List Keyword} {tk : TA}
theorem end_of {pins : List (Addr × Obj)} {σ : L2.St} {H : Hp} {s : Shared} {Q : VK} (hx : Passes CX X E) (I : Inv X pins σ H s) :
    ∀ (r : Result) (s' : Shared), CR CX X.stack X.prog X.w H s Q E r s' → wants (EP X pins σ Q) X.xe r s' := by
  intro r s' hq
  cases r with
  | error z => exact hx pins σ H s z s' I hq
  | ok fl => cases fl <;> first | exact I.after hq | exact hq.elim
theorem fq_run {pins : List (Addr × Obj)} {σ : L2.St} {H : Hp} {s : Shared} {Q : VK} {us : List Value} {vs : List V} (F : Fq X.prog X.w X.K X.mg X.base CX k f fd ps sp)
    (hr : Rm k X.A) (hb : Binds X.K fd ps ds) (hd : Vals dvs ds) (hx : Passes CX X E) (I : Inv X pins σ H s) (r : Vals vs us) (h : sp (vs ++ dvs) H Q E) :
    wpAny (model X.prog X.w) X.A (call (.ref f) us) (EP X pins σ Q) X.xe s := by
  have rr := r.append hd
  have hl : (us ++ ds).length = ps.length := rr.length.symm.trans (F.len _ _ _ _ h)
  exact wpAny_call (codeAny_mono (F.go X.A X.stack s H _ _ _ Q E hr I.env0 (hb s us I.kIn hl) rr h) (end_of hx I))
theorem pe_q (F : Fq X.prog X.w X.K X.mg X.base CX k f fd ps sp) (hr : Rm k X.A) (hg : Gl X x) (hm : X.mg x = some (.ref f)) (hk : PySem.W.keepIn X.K (.ref f) = true)
    (hb : Binds X.K fd ps ds) (hd : Vals dvs ds) (hx : Passes CX X E) (ha : PA X (e :: es) ta) (hdb : (x == ("__debug__" : Str)) = false := by decide)
    (he : starEach (e :: es) X.env = (false, eval e X.env) :: starEach es X.env := by rfl) (hpl : (backTo pos (starEach es X.env)).any (·.1) = false := by rfl) :
    PE X (.Call (.Name x p) (e :: es) [] pos) (tCall sp dvs E ta) :=
  ⟨fun pins s σ H Q I h => wpAny_Call_Name_kw (ld_glob I hg hm (PySem.W.callWith_K (h₀ := X.base) I.ok.mod.kin hk
    (thn (ha.run pos pins s σ H _ I h) fun _ _ ⟨_, _, I1, r, q⟩ => ⟨I1.kIn, fq_run F hr hb hd hx I1 r q⟩) he hpl) hdb)⟩
theorem pe_q0 (F : Fq X.prog X.w X.K X.mg X.base CX k f fd ps sp) (hr : Rm k X.A) (hg : Gl X x) (hm : X.mg x = some (.ref f)) (hk : PySem.W.keepIn X.K (.ref f) = true)
    (hb : Binds X.K fd ps ds) (hd : Vals dvs ds) (hx : Passes CX X E) (hdb : (x == ("__debug__" : Str)) = false := by decide) :
    PE X (.Call (.Name x p) [] [] pos) (tCall sp dvs E tNil) :=
  ⟨fun pins s σ H Q I h => wpAny_Call_Name_kw (ld_glob I hg hm (PySem.W.callWith_K0 I.kIn hk (fq_run (us := []) F hr hb hd hx I .nil h)) hdb)⟩
end
/-! ### repr of plain data -/
mutual
def neat : PyData → Bool
  | .none => true
  | .bool _ => true
  | .int i => decide (i.natAbs.log2 < 1920)
  | .str x => x.cps.toList.all fun c => decide (c < 16 ^ 8)
  | .list xs => neats xs
  | .tuple xs => neats xs
  | .dict _ => false
def neats : List PyData → Bool
  | [] => true
  | x :: xs => neat x && neats xs
end
mutual
def cost : PyData → Nat
  | .none => 5
  | .bool _ => 5
  | .int _ => 1921
  | .str x => 10 * x.length + 2
  | .list xs => costs xs + 3
  | .tuple xs => costs xs + 3
  | .dict _ => 0
def costs : List PyData → Nat
  | [] => 0
  | x :: xs => cost x + 2 + costs xs
end
theorem sums_eq : ∀ xs : List PyData, PyData.shownAll xs = xs.map PyData.shown
  | [] => rfl
  | x :: xs => by rw [PyData.shownAll, sums_eq xs]; rfl
mutual
theorem neat_ok : ∀ d : PyData, neat d = true → d.showable = true ∧ d.hasDict = false ∧ d.shown.length ≤ cost d
  | .none, _ => ⟨rfl, rfl, by decide +kernel⟩
  | .bool b, _ => ⟨rfl, rfl, by cases b <;> decide +kernel⟩
  | .int i, h => by
    have h' : i.natAbs.log2 < 1920 := of_decide_eq_true h
    exact ⟨decide_eq_true h', rfl, PyProof.Rows.int_text_len_1921 h'⟩
  | .str x, h => by
    refine ⟨rfl, rfl, ?_⟩
    have h' : (x.cps.toList.all fun c => decide (c < 16 ^ 8)) = true := h
    exact StrLaws.reprText_len x fun c hc => of_decide_eq_true (List.all_eq_true.mp h' c hc)
  | .list xs, h => by
    obtain ⟨a, b, c⟩ := neats_ok xs h
    refine ⟨a, b, ?_⟩
    have l := listText_len_le (PyData.shownAll xs)
    show (listText (PyData.shownAll xs)).length ≤ costs xs + 3
    omega
  | .tuple xs, h => by
    obtain ⟨a, b, c⟩ := neats_ok xs h
    refine ⟨a, b, ?_⟩
    have l := tupleText_len_le (PyData.shownAll xs)
    show (tupleText (PyData.shownAll xs)).length ≤ costs xs + 3
    omega
  | .dict _, h => by cases h
theorem neats_ok : ∀ xs : List PyData, neats xs = true → PyData.showableAll xs = true ∧ PyData.hasDictAll xs = false ∧ ((PyData.shownAll xs).map (·.length)).sum + 2 * (PyData.shownAll xs).length ≤ costs xs
  | [], _ => ⟨rfl, rfl, Nat.le_refl _⟩
  | x :: xs, h => by
    have h' : (neat x && neats xs) = true := h
    rw [Bool.and_eq_true] at h'
    obtain ⟨a, b, c⟩ := neat_ok x h'.1
    obtain ⟨a2, b2, c2⟩ := neats_ok xs h'.2
    refine ⟨by rw [PyData.showableAll, a, a2]; rfl, by rw [PyData.hasDictAll, b, b2]; rfl, ?_⟩
    rw [PyData.shownAll, List.map_cons, List.sum_cons, List.length_cons, costs]
    omega
end
theorem repr_any {u : Value} {d : PyData} {as : List Addr} {A : Around} {E : Value → Shared → Prop} {s : Shared} {Q : Value → Shared → Prop} {P : Program} {w : World} (r : Reads s.heap u d as)
    (hn : neat d = true) (hc : cost d ≤ 10000000) (h4 : d.depth ≤ 50) (hg : A.guards = some []) (hu : A.units + 64 < cLine)
    (hQ : ∀ h' v tk, (∀ b o, s.heap.get? b = some o → h'.get? b = some o) → Q (.str d.shown v) { s with heap := h', toks := tk }) :
    wpAny (model P w) A (call (.builtin "repr") [u]) Q E s := by
  obtain ⟨h1, h2, h3⟩ := neat_ok d hn
  have h5 : d.shown.length ≤ sizeLine := by rw [sizeLine_eq]; omega
  cases u with
  | ref a => exact repr_of_reads' r h1 (fun h => by rw [h2] at h; cases h) hg (by omega) (fun _ _ e => e) hQ h5
  | none => cases r; exact PySem.P.repr_of_none (hQ _ _ _ fun _ _ e => e)
  | bool b => cases r; exact PySem.P.repr_of_bool (hQ _ _ _ fun _ _ e => e)
  | int i t => cases r; exact PySem.P.repr_of_int (of_decide_eq_true h1) (hQ _ _ _ fun _ _ e => e)
  | str x t => cases r; exact PySem.P.repr_of_str (hQ _ _ _ fun _ _ e => e) h5
  | _ => cases r
section
variable {X : Cx}
def rRepr (K : PySem.W.Frag) : List V → Hp → VK → Prop := fun xs H Q => ∃ (x : V) (d : PyData), xs = [x] ∧ Dp K H x d ∧ neat d = true ∧ cost d ≤ 10000000 ∧ d.depth ≤ 50 ∧ Q (.str d.shown) H
theorem cr_repr {k : Nat} (hr : Rm k X.A) : CallR X (.builtin "repr") (rRepr X.K) := by
  intro pins s σ H xs us Q I r h
  obtain ⟨x, d, rfl, hd, h1, h2, h3, q⟩ := h
  obtain ⟨u, rfl, rv⟩ := vals1 r
  obtain ⟨as, rd⟩ := Dp.reads I d x u hd rv
  exact repr_any rd h1 h2 h3 hr.quiet hr.room.units fun h' v tk k => ⟨.str d.shown, H, I.kept (t' := tk) k, ⟨v, rfl⟩, q⟩
end
/-! ### a def by its body -/
section
variable {P : Program} {w : World} {K : PySem.W.Frag} {mg : Str → Option Value} {base : Heap} {CX : CXT} {k : Nat} {f : Addr} {N ps : List Str} {sp : Sp}
theorem fq_of {name qual : Str} {params : Arguments} {body : List Stmt} {scope : Scope} {dV kV doc pm cdv ct oc : Value} {an od : Option Addr} {osl : Array (Option Value)}
    (lk : K.lookup f = some ⟨oc, od, .func (PySem.W.fnOf name qual params body scope dV kV doc pm an cdv ct), osl⟩) (hcd : PySem.W.codeIn K cdv qual = true) (S : FnScope N ps scope)
    (len : ∀ vs H Q E, sp vs H Q E → vs.length = ps.length)
    (hbody : ∀ (A : Around) (out : List Env) (s : Shared) (H : Hp) (vs : List V) (Q : VK) (E : XK), Rm k (A.deeper (envOfC qual scope s.heap.objs.size f cdv)) → sp vs H Q E →
      ∃ t, PSs (cxOf CX P w K mg base N qual scope f cdv A out s H E) body t ∧ t { nx := fun _ H' => Q .non H', rt := Q } (start N vs) H) :
    Fq P w K mg base CX (k + 1) f (PySem.W.fnOf name qual params body scope dV kV doc pm an cdv ct) ps sp := by
  constructor
  · exact len
  intro A out s H args us vs Q E hr e0 hb r hsp
  have old : ∀ b o, base.get? b = some o → s.heap.get? b = some o := fun b o e => (e0.bs b o e).1
  have KX := e0.mod.kin.keeps old
  have par : ∀ y ∈ ps.zip us, scope.names.lookup y.1 = some .local ∨ (scope.names.lookup y.1 = some .cell ∧ ((cellsFrom (s.heap.objs.size + 1) scope.names []).lookup y.1).isSome = true) := by
    intro y hy
    exact (S.par y.1 (List.of_mem_zip hy).1).imp id fun q => ⟨q, PySem.W.cellsFrom_some _ _ _ (.inl q)⟩
  refine codeAny_call_function hr.room.depth (KX _ _ lk) rfl S.co S.gen rfl (PySem.W.codeRec_of KX hcd) (hb _ _ _ _ ?_)
  refine wpAny_newFunctionEnv_cells S.kind par fun env he s1 x => ?_
  subst he
  refine ⟨(e0.mod.nolimit.keeps old).keeps x.toInCall.keep, codeAny_func ?_⟩
  obtain ⟨t, ht, hq⟩ := hbody A out s H vs Q E (hr.deeper _) hsp
  have I := inv_start (CX := CX) (E := E) S hr.room.hd e0 (len _ _ _ _ hsp) r x
  refine wpAny_mono (ht.run [] s1 (start N vs) H _ I hq) (fun fl s' hs => ?_) fun _ _ hs => hs
  cases fl
  case ret u =>
    obtain ⟨v, σ', H', J, rv, q⟩ := hs
    exact ⟨v, H', J.os, J.bare, J.base, J.hok, rv, q⟩
  case next =>
    obtain ⟨σ', H', J, q⟩ := hs
    exact ⟨V.non, H', J.os, J.bare, J.base, J.hok, rfl, q⟩
  case brk => obtain ⟨_, _, _, q⟩ := hs; exact q.elim
  case cont => obtain ⟨_, _, _, q⟩ := hs; exact q.elim
/-- a def of the text -/
theorem okq {x qual : Str} {st : Stmt} {fd : FuncData} (F : Fun K x qual st f fd) (S : FnScope N ps (defScope st)) (len : ∀ vs H Q E, sp vs H Q E → vs.length = ps.length)
    (hbody : ∀ (cdv : Value) (A : Around) (out : List Env) (s : Shared) (H : Hp) (vs : List V) (Q : VK) (E : XK), Rm k (A.deeper (envOfC qual (defScope st) s.heap.objs.size f cdv)) → sp vs H Q E →
      ∃ t, PSs (cxOf CX0 P w K mg base N qual (defScope st) f cdv A out s H E).nox (defBody st) t ∧ t { nx := fun _ H' => Q .non H', rt := Q } (start N vs) H) :
    Fq P w K mg base CX0 (k + 1) f fd ps sp := by
  obtain ⟨oc, od, kV, doc, pm, an, cdv, ct, osl, rfl, lk, hcd⟩ := F.ex
  refine fq_of lk hcd S len fun A out s H vs Q E hr h => ?_
  obtain ⟨t, a, b⟩ := hbody cdv A out s H vs Q E hr h
  exact ⟨t, a.nox, b⟩
end
/-! ### the law's own call -/
theorem vals_of_ints {vs : List Value} {ns : List Int} (h : IntsAre vs ns) : Vals (ns.map V.int) vs := by
  induction h with
  | nil => exact .nil
  | cons n t _ ih => exact .cons ⟨t, rfl⟩ ih
section
variable {P : Program} {w : World} {K : PySem.W.Frag} {mg mb : Str → Option Value} {k : Nat} {fa a : Addr} {fd : FuncData} {x : Str} {sp : Sp} {s₁ : Shared} {vs : List Value} {ns : List Int}
/-- the heap that knows at most the script -/
theorem call_from {H : Hp} (KX : K.In s₁.heap) (hns : s₁.heap.Ns mainGlobals mg) (hb : s₁.heap.Ns builtinsNs mb) (hbb : ∀ y : Str, y ≠ "__name__" → mb y = bootBuiltins y) (hlim : s₁.heap.NoLimit)
    (hg : s₁.gens = #[]) (ha : s₁.heap.get? a = some { cls := .type "list", data := .seq vs.toArray }) (hr : Rm k callerA)
    (F : ∀ base : Heap, K.In base → base.Ns mainGlobals mg → Fq P w K mg base CX0 k fa fd [x] sp) (hbind : ∀ (s : Shared) (u : Value), BindsTo s fd ⟨[u], []⟩ [(x, u)])
    (hsp : sp [.ref a] H (fun v _ => v = .bl true) fun _ _ _ => False)
    (hO : Only H) (hok : HOk P w H s₁.heap) (hA : ∀ b u, H b = some u → b = a) (hK : ∀ u, H a = some u → K.lookup a = none) :
    codeAny (model P w) callerA (.call (.ref fa) ⟨[.ref a], []⟩) (fun r s' => r = .ok (.ret (.bool true)) ∧ OldK s₁.heap s'.heap ∧ s'.os = s₁.os ∧ AllBare s'.gens) s₁ := by
  have free : ∀ {b : Addr} {o : Obj} {es : Array DictEntry} {ep : Nat}, s₁.heap.get? b = some o → o.data = .dict es ep → H b = none := by
    intro b o es ep e d
    cases q : H b
    case none => rfl
    case some u =>
      cases hA b u q
      cases ha.symm.trans e
      cases (show Data.seq vs.toArray _ = Data.dict es ep from d)
  have ns' : ∀ {b : Addr} {m : Str → Option Value}, s₁.heap.Ns b m → (hidT s₁.heap H).Ns b m := by
    rintro b m ⟨o, es, ep, e, d, r⟩
    exact ⟨o, es, ep, hidT_get e (free e d), d, r⟩
  have KB : K.In (hidT s₁.heap H) := by
    intro b o e
    refine hidT_get (KX b o e) ?_
    cases q : H b
    case none => rfl
    case some u =>
      cases hA b u q
      have z := hK u q
      rw [e] at z; cases z
  have M : Mod K mg (hidT s₁.heap H) := by
    obtain ⟨mc, h1, h2⟩ := hlim
    exact ⟨KB, ns' hns, ⟨mb, ns' hb, hbb⟩, ⟨mc, ns' h1, h2⟩⟩
  have e0 : Env0 P w K mg (hidT s₁.heap H) callerA [] s₁ H := {
    frames := rfl
    mod := M
    bs := fun b o e => of_hidT e
    bsz := Nat.le_of_eq (hidT_size _ _)
    funs := trivial
    frf := fun b hb => by cases (show b ∈ ([] : List Addr) from hb)
    hok := hok
    bare := .of_eq hg }
  refine codeAny_mono ((F _ KB (ns' hns)).go callerA [] s₁ H ⟨[.ref a], []⟩ [.ref a] [.ref a] _ _ hr e0 (hbind s₁ (.ref a)) (.cons rfl .nil) hsp) ?_
  rintro (e | fl) s' h
  · exact h.elim
  cases fl
  case next => exact h.elim
  case brk => exact h.elim
  case cont => exact h.elim
  case ret u =>
    obtain ⟨v, H', os, bare, un, hok', r', q⟩ := h
    cases (show v = .bl true from q)
    cases (show u = Value.bool true from r')
    refine ⟨rfl, OldK.of_keep fun b o e => ?_, os, bare⟩
    cases q : H b
    case none => exact un.keep b o e q (by intro z; cases (show b ∈ ([] : List Addr) from z)) (by simp)
    case some u =>
      rcases hO b with z | ⟨ob, xs, z⟩
      · rw [q] at z; cases z
      · obtain ⟨e1, _⟩ := hok b _ z
        obtain ⟨e2, _⟩ := hok' b _ (un.frzs b ob _ z)
        cases e.symm.trans e1
        exact e2
end
/-- from the law's promise to the row -/
theorem rowq {l : PySem.W.OpenLaw} {n k : Nat} {q : Program} {loose : List Str} {XP : (Str → Option Value) → Heap → Prop} {YP : World → Heap → Prop} {d : DefRec} {K : Params → PySem.W.Frag} {sp : PySem.W.Frag → Sp} {x : Str}
    (hn : l.most = some n) (hn2 : n ≤ sizeLine) (hdf : d.params.defaults = []) (hr : Rm k callerA)
    (hY : ∀ (w : World) (h : Heap), YP w h → (K w.params).In h)
    (F : ∀ (w : World) (mg : Str → Option Value) (fa : Addr) (h : Heap), (K w.params).In h → h.Ns mainGlobals mg → mg d.name = some (.ref fa) →
      ∃ fd : FuncData, (∀ (s : Shared) (u : Value), BindsTo s fd ⟨[u], []⟩ [(x, u)]) ∧
        ∀ base : Heap, (K w.params).In base → base.Ns mainGlobals mg → Fq l.prog w (K w.params) mg base CX0 k fa fd [x] (sp (K w.params)))
    (hsp : ∀ (K : PySem.W.Frag) (H : Hp) (a : Addr) (ns : List Int), ns.length ≤ n → Only H → SqL K H a (ns.map V.int) → sp K [.ref a] H (fun v _ => v = .bl true) fun _ _ _ => False) :
    PySem.W.WalkO q loose XP YP l.row.toRowW d [] (fun f vs => PySem.call f vs) := by
  refine Att.attach_call hn hdf fun w s₀ s₁ mg mb fa o pm cd doc a vs ns G Y ho hd hcd hmg ha hi hlen hg => ?_
  have KX := hY w _ Y
  obtain ⟨fd, hb, hF⟩ := F w mg fa _ KX G.T.g hmg
  have rv := vals_of_ints hi
  have hl : ns.length ≤ sizeLine := Nat.le_trans hlen hn2
  cases hk : (K w.params).lookup a
  case some o =>
    cases (KX a o hk).symm.trans ha
    have hS : SqL (K w.params) (fun _ => none) a (ns.map V.int) := .inr ⟨_, vs.toArray, _, hk, rfl, rfl, rfl, by rw [List.size_toArray, hi.length]; exact hl, by simpa using rv⟩
    exact call_from (H := fun _ => none) KX G.T.g G.T.b G.T.builtins G.T.nolimit hg ha hr hF hb (hsp _ _ a ns hlen (fun _ => .inl rfl) hS) (fun _ => .inl rfl)
      (fun b u z => by cases (show (none : Option HO) = some u from z)) (fun b u z => by cases z) (fun u z => by cases z)
  case none =>
    let H : Hp := fun b => if b = a then some (.frz { cls := .type "list", data := .seq vs.toArray } (.lst (ns.map V.int))) else none
    have Ha : H a = some (.frz { cls := .type "list", data := .seq vs.toArray } (.lst (ns.map V.int))) := if_pos rfl
    have Hn : ∀ b, b ≠ a → H b = none := fun b h => if_neg h
    have hO : Only H := fun b => by
      by_cases e : b = a
      · subst e; exact .inr ⟨_, _, Ha⟩
      · exact .inl (Hn b e)
    have hA : ∀ b u, H b = some u → b = a := fun b u z => by
      by_cases e : b = a
      · exact e
      · rw [Hn b e] at z; cases z
    refine call_from (H := H) KX G.T.g G.T.b G.T.builtins G.T.nolimit hg ha hr hF hb (hsp _ _ a ns hlen hO (.inl (.inr ⟨_, Ha⟩))) hO (fun b u z => ?_) hA (fun _ _ => hk)
    cases hA b u z
    cases Ha.symm.trans z
    exact ⟨ha, by rw [List.length_map]; exact hl, vs, _, rv, ha⟩
end Hr
namespace Hr
open PySem PySem.Spec PyProof.Rows L2
/-! ### defs by name -/
structure Def (K : PySem.W.Frag) (mg : Str → Option Value) (x : Str) (st : Stmt) (ps : List Str) : Prop where
  ex : ∃ f fd, mg x = some (.ref f) ∧ Fun K x x st f fd ∧ L2.Binds K fd ps []
/-- where a def stands, and that it stays -/
def KpF (K : PySem.W.Frag) (f : Addr) (fd : FuncData) : Prop := PySem.W.keepIn K (.ref f) = true ∧ ∃ (oc : Value) (od : Option Addr) (osl : Array (Option Value)), K.lookup f = some ⟨oc, od, .func fd, osl⟩
theorem kpf_of {K : PySem.W.Frag} {x qual : Str} {st : Stmt} {f : Addr} {fd : FuncData} (F : Fun K x qual st f fd) : KpF K f fd := by
  obtain ⟨oc, od, kV, doc, pm, an, cdv, ct, osl, _, lk, _⟩ := F.ex
  exact ⟨F.kp, oc, od, osl, lk⟩
structure Has (P : Program) (w : World) (K : PySem.W.Frag) (mg : Str → Option Value) (base : Heap) (k : Nat) (x : Str) (ps : List Str) (sp : Sp) : Prop where
  ex : ∃ f fd, mg x = some (.ref f) ∧ KpF K f fd ∧ L2.Binds K fd ps [] ∧ Fq P w K mg base CX0 k f fd ps sp
/-- a promise: arguments f x, what must hold of them, what comes out -/
def spX {α : Type} (f : α → List V) (pre : α → Hp → Prop) (post : α → Hp → V → Hp → Prop) : Sp := fun vs H Q _ => ∃ x : α, vs = f x ∧ pre x H ∧ ∀ v H', post x H v H' → Q v H'
section
variable {P : Program} {w : World} {K : PySem.W.Frag} {mg : Str → Option Value} {base : Heap} {k j : Nat} {x : Str} {ps N : List Str} {st : Stmt} {sp : Sp}
theorem Has.mono (h : Has P w K mg base j x ps sp) (l : j ≤ k) : Has P w K mg base k x ps sp := by
  obtain ⟨f, fd, a, b, c, d⟩ := h.ex
  exact ⟨f, fd, a, b, c, d.mono l⟩
theorem Def.has {α : Type} {f : α → List V} {pre : α → Hp → Prop} {post : α → Hp → V → Hp → Prop} (D : Def K mg x st ps) (S : FnScope N ps (defScope st)) (hl : ∀ z, (f z).length = ps.length)
    (hbody : ∀ (g : Addr) (cdv : Value) (A : Around) (out : List Env) (s : Shared) (H : Hp) (z : α) (Q : VK) (E : XK), Rm k (A.deeper (envOfC x (defScope st) s.heap.objs.size g cdv)) → pre z H → (∀ v H', post z H v H' → Q v H') →
      ∃ t, PSs (cxOf CX0 P w K mg base N x (defScope st) g cdv A out s H E).nox (defBody st) t ∧ t { nx := fun _ H' => Q .non H', rt := Q } (start N (f z)) H) :
    Has P w K mg base (k + 1) x ps (spX f pre post) := by
  obtain ⟨g, fd, a, F, c⟩ := D.ex
  refine ⟨g, fd, a, kpf_of F, c, okq F S ?_ ?_⟩
  · rintro vs H Q E ⟨z, rfl, _⟩; exact hl z
  · rintro cdv A out s H vs Q E hr ⟨z, rfl, hp, q⟩
    exact hbody g cdv A out s H z Q E hr hp q
end
section
variable {X : Cx} {k l : Nat} {ps : List Str} {sp : Sp} {x : Str} {p pos : Pos} {e : Expr} {es : List Expr} {ta : TA}
theorem pe_h (h : Has X.prog X.w X.K X.mg X.base k x ps sp) (hr : Rm l X.A) (ha : PA X (e :: es) ta) (hkl : k ≤ l := by decide) (hg : Gl X x := by rfl) (hdb : (x == ("__debug__" : Str)) = false := by decide)
    (he : starEach (e :: es) X.env = (false, eval e X.env) :: starEach es X.env := by rfl) (hpl : (backTo pos (starEach es X.env)).any (·.1) = false := by rfl) :
    PE X (.Call (.Name x p) (e :: es) [] pos) (tCall sp [] E0 ta) := by
  obtain ⟨f, fd, a, b, c, F⟩ := h.ex
  exact pe_q F (hr.mono hkl) hg a b.1 c .nil pass0 ha hdb he hpl
end
/-! calls by keywords -/
/-- how keywords bind: parameter j takes the item ix[j] of the positional values and the keywords' ones behind them -/
structure Kw (K : PySem.W.Frag) (mg : Str → Option Value) (x : Str) (ps : List Str) (nu : Nat) (ks : List Str) (ix : List Nat) : Prop where
  to : ∀ (f : Addr) (fd : FuncData) (oc : Value) (od : Option Addr) (osl : Array (Option Value)), mg x = some (.ref f) → K.lookup f = some ⟨oc, od, .func fd, osl⟩ →
    ∀ (s : Shared) (us ws : List Value), us.length = nu → ws.length = ks.length → BindsTo s fd ⟨us, ks.zip ws⟩ (ps.zip (ix.map fun i => (us ++ ws).getD i .none))
  len : ix.length = ps.length
theorem vals_getD : ∀ {vs : List V} {us : List Value}, Vals vs us → ∀ i, RelV (vs.getD i .non) (us.getD i .none)
  | _, _, .nil, _ => rfl
  | _, _, .cons r _, 0 => r
  | _, _, .cons _ t, i + 1 => vals_getD t i
theorem vals_ix {vs : List V} {us : List Value} (r : Vals vs us) : ∀ ix : List Nat, Vals (ix.map fun i => vs.getD i .non) (ix.map fun i => us.getD i .none)
  | [] => .nil
  | i :: ix => .cons (vals_getD r i) (vals_ix r ix)
def tCallKw (sp : Sp) (nu nk : Nat) (ix : List Nat) (E : XK) (t tk : TA) : TE := fun σ H Q => t σ H fun vs H1 => tk σ H1 fun zs H2 => vs.length = nu ∧ zs.length = nk ∧ sp (ix.map fun i => (vs ++ zs).getD i .non) H2 Q E
section
variable {X : Cx} {k l : Nat} {ps : List Str} {sp : Sp} {x : Str} {p pos : Pos} {e : Expr} {es : List Expr} {kws : List Keyword} {ta tk : TA} {nu : Nat} {ks : List Str} {ix : List Nat}
theorem kw_run {pins : List (Addr × Obj)} {σ : L2.St} {H : Hp} {s : Shared} {Q : VK} {us ws : List Value} {vs zs : List V} {f : Addr} {fd : FuncData} {E : XK} (F : Fq X.prog X.w X.K X.mg X.base CX0 k f fd ps sp) (hr : Rm k X.A) (hm : X.mg x = some (.ref f)) (hk : KpF X.K f fd) (kb : Kw X.K X.mg x ps nu ks ix)
    (I : Inv X pins σ H s) (r : Vals vs us) (rz : Vals zs ws) (h : vs.length = nu ∧ zs.length = ks.length ∧ sp (ix.map fun i => (vs ++ zs).getD i .non) H Q E) : wpAny (model X.prog X.w) X.A (call (.ref f) us (ks.zip ws)) (EP X pins σ Q) X.xe s := by
  obtain ⟨_, oc, od, osl, lk⟩ := hk
  refine wpAny_call (codeAny_mono (F.go X.A X.stack s H ⟨us, ks.zip ws⟩ (ix.map fun i => (us ++ ws).getD i .none) (ix.map fun i => (vs ++ zs).getD i .non) Q E hr I.env0 (kb.to f fd oc od osl hm lk s us ws (r.length.symm.trans h.1) (rz.length.symm.trans h.2.1)) (vals_ix (r.append rz) ix) h.2.2) (end_of pass0 I))
theorem pe_hk (h : Has X.prog X.w X.K X.mg X.base k x ps sp) (kb : Kw X.K X.mg x ps nu ks ix) (hr : Rm l X.A) (ha : PA X (e :: es) ta) (hkw : PK X kws tk) (hkl : k ≤ l := by decide) (hg : Gl X x := by rfl) (hdb : (x == ("__debug__" : Str)) = false := by decide)
    (hall : (backToKw pos (keywordEach kws X.env)).all (·.1.isSome) = true := by rfl) (hks : (backToKw pos (keywordEach kws X.env)).filterMap (·.1) = ks := by rfl)
    (he : starEach (e :: es) X.env = (false, eval e X.env) :: starEach es X.env := by rfl) (hpl : ((backTo pos (starEach (e :: es) X.env)).any (·.1) || (backToKw pos (keywordEach kws X.env)).any (·.1.isNone)) = false := by rfl) :
    PE X (.Call (.Name x p) (e :: es) kws pos) (tCallKw sp nu ks.length ix E0 ta tk) := by
  obtain ⟨f, fd, a, b, c, F⟩ := h.ex
  refine ⟨fun pins s σ H Q I q => wpAny_Call_Name_kw (ld_glob I hg a ?_ hdb)⟩
  refine PySem.W.callWith_KW (h₀ := X.base) I.ok.mod.kin b.1 hall (thn (ha.run pos pins s σ H _ I q) fun us s1 ⟨vs, H1, I1, r, q1⟩ => ?_) hpl he
  refine thn (hkw.run pos pins s1 σ H1 _ I1 q1) fun ws s2 ⟨zs, H2, I2, rz, q2⟩ => ⟨I2.kIn, ?_⟩
  rw [hks]
  exact kw_run F (hr.mono hkl) a b kb I2 r rz q2
theorem pe_hk0 (h : Has X.prog X.w X.K X.mg X.base k x ps sp) (kb : Kw X.K X.mg x ps nu ks ix) (hr : Rm l X.A) (hkw : PK X kws tk) (hkl : k ≤ l := by decide) (hg : Gl X x := by rfl) (hdb : (x == ("__debug__" : Str)) = false := by decide)
    (hall : (backToKw pos (keywordEach kws X.env)).all (·.1.isSome) = true := by rfl) (hks : (backToKw pos (keywordEach kws X.env)).filterMap (·.1) = ks := by rfl)
    (hpl : ((backTo pos (starEach [] X.env)).any (·.1) || (backToKw pos (keywordEach kws X.env)).any (·.1.isNone)) = false := by rfl) :
    PE X (.Call (.Name x p) [] kws pos) (tCallKw sp nu ks.length ix E0 tNil tk) := by
  obtain ⟨f, fd, a, b, c, F⟩ := h.ex
  refine ⟨fun pins s σ H Q I q => wpAny_Call_Name_kw (ld_glob I hg a ?_ hdb)⟩
  refine PySem.W.callWith_KW0 (h₀ := X.base) I.ok.mod.kin b.1 hall ?_ hpl
  refine thn (hkw.run pos pins s σ H _ I q) fun ws s2 ⟨zs, H2, I2, rz, q2⟩ => ⟨I2.kIn, ?_⟩
  rw [hks]
  exact kw_run (vs := []) (us := []) F (hr.mono hkl) a b kb I2 .nil rz q2
end
/-! ### whole numbers of any size -/
section
variable {X : Cx}
def CPowX (i j : Int) : Prop := 0 ≤ j ∧ (Builtin.Int.intBits i : Int) * j ≤ 134217728
theorem op_powX : OpR X (binaryOp .Pow) (rI CPowX fun i j => .int (i ^ j.toNat)) := opI fun _ _ _ _ _ _ _ hc q => pow_int hc.1 hc.2 q
theorem op_xorN : OpR X (binaryOp .BitXor) (fun x y H Q => ∃ n m : Nat, x = .int (n : Int) ∧ y = .int (m : Int) ∧ Q (.int ((n ^^^ m : Nat) : Int)) H) := by
  intro pins s σ H x y v u Q I rx ry h
  obtain ⟨n, m, rfl, rfl, q⟩ := h
  refine op_xor pins s σ H _ _ v u Q I rx ry ⟨_, _, rfl, rfl, ?_⟩
  show Q (V.int (Builtin.bitXor (n : Int) (m : Int))) H
  rw [_root_.Bits.bitXor_pp (Int.natCast_nonneg n) (Int.natCast_nonneg m), Int.toNat_natCast, Int.toNat_natCast]
  exact q
theorem op_orN : OpR X (binaryOp .BitOr) (fun x y H Q => ∃ n m : Nat, x = .int (n : Int) ∧ y = .int (m : Int) ∧ Q (.int ((n ||| m : Nat) : Int)) H) := by
  intro pins s σ H x y v u Q I rx ry h
  obtain ⟨n, m, rfl, rfl, q⟩ := h
  refine op_or pins s σ H _ _ v u Q I rx ry ⟨_, _, rfl, rfl, ?_⟩
  show Q (V.int (Builtin.bitOr (n : Int) (m : Int))) H
  rw [bitOr_nn (Int.natCast_nonneg n) (Int.natCast_nonneg m), Int.toNat_natCast, Int.toNat_natCast]
  exact q
/-- n << k of naturals -/
theorem op_shlNN : OpR X (binaryOp .LShift) (fun x y H Q => ∃ n k : Nat, x = .int (n : Int) ∧ y = .int (k : Int) ∧ n.log2 ≤ 1000000 ∧ k ≤ 1000000 ∧ Q (.int ((n * 2 ^ k : Nat) : Int)) H) := by
  intro pins s σ H x y v u Q I rx ry h
  obtain ⟨n, k, rfl, rfl, hn, hk, q⟩ := h
  have hc : CShl (n : Int) (k : Int) := by
    refine ⟨Int.natCast_nonneg _, ?_⟩
    have e27 : (2 : Int) ^ 27 = 134217728 := by decide
    have b : Builtin.Int.intBits (n : Int) ≤ n.log2 + 1 := by
      unfold Builtin.Int.intBits
      split
      · omega
      · exact Nat.le_refl _
    rw [e27]; omega
  refine op_shlW pins s σ H _ _ v u Q I rx ry ⟨_, _, rfl, rfl, hc, ?_⟩
  have e : ((n : Int) * 2 ^ ((k : Int).toNat) : Int) = ((n * 2 ^ k : Nat) : Int) := by
    rw [Int.toNat_natCast, Int.natCast_mul, Int.natCast_pow]; rfl
  show Q (V.int ((n : Int) * 2 ^ ((k : Int).toNat))) H
  rw [e]; exact q
end
theorem bits_bl (n : Nat) : Builtin.Int.intBits (n : Int) = if n = 0 then 0 else n.log2 + 1 := by
  unfold Builtin.Int.intBits
  by_cases h : n = 0
  · subst h; rfl
  · rw [if_neg h, if_neg (by simpa using h)]; rfl
/-! ### a while with an invariant, the test known at each turn -/
theorem same_new {H : Hp} {p : Addr} {o : HO} (h : H p = none) : Same H (upd H p o) := fun b u e => by
  rw [upd_ne (ne_of_none e h)]; exact e
end Hr
namespace Hr
open PySem PySem.Spec PyProof.Rows L2 Evl
/-! ### sizes -/
def sz (a : Int) : Nat := Gf.bl a.natAbs
theorem sz_zero : sz 0 = 0 := rfl
theorem sz_le {a : Int} {n : Nat} : sz a ≤ n ↔ a.natAbs < 2 ^ n := Gf.bl_le
theorem sz_nat (n : Nat) : sz (n : Int) = Gf.bl n := rfl
theorem sz_neg (a : Int) : sz (-a) = sz a := by unfold sz; rw [Int.natAbs_neg]
theorem sz_abs (a : Int) : sz (a.natAbs : Int) = sz a := rfl
theorem bits_sz (a : Int) : Builtin.Int.intBits a = sz a := by
  unfold Builtin.Int.intBits sz Gf.bl
  by_cases h : a = 0
  · subst h; rfl
  · rw [if_neg (by simpa using h), if_neg (by omega)]
theorem sz_mono {a b : Int} (h : a.natAbs ≤ b.natAbs) : sz a ≤ sz b := sz_le.mpr (Nat.lt_of_le_of_lt h (sz_le.mp (Nat.le_refl _)))
theorem sz_mul (a b : Int) : sz (a * b) ≤ sz a + sz b := by
  rw [sz_le, Int.natAbs_mul, Nat.pow_add]
  exact Nat.mul_lt_mul'' (sz_le.mp (Nat.le_refl _)) (sz_le.mp (Nat.le_refl _))
theorem sz_add {a b : Int} {n : Nat} (ha : sz a ≤ n) (hb : sz b ≤ n) : sz (a + b) ≤ n + 1 := by
  rw [sz_le] at *
  have := Int.natAbs_add_le a b
  rw [Nat.pow_succ]; omega
theorem sz_sub {a b : Int} {n : Nat} (ha : sz a ≤ n) (hb : sz b ≤ n) : sz (a - b) ≤ n + 1 := by
  rw [Int.sub_eq_add_neg]
  exact sz_add ha (by rw [sz_neg]; exact hb)
theorem cmul_ok {a b : Int} (h : sz a + sz b ≤ 134217728) : CMulX a b := by
  unfold CMulX; rw [bits_sz, bits_sz]; omega
theorem log_sz (a : Int) : a.natAbs.log2 ≤ sz a := by
  unfold sz Gf.bl
  split
  · rename_i h; rw [h]; decide
  · omega
theorem log_bl (a : Nat) : a.log2 ≤ Gf.bl a := by
  unfold Gf.bl
  split
  · rename_i h; rw [h]; decide
  · omega
theorem cdiv_ok {a b : Int} (h : 0 < b) (hs : sz b < 9000) : CDivW a b := ⟨h, by have := log_sz b; omega⟩
/-! ### the two kinds -/
inductive Kd where
  | H | B
def ks : Kd → Str
  | .H => "hours"
  | .B => "bits"
def Ok : Kd → Int → Prop
  | .H, _ => True
  | .B, a => 0 ≤ a
theorem Ok.nn {a : Int} (h : Ok .B a) : ∃ n : Nat, a = (n : Int) := Int.eq_ofNat_of_zero_le h
theorem Ok.of_nat (k : Kd) (n : Nat) : Ok k (n : Int) := by cases k; trivial; exact Int.natCast_nonneg n
theorem Ok.of_le {k : Kd} {a : Int} (h : 0 ≤ a) : Ok k a := by cases k; trivial; exact h
def plusM : Kd → Int → Int → Int
  | .H, a, b => a + b
  | .B, a, b => ((a.toNat ^^^ b.toNat : Nat) : Int)
def minusM : Kd → Int → Int → Int
  | .H, a, b => a - b
  | .B, a, b => ((a.toNat ^^^ b.toNat : Nat) : Int)
def timesM : Kd → Int → Int → Int
  | .H, a, b => a * b
  | .B, a, b => ((Gf.mul a.toNat b.toNat : Nat) : Int)
def quoM : Kd → Int → Int → Int
  | .H, a, b => a.fdiv b
  | .B, a, b => ((Gf.quo a.toNat b.toNat : Nat) : Int)
def remM : Kd → Int → Int → Int
  | .H, a, b => if b = 0 then a else a.fmod b
  | .B, a, b => ((Gf.rem a.toNat b.toNat : Nat) : Int)
/-! ### evaluating -/
def isH : Kd → Bool
  | .H => true
  | .B => false
theorem isH_eq : ∀ k : Kd, decide (V.str (ks k) = V.str "hours") = isH k
  | .H => by decide +kernel
  | .B => by decide +kernel
theorem ev_kind {σ : L2.St} {H : Hp} {k : Kd} {ta : TE} (h : Ev ta σ H (.str (ks k))) : Ev (tOp rEq ta (tC (.str "hours"))) σ H (.bl (isH k)) :=
  ev_is (ev_op h ev_c (rv_eq rfl)) (by rw [isH_eq])
theorem et_kind {σ : L2.St} {H : Hp} {k : Kd} {ta : TE} (h : Ev ta σ H (.str (ks k))) : EvT (tTest (tOp rEq ta (tC (.str "hours")))) σ H (isH k) := et_test (ev_kind h)
theorem rv_xorN {H : Hp} {n m : Nat} : RV (fun x y H Q => ∃ n m : Nat, x = .int (n : Int) ∧ y = .int (m : Int) ∧ Q (.int ((n ^^^ m : Nat) : Int)) H) (.int (n : Int)) (.int (m : Int)) H (.int ((n ^^^ m : Nat) : Int)) :=
  fun H1 _ _ q => ⟨n, m, rfl, rfl, q H1 (Evl.Ex.refl H1)⟩
theorem rv_orN {H : Hp} {n m : Nat} : RV (fun x y H Q => ∃ n m : Nat, x = .int (n : Int) ∧ y = .int (m : Int) ∧ Q (.int ((n ||| m : Nat) : Int)) H) (.int (n : Int)) (.int (m : Int)) H (.int ((n ||| m : Nat) : Int)) :=
  fun H1 _ _ q => ⟨n, m, rfl, rfl, q H1 (Evl.Ex.refl H1)⟩
theorem rv_shlN {H : Hp} {n k : Nat} (hn : n.log2 ≤ 1000000) (hk : k ≤ 1000000) : RV (fun x y H Q => ∃ n k : Nat, x = .int (n : Int) ∧ y = .int (k : Int) ∧ n.log2 ≤ 1000000 ∧ k ≤ 1000000 ∧ Q (.int ((n * 2 ^ k : Nat) : Int)) H) (.int (n : Int)) (.int (k : Int)) H (.int ((n * 2 ^ k : Nat) : Int)) :=
  fun H1 _ _ q => ⟨n, k, rfl, rfl, hn, hk, q H1 (Evl.Ex.refl H1)⟩
theorem rv_odd {H : Hp} {n : Nat} : RV (fun x y H Q => ∃ n : Nat, x = .int (n : Int) ∧ y = .int 1 ∧ Q (.int ((n % 2 : Nat) : Int)) H) (.int (n : Int)) (.int 1) H (.int ((n % 2 : Nat) : Int)) :=
  fun H1 _ _ q => ⟨n, rfl, rfl, q H1 (Evl.Ex.refl H1)⟩
theorem rv_half {H : Hp} {n : Nat} : RV (fun x y H Q => ∃ n : Nat, x = .int (n : Int) ∧ y = .int 1 ∧ Q (.int ((n / 2 : Nat) : Int)) H) (.int (n : Int)) (.int 1) H (.int ((n / 2 : Nat) : Int)) :=
  fun H1 _ _ q => ⟨n, rfl, rfl, q H1 (Evl.Ex.refl H1)⟩
theorem et_int {σ : L2.St} {H : Hp} {K : PySem.W.Frag} {ta : TE} {i : Int} (h : Ev ta σ H (.int i)) : EvT (fun σ H Q => ta σ H fun x H' => ∃ k, TruV K x H' k ∧ Q k H') σ H (i != 0) :=
  fun H1 e _ q => h H1 e _ fun H2 e2 => ⟨_, rfl, q H2 e2⟩
theorem et_bool {σ : L2.St} {H : Hp} {K : PySem.W.Frag} {ta : TE} {b : Bool} (h : Ev ta σ H (.bl b)) : EvT (fun σ H Q => ta σ H fun x H' => ∃ k, TruV K x H' k ∧ Q k H') σ H b :=
  fun H1 e _ q => h H1 e _ fun H2 e2 => ⟨_, rfl, q H2 e2⟩
theorem ev_bits {σ : L2.St} {H : Hp} {ta : TE} {i : Int} (h : Ev ta σ H (.int i)) : Ev (tBits ta) σ H (.int (sz i : Nat)) :=
  fun H1 e Q q => h H1 e _ fun H2 e2 => ⟨i, rfl, by rw [bits_sz]; exact q H2 e2⟩
/-! ### built-ins -/
theorem rc_int {H : Hp} {i : Int} : RC (fun xs H Q => (∃ i, xs = [.int i] ∧ Q (.int i) H) ∨ ∃ k, xs = [.bl k] ∧ Q (.int (if k then 1 else 0)) H) [.int i] H (.int i) :=
  fun H1 _ _ q => .inl ⟨i, rfl, q H1 (Evl.Ex.refl H1)⟩
theorem rc_abs {H : Hp} {i : Int} : RC (fun xs H Q => ∃ i, xs = [.int i] ∧ Q (.int (if i < 0 then -i else i)) H) [.int i] H (.int (i.natAbs : Int)) :=
  fun H1 _ Q q => ⟨i, rfl, by
    have e : (if i < 0 then -i else i) = (i.natAbs : Int) := by split <;> omega
    rw [e]; exact q H1 (Evl.Ex.refl H1)⟩
theorem rc_isi {H : Hp} {K : PySem.W.Frag} {x : V} {T : String} {t : String} {b : Bool} (ht : ∀ H1, Evl.Ex H H1 → TyX K H1 x (.type t)) (hb : kitB t T = some b) : RC (rIsi K) [x, .ty T] H (.bl b) :=
  fun H1 e _ q => ⟨x, .ty T, .type t, .type T, b, rfl, .ty T, ht H1 e, kit_ty hb, q H1 (Evl.Ex.refl H1)⟩
theorem rc_isiI {H : Hp} {K : PySem.W.Frag} {i : Int} {T : String} {b : Bool} (hb : kitB "int" T = some b) : RC (rIsi K) [.int i, .ty T] H (.bl b) := rc_isi (fun _ _ => .base (.int i)) hb
theorem rc_isiS {H : Hp} {K : PySem.W.Frag} {i : Str} {T : String} {b : Bool} (hb : kitB "str" T = some b) : RC (rIsi K) [.str i, .ty T] H (.bl b) := rc_isi (fun _ _ => .base (.str i)) hb
theorem rc_isiB {H : Hp} {K : PySem.W.Frag} {i : Bool} {T : String} {b : Bool} (hb : kitB "bool" T = some b) : RC (rIsi K) [.bl i, .ty T] H (.bl b) := rc_isi (fun _ _ => .base (.bl i)) hb
theorem rc_isiN {H : Hp} {K : PySem.W.Frag} {T : String} {b : Bool} (hb : kitB "NoneType" T = some b) : RC (rIsi K) [.non, .ty T] H (.bl b) := rc_isi (fun _ _ => .base .non) hb
theorem ex_ty {H H1 : Hp} {K : PySem.W.Frag} {a : Addr} {xs : List V} (e : Evl.Ex H H1) (h : H a = some (.tup xs)) : TyX K H1 (.ref a) (.type "tuple") := .base (.tup (e _ _ h))
theorem rc_repr {H : Hp} {K : PySem.W.Frag} {x : V} {d : PyData} (h : ∀ H1, Evl.Ex H H1 → Dp K H1 x d) (h1 : neat d = true) (h2 : cost d ≤ 10000000) (h3 : d.depth ≤ 50) : RC (rRepr K) [x] H (.str d.shown) :=
  fun H1 e _ q => ⟨x, d, rfl, h H1 e, h1, h2, h3, q H1 (Evl.Ex.refl H1)⟩
theorem rc_reprI {H : Hp} {K : PySem.W.Frag} {i : Int} (h : sz i ≤ 1900) : RC (rRepr K) [.int i] H (.str (PyData.int i).shown) :=
  rc_repr (fun _ _ => .int i) (decide_eq_true (by have := log_sz i; omega)) (by show (1921 : Nat) ≤ 10000000; decide) (by show (0 : Nat) ≤ 50; decide)
theorem rc_reprB {H : Hp} {K : PySem.W.Frag} {i : Bool} : RC (rRepr K) [.bl i] H (.str (PyData.bool i).shown) :=
  rc_repr (fun _ _ => .bl i) rfl (by show (5 : Nat) ≤ 10000000; decide) (by show (0 : Nat) ≤ 50; decide)
def rDivmod : List V → Hp → VK → Prop := fun xs H Q => ∃ i j : Int, xs = [.int i, .int j] ∧ (j ≠ 0 ∧ Builtin.divisionGoesByPylong i j = false) ∧ ∀ p, H p = none → Q (.ref p) (upd H p (.tup [.int (i.fdiv j), .int (i.fmod j)]))
theorem call_divmodF {X : Cx} : CallR X (.builtin "divmod") rDivmod := by
  intro pins s σ H xs us Q I r h
  obtain ⟨i, j, rfl, ⟨h1, h2⟩, q⟩ := h
  obtain ⟨u, w', rfl, ⟨t, rfl⟩, ⟨t', rfl⟩⟩ := vals2 r
  refine divmod_int h1 ?_ (.inl h2)
  have hn : H s.heap.objs.size = none := I.hok.fresh (Nat.le_refl _)
  refine ⟨.ref s.heap.objs.size, _, ?_, rfl, q _ hn⟩
  refine I.laid (fun b o e => Heap.get?_push_of_some _ e) (Nat.le_refl _) ⟨by simp only [List.length_cons, List.length_nil]; rw [sizeLine_eq]; decide, [.int (i.fdiv j) s.toks, .int (i.fmod j) (s.toks + 1)], .cons ⟨_, rfl⟩ (.cons ⟨_, rfl⟩ .nil), ?_⟩
  exact ⟨_, Heap.get?_push_size s.heap rfl, rfl, 0, rfl⟩
theorem nolong {i j : Int} (h : sz j < 9000) : Builtin.divisionGoesByPylong i j = false := by
  have l := log_sz j
  exact PyProof.noPylong_of_log2 (by omega)
/-- a promise of a value that hangs on the arguments alone -/
def spP {α : Type} (f : α → List V) (pre : α → Prop) (res : α → V) : Sp := fun vs H Q _ => ∃ x : α, vs = f x ∧ pre x ∧ ∀ H', Evl.Ex H H' → Q (res x) H'
theorem spv_P {α : Type} {f : α → List V} {pre : α → Prop} {res : α → V} {H : Hp} (x : α) (h : pre x) : SpV (spP f pre res) (f x) H (res x) :=
  fun H1 _ Q q _ => ⟨x, rfl, h, fun H' e => q H' e⟩
section
variable {P : Program} {w : World} {K : PySem.W.Frag} {mg : Str → Option Value} {base : Heap} {k j : Nat} {x : Str} {ps N : List Str} {st : Stmt}
theorem Def.hasP {α : Type} {f : α → List V} {pre : α → Prop} {res : α → V} (D : Def K mg x st ps) (S : FnScope N ps (defScope st)) (hl : ∀ z, (f z).length = ps.length)
    (hbody : ∀ (g : Addr) (cdv : Value) (A : Around) (out : List Env) (s : Shared) (H : Hp) (z : α) (Q : VK) (E : XK), Rm k (A.deeper (envOfC x (defScope st) s.heap.objs.size g cdv)) → pre z → (∀ H', Evl.Ex H H' → Q (res z) H') →
      ∃ t, PSs (cxOf CX0 P w K mg base N x (defScope st) g cdv A out s H E).nox (defBody st) t ∧ t { nx := fun _ H' => Q .non H', rt := Q } (start N (f z)) H) :
    Has P w K mg base (k + 1) x ps (spP f pre res) := by
  obtain ⟨g, fd, a, F, c⟩ := D.ex
  refine ⟨g, fd, a, kpf_of F, c, okq F S ?_ ?_⟩
  · rintro vs H Q E ⟨z, rfl, _⟩; exact hl z
  · rintro cdv A out s H vs Q E hr ⟨z, rfl, hp, q⟩
    exact hbody g cdv A out s H z Q E hr hp q
end
/-! ### a new tuple made by a def; its items -/
def SpU (sp : Sp) (vs : List V) (H : Hp) (xs : List V) : Prop := ∀ H1, Evl.Ex H H1 → ∀ Q : VK, (∀ p H2, H1 p = none → Evl.Ex H1 H2 → H2 p = some (.tup xs) → Q (.ref p) H2) → ∀ E : XK, sp vs H1 Q E
theorem eu_call {σ : L2.St} {H : Hp} {sp : Sp} {dvs vs xs : List V} {E : XK} {ta : TA} (h : EvA ta σ H vs) (hs : SpU sp (vs ++ dvs) H xs) : EvU (tCall sp dvs E ta) σ H xs := fun H1 e Q q =>
  h H1 e _ fun H2 e2 => hs H2 (e.trans e2) Q (fun p H3 hp e3 h3 => q p H3 (fresh_back e2 hp) (e2.trans e3) h3) E
def spU {α : Type} (f : α → List V) (pre : α → Prop) (res : α → List V) : Sp := fun vs H Q _ => ∃ x : α, vs = f x ∧ pre x ∧ ∀ p H', H p = none → Evl.Ex H H' → H' p = some (.tup (res x)) → Q (.ref p) H'
theorem spu_U {α : Type} {f : α → List V} {pre : α → Prop} {res : α → List V} {H : Hp} (x : α) (h : pre x) : SpU (spU f pre res) (f x) H (res x) :=
  fun H1 _ Q q _ => ⟨x, rfl, h, fun p H' hp e hq => q p H' hp e hq⟩
theorem ev_ixU {σ : L2.St} {H : Hp} {K : PySem.W.Frag} {ta tb : TE} {xs : List V} {i : Int} {v : V} (h : EvU ta σ H xs) (hb : Ev tb σ H (.int i)) (ha : atI xs i = some v) : Ev (tOp (rIxT K) ta tb) σ H v :=
  fun H1 e Q q => h H1 e _ fun p H2 hp e2 h2 => hb H2 (e.trans e2) _ fun H3 e3 => ⟨p, xs, i, v, rfl, rfl, st_of (e3 _ _ h2), ha, q H3 (e2.trans e3)⟩
theorem eu_cb {σ : L2.St} {H : Hp} {r : List V → Hp → VK → Prop} {ta : TA} {vs xs : List V} (h : EvA ta σ H vs)
    (hr : ∀ H1, Evl.Ex H H1 → ∀ Q : VK, (∀ p H2, H1 p = none → Evl.Ex H1 H2 → H2 p = some (.tup xs) → Q (.ref p) H2) → r vs H1 Q) : EvU (tCB r ta) σ H xs := fun H1 e Q q =>
  h H1 e _ fun H2 e2 => hr H2 (e.trans e2) Q fun p H3 hp e3 h3 => q p H3 (fresh_back e2 hp) (e2.trans e3) h3
theorem eu_divmod {σ : L2.St} {H : Hp} {ta : TA} {i j : Int} (h : EvA ta σ H [.int i, .int j]) (hj : j ≠ 0) (hz : sz j < 9000) : EvU (tCB rDivmod ta) σ H [.int (i.fdiv j), .int (i.fmod j)] :=
  eu_cb h fun H1 _ Q q => ⟨i, j, rfl, ⟨hj, nolong hz⟩, fun p hp => q p _ hp (Evl.Ex.new hp) upd_same⟩
section
variable {P : Program} {w : World} {K : PySem.W.Frag} {mg : Str → Option Value} {base : Heap} {k j : Nat} {x : Str} {ps N : List Str} {st : Stmt}
theorem Def.hasU {α : Type} {f : α → List V} {pre : α → Prop} {res : α → List V} (D : Def K mg x st ps) (S : FnScope N ps (defScope st)) (hl : ∀ z, (f z).length = ps.length)
    (hbody : ∀ (g : Addr) (cdv : Value) (A : Around) (out : List Env) (s : Shared) (H : Hp) (z : α) (Q : VK) (E : XK), Rm k (A.deeper (envOfC x (defScope st) s.heap.objs.size g cdv)) → pre z → (∀ p H', H p = none → Evl.Ex H H' → H' p = some (.tup (res z)) → Q (.ref p) H') →
      ∃ t, PSs (cxOf CX0 P w K mg base N x (defScope st) g cdv A out s H E).nox (defBody st) t ∧ t { nx := fun _ H' => Q .non H', rt := Q } (start N (f z)) H) :
    Has P w K mg base (k + 1) x ps (spU f pre res) := by
  obtain ⟨g, fd, a, F, c⟩ := D.ex
  refine ⟨g, fd, a, kpf_of F, c, okq F S ?_ ?_⟩
  · rintro vs H Q E ⟨z, rfl, _⟩; exact hl z
  · rintro cdv A out s H vs Q E hr ⟨z, rfl, hp, q⟩
    exact hbody g cdv A out s H z Q E hr hp q
end
theorem or_bit {t s : Nat} (h : t.testBit s = false) : t ||| 2 ^ s = t ^^^ 2 ^ s := by
  apply Nat.eq_of_testBit_eq
  intro i
  rw [Nat.testBit_or, Nat.testBit_xor, Nat.testBit_two_pow]
  by_cases e : s = i
  · subst e; rw [h]; simp
  · simp [e]
end Hr
namespace Hr
open PySem PySem.Spec PyProof.Rows L2 Evl
/-! ### expressions whose values bear data -/
mutual
theorem dp_ex {K : PySem.W.Frag} {H H1 : Hp} (e : Evl.Ex H H1) : ∀ (d : PyData) (v : V), Dp K H v d → Dp K H1 v d
  | .none, _, h => by cases h; exact .non
  | .bool _, _, h => by cases h; exact .bl _
  | .int _, _, h => by cases h; exact .int _
  | .str _, _, h => by cases h; exact .str _
  | .list ds, _, h => by
    cases h with
    | lst a b => exact .lst (ex_l e a) (dps_ex e ds _ b)
  | .tuple ds, _, h => by
    cases h with
    | tup a b => exact .tup (ex_t e a) (dps_ex e ds _ b)
  | .dict _, _, h => by cases h
theorem dps_ex {K : PySem.W.Frag} {H H1 : Hp} (e : Evl.Ex H H1) : ∀ (ds : List PyData) (vs : List V), DpAll K H vs ds → DpAll K H1 vs ds
  | [], _, h => by cases h; exact .nil
  | d :: ds, _, h => by
    cases h with
    | cons a b => exact .cons (dp_ex e d _ a) (dps_ex e ds _ b)
end
theorem dps_at {K : PySem.W.Frag} {H : Hp} : ∀ {vs : List V} {ds : List PyData}, DpAll K H vs ds → ∀ {i : Nat} {x : V}, vs[i]? = some x → ∃ d, ds[i]? = some d ∧ Dp K H x d
  | _, _, .nil, i, x, h => by simp at h
  | _, _, .cons a b, 0, x, h => by cases (Option.some.inj h); exact ⟨_, rfl, a⟩
  | _, _, .cons a b, i + 1, x, h => dps_at b (i := i) h
theorem dps_to {K : PySem.W.Frag} {H : Hp} : ∀ {vs : List V} {ds : List PyData}, DpAll K H vs ds → ∀ {i : Nat} {d : PyData}, ds[i]? = some d → ∃ x, vs[i]? = some x ∧ Dp K H x d
  | _, _, .nil, i, x, h => by simp at h
  | _, _, .cons a b, 0, x, h => by cases (Option.some.inj h); exact ⟨_, rfl, a⟩
  | _, _, .cons a b, i + 1, x, h => dps_to b (i := i) h
theorem dps_len {K : PySem.W.Frag} {H : Hp} : ∀ {vs : List V} {ds : List PyData}, DpAll K H vs ds → vs.length = ds.length
  | _, _, .nil => rfl
  | _, _, .cons _ b => by rw [List.length_cons, List.length_cons, dps_len b]
theorem dps_ints {K : PySem.W.Frag} {H : Hp} : ∀ (ns : List Int), DpAll K H (ns.map V.int) (ns.map PyData.int)
  | [] => .nil
  | n :: ns => .cons (.int n) (dps_ints ns)
section
variable {K : PySem.W.Frag} {σ : L2.St} {H : Hp} {te ta tb : TE} {tr : TA} {d e : PyData} {ds : List PyData} {v : V}
def EvD (K : PySem.W.Frag) (te : TE) (σ : L2.St) (H : Hp) (d : PyData) : Prop := ∀ H1, Evl.Ex H H1 → ∀ Q : VK, (∀ x H2, Evl.Ex H1 H2 → Dp K H2 x d → Q x H2) → te σ H1 Q
def EvDs (K : PySem.W.Frag) (ta : TA) (σ : L2.St) (H : Hp) (ds : List PyData) : Prop := ∀ H1, Evl.Ex H H1 → ∀ Q : List V → Hp → Prop, (∀ xs H2, Evl.Ex H1 H2 → DpAll K H2 xs ds → Q xs H2) → ta σ H1 Q
theorem ed_var {i : Nat} (h : σ[i]? = some (some v)) (hd : Dp K H v d) : EvD K (tVar i) σ H d := fun H1 e _ q => ⟨v, h, q v H1 (Evl.Ex.refl H1) (dp_ex e d v hd)⟩
theorem ed_ev (h : Ev te σ H v) (hd : ∀ H1, Evl.Ex H H1 → Dp K H1 v d) : EvD K te σ H d := fun H1 e _ q => h H1 e _ fun H2 e2 => q v H2 e2 (hd H2 (e.trans e2))
theorem ed_int {i : Int} (h : Ev te σ H (.int i)) : EvD K te σ H (.int i) := ed_ev h fun _ _ => .int i
theorem ed_bl {i : Bool} (h : Ev te σ H (.bl i)) : EvD K te σ H (.bool i) := ed_ev h fun _ _ => .bl i
theorem ed_str {i : Str} (h : Ev te σ H (.str i)) : EvD K te σ H (.str i) := ed_ev h fun _ _ => .str i
theorem ed_non (h : Ev te σ H .non) : EvD K te σ H .none := ed_ev h fun _ _ => .non
theorem ed_mono {H' : Hp} (e : Evl.Ex H H') (h : EvD K te σ H d) : EvD K te σ H' d := fun H1 e1 Q q => h H1 (e.trans e1) Q q
theorem eds_nil : EvDs K tNil σ H [] := fun H1 _ _ q => q [] H1 (Evl.Ex.refl H1) .nil
theorem eds_cons (h : EvD K te σ H d) (hr : EvDs K tr σ H ds) : EvDs K (tCons te tr) σ H (d :: ds) := fun H1 e _ q =>
  h H1 e _ fun x H2 e2 hx => hr H2 (e.trans e2) _ fun xs H3 e3 hs => q _ H3 (e2.trans e3) (.cons (dp_ex e3 _ _ hx) hs)
theorem ed_lst (h : EvDs K tr σ H ds) (hl : ds.length ≤ 100000) : EvD K (tLst tr) σ H (.list ds) := fun H1 e _ q =>
  h H1 e _ fun xs H2 e2 hs => ⟨sz_of (by rw [dps_len hs]; exact hl), fun p hp => q _ _ (e2.trans (Evl.Ex.new hp)) (.lst (sq_of upd_same) (dps_ex (Evl.Ex.new hp) _ _ hs))⟩
theorem ed_tup (h : EvDs K tr σ H ds) (hl : ds.length ≤ 100000) : EvD K (tTup tr) σ H (.tuple ds) := fun H1 e _ q =>
  h H1 e _ fun xs H2 e2 hs => ⟨sz_of (by rw [dps_len hs]; exact hl), fun p hp => q _ _ (e2.trans (Evl.Ex.new hp)) (.tup (st_of upd_same) (dps_ex (Evl.Ex.new hp) _ _ hs))⟩
theorem ev_reprD (h : EvD K te σ H d) (h1 : neat d = true) (h2 : cost d ≤ 10000000) (h3 : d.depth ≤ 50) : Ev (tCB (rRepr K) (tCons te tNil)) σ H (.str d.shown) := fun H1 e _ q =>
  h H1 e _ fun x H2 e2 hx => ⟨x, d, rfl, hx, h1, h2, h3, q H2 e2⟩
theorem ev_eqD (ha : EvD K ta σ H d) (hb : EvD K tb σ H e) (h1 : SeqAt.shaped d = true) (h2 : SeqAt.shaped e = true) : Ev (tOp (rEqD K) ta tb) σ H (.bl (PyData.eqv d e)) := fun H1 x _ q =>
  ha H1 x _ fun v H2 e2 hv => hb H2 (x.trans e2) _ fun u H3 e3 hu => ⟨d, e, dp_ex e3 _ _ hv, hu, h1, h2, q H3 (e2.trans e3)⟩
theorem ev_neD (ha : EvD K ta σ H d) (hb : EvD K tb σ H e) (h1 : SeqAt.shaped d = true) (h2 : SeqAt.shaped e = true) : Ev (tOp (rNeD K) ta tb) σ H (.bl (!PyData.eqv d e)) := fun H1 x _ q =>
  ha H1 x _ fun v H2 e2 hv => hb H2 (x.trans e2) _ fun u H3 e3 hu => ⟨d, e, dp_ex e3 _ _ hv, hu, h1, h2, q H3 (e2.trans e3)⟩
theorem s_asgD {D : Ends} {i : Nat} (h : EvD K te σ H d) (k : ∀ x H1, Evl.Ex H H1 → Dp K H1 x d → D.nx (σ.set i (some x)) H1) : tAsg te (gName i) D σ H := h H (Evl.Ex.refl H) _ fun x H1 e hx => k x H1 e hx
theorem q_asgD {D : Ends} {i : Nat} {tz : TS} (h : EvD K te σ H d) (k : ∀ x H1, Evl.Ex H H1 → Dp K H1 x d → tz D (σ.set i (some x)) H1) : tSeq (tAsg te (gName i)) tz D σ H := s_asgD (D := { D with nx := tz D }) h k
theorem s_retD {D : Ends} (h : EvD K te σ H d) (k : ∀ x H1, Evl.Ex H H1 → Dp K H1 x d → D.rt x H1) : tRet te D σ H := h H (Evl.Ex.refl H) _ fun x H1 e hx => k x H1 e hx
/-- an item of a list (of a tuple) of data -/
theorem ed_ixL {i : Int} (ha : EvD K ta σ H (.list ds)) (hb : Ev tb σ H (.int i)) (hi : atI ds i = some d) : EvD K (tOp (rIxL K) ta tb) σ H d := fun H1 x _ q =>
  ha H1 x _ fun v H2 e2 hv => hb H2 (x.trans e2) _ fun H3 e3 => by
    cases dp_ex e3 _ _ hv with
    | lst a b =>
      unfold atI at hi
      obtain ⟨j, h1, h2⟩ := Option.bind_eq_some_iff.mp hi
      obtain ⟨y, h3, h4⟩ := dps_to b h2
      refine ⟨_, _, i, y, rfl, rfl, a, ?_, q y H3 (e2.trans e3) h4⟩
      unfold atI
      rw [dps_len b, h1]; exact h3
theorem ed_ixT {i : Int} (ha : EvD K ta σ H (.tuple ds)) (hb : Ev tb σ H (.int i)) (hi : atI ds i = some d) : EvD K (tOp (rIxT K) ta tb) σ H d := fun H1 x _ q =>
  ha H1 x _ fun v H2 e2 hv => hb H2 (x.trans e2) _ fun H3 e3 => by
    cases dp_ex e3 _ _ hv with
    | tup a b =>
      unfold atI at hi
      obtain ⟨j, h1, h2⟩ := Option.bind_eq_some_iff.mp hi
      obtain ⟨y, h3, h4⟩ := dps_to b h2
      refine ⟨_, _, i, y, rfl, rfl, a, ?_, q y H3 (e2.trans e3) h4⟩
      unfold atI
      rw [dps_len b, h1]; exact h3
/-- what bears an int is that int -/
theorem ev_ofI {i : Int} (h : EvD K te σ H (.int i)) : Ev te σ H (.int i) := fun H1 e _ q => h H1 e _ fun x H2 e2 hx => by cases hx; exact q H2 e2
theorem ev_ofB {i : Bool} (h : EvD K te σ H (.bool i)) : Ev te σ H (.bl i) := fun H1 e _ q => h H1 e _ fun x H2 e2 hx => by cases hx; exact q H2 e2
theorem ev_ofS {i : Str} (h : EvD K te σ H (.str i)) : Ev te σ H (.str i) := fun H1 e _ q => h H1 e _ fun x H2 e2 hx => by cases hx; exact q H2 e2
theorem ev_ofN (h : EvD K te σ H .none) : Ev te σ H .non := fun H1 e _ q => h H1 e _ fun x H2 e2 hx => by cases hx; exact q H2 e2
/-- a loop over a list of data, the heap growing; H1: the heap at its start -/
theorem s_forD {D : Ends} {g : TG} {tu : TS} (h : EvD K te σ H (.list ds)) (Pv : Hp → Nat → L2.St → Hp → Prop) (h0 : ∀ H1, Evl.Ex H H1 → Pv H1 0 σ H1) (hp : ∀ H1 i σ' H', Pv H1 i σ' H' → Evl.Ex H1 H')
    (hs : ∀ H1 i x d σ' H', Evl.Ex H H1 → ds[i]? = some d → Dp K H' x d → Pv H1 i σ' H' → g x σ' H' fun σ2 H2 => tu { D with nx := Pv H1 (i + 1), ct := Pv H1 (i + 1), bk := D.nx } σ2 H2)
    (hd : ∀ H1 σ' H', Pv H1 ds.length σ' H' → D.nx σ' H') : tFor (iList K te) g tu D σ H :=
  h H (Evl.Ex.refl H) _ fun x H1 e1 hx => by
    cases hx with
    | lst a b =>
      rename_i p xs
      refine ⟨p, rfl, ⟨xs, a⟩, for_list (xs := xs) (Pv H1) (h0 H1 e1) (fun i σ' H' _ hP => ex_l (hp _ _ _ _ hP) a) ?_ ?_⟩
      · intro i x σ' H' hi hP
        obtain ⟨d, hd1, hd2⟩ := dps_at b hi
        exact hs H1 i x d σ' H' e1 hd1 (dp_ex (hp _ _ _ _ hP) _ _ hd2) hP
      · intro σ' H' hP
        rw [dps_len b] at hP
        exact hd H1 σ' H' hP
theorem q_forD {D : Ends} {g : TG} {tu tz : TS} (h : EvD K te σ H (.list ds)) (Pv : Hp → Nat → L2.St → Hp → Prop) (h0 : ∀ H1, Evl.Ex H H1 → Pv H1 0 σ H1) (hp : ∀ H1 i σ' H', Pv H1 i σ' H' → Evl.Ex H1 H')
    (hs : ∀ H1 i x d σ' H', Evl.Ex H H1 → ds[i]? = some d → Dp K H' x d → Pv H1 i σ' H' → g x σ' H' fun σ2 H2 => tu { D with nx := Pv H1 (i + 1), ct := Pv H1 (i + 1), bk := tz D } σ2 H2)
    (hd : ∀ H1 σ' H', Pv H1 ds.length σ' H' → tz D σ' H') : tSeq (tFor (iList K te) g tu) tz D σ H := s_forD (D := { D with nx := tz D }) h Pv h0 hp hs hd
/-- a pair is taken apart -/
theorem g_pair {i j : Nat} {x : V} {d1 d2 : PyData} {R : L2.St → Hp → Prop} (hx : Dp K H x (.tuple [d1, d2])) (k : ∀ x1 x2, Dp K H x1 d1 → Dp K H x2 d2 → R ((σ.set i (some x1)).set j (some x2)) H) :
    gTup K 2 (gCons (gName i) (gCons (gName j) gNil)) x σ H R := by
  cases hx with
  | tup a b =>
    cases b with
    | cons b1 b =>
      cases b with
      | cons b2 b =>
        cases b
        exact ⟨_, _, rfl, a, rfl, _, _, rfl, _, _, rfl, rfl, k _ _ b1 b2⟩
end
end Hr
namespace Hr
/-! ### the arithmetic of both kinds -/
theorem toN (n : Nat) : ((n : Int)).toNat = n := rfl
theorem ok_plus {k : Kd} {a b : Int} (_ : Ok k a) (_ : Ok k b) : Ok k (plusM k a b) := by cases k; trivial; exact Int.natCast_nonneg _
theorem ok_minus {k : Kd} {a b : Int} (_ : Ok k a) (_ : Ok k b) : Ok k (minusM k a b) := by cases k; trivial; exact Int.natCast_nonneg _
theorem ok_times {k : Kd} {a b : Int} (_ : Ok k a) (_ : Ok k b) : Ok k (timesM k a b) := by cases k; trivial; exact Int.natCast_nonneg _
theorem ok_quo {k : Kd} {a b : Int} : Ok k (quoM k a b) := by cases k; trivial; exact Int.natCast_nonneg _
theorem ok_rem {k : Kd} {a b : Int} : Ok k (remM k a b) := by cases k; trivial; exact Int.natCast_nonneg _
theorem times_comm {k : Kd} {a b : Int} : timesM k a b = timesM k b a := by
  cases k
  · exact Int.mul_comm a b
  · show ((Gf.mul a.toNat b.toNat : Nat) : Int) = ((Gf.mul b.toNat a.toNat : Nat) : Int)
    rw [Gf.mul_comm]
theorem plus_comm {k : Kd} {a b : Int} : plusM k a b = plusM k b a := by
  cases k
  · exact Int.add_comm a b
  · show ((a.toNat ^^^ b.toNat : Nat) : Int) = ((b.toNat ^^^ a.toNat : Nat) : Int)
    rw [Nat.xor_comm]
theorem plus_minus {k : Kd} {a b : Int} (ha : Ok k a) (hb : Ok k b) : plusM k (minusM k a b) b = a := by
  cases k
  · show a - b + b = a; omega
  · obtain ⟨n, rfl⟩ := ha.nn
    obtain ⟨m, rfl⟩ := hb.nn
    show ((n ^^^ m ^^^ m : Nat) : Int) = (n : Int)
    rw [Nat.xor_assoc, Nat.xor_self, Nat.xor_zero]
theorem plus_times {k : Kd} {a b c : Int} (ha : Ok k a) (hb : Ok k b) (hc : Ok k c) : timesM k (plusM k a b) c = plusM k (timesM k a c) (timesM k b c) := by
  cases k
  · exact Int.add_mul a b c
  · obtain ⟨n, rfl⟩ := ha.nn
    obtain ⟨m, rfl⟩ := hb.nn
    obtain ⟨l, rfl⟩ := hc.nn
    show ((Gf.mul (n ^^^ m) l : Nat) : Int) = ((Gf.mul n l ^^^ Gf.mul m l : Nat) : Int)
    rw [Gf.xor_mul]
theorem sz_plus {k : Kd} {a b : Int} {n : Nat} (oa : Ok k a) (ob : Ok k b) (ha : sz a ≤ n) (hb : sz b ≤ n) : sz (plusM k a b) ≤ n + 1 := by
  cases k
  · exact sz_add ha hb
  · obtain ⟨x, rfl⟩ := oa.nn
    obtain ⟨y, rfl⟩ := ob.nn
    exact Nat.le_succ_of_le (Gf.bl_xor x y ha hb)
theorem sz_minus {k : Kd} {a b : Int} {n : Nat} (oa : Ok k a) (ob : Ok k b) (ha : sz a ≤ n) (hb : sz b ≤ n) : sz (minusM k a b) ≤ n + 1 := by
  cases k
  · exact sz_sub ha hb
  · obtain ⟨x, rfl⟩ := oa.nn
    obtain ⟨y, rfl⟩ := ob.nn
    exact Nat.le_succ_of_le (Gf.bl_xor x y ha hb)
theorem sz_times {k : Kd} {a b : Int} (oa : Ok k a) (ob : Ok k b) : sz (timesM k a b) ≤ sz a + sz b := by
  cases k
  · exact sz_mul a b
  · obtain ⟨x, rfl⟩ := oa.nn
    obtain ⟨y, rfl⟩ := ob.nn
    exact Gf.bl_mul_le x y
theorem fdiv_abs {a b : Int} (hb : 0 < b) : (a.fdiv b).natAbs ≤ a.natAbs := by
  rw [Int.fdiv_eq_ediv_of_nonneg a (by omega)]
  rcases Int.le_total 0 a with h | h
  · have h1 := Int.ediv_nonneg h (Int.le_of_lt hb)
    have h2 := Int.ediv_le_self b h
    omega
  · have h1 : a / b ≤ 0 := Int.ediv_nonpos_of_nonpos_of_neg h (by omega)
    have h2 : a ≤ a / b := by
      have e := Int.emod_nonneg a (show b ≠ 0 by omega)
      have e2 := Int.mul_ediv_add_emod a b
      rcases Int.lt_or_le (a / b) a with z | z
      · have l := Int.emod_lt_of_pos a hb
        have : a / b + 1 ≤ a := by omega
        have m := Int.mul_le_mul_of_nonneg_left this (Int.le_of_lt hb)
        rw [Int.mul_add, Int.mul_one] at m
        have m2 : b * a ≤ a := by
          have := Int.mul_le_mul_of_nonpos_right (show (1 : Int) ≤ b by omega) h
          rw [Int.one_mul] at this; exact this
        omega
      · exact z
    omega
theorem Gf.bl_quo {n d : Nat} (hd : 0 < d) : Gf.bl (Gf.quo n d) ≤ Gf.bl n := by
  by_cases h : Gf.bl d ≤ Gf.bl n
  · obtain ⟨a, b⟩ := Gf.rem_spec (n := n) hd
    rcases Nat.eq_zero_or_pos (Gf.quo n d) with z | z
    · rw [z, Gf.bl_zero]; omega
    · have m := Gf.bl_mul hd z
      have e : Gf.mul d (Gf.quo n d) = n ^^^ Gf.rem n d := by
        conv => rhs; lhs; rw [b]
        rw [Nat.xor_assoc, Nat.xor_self, Nat.xor_zero]
      have l := Gf.bl_xor n (Gf.rem n d) (k := Gf.bl n) (Nat.le_refl _) (by omega)
      rw [← e, m] at l
      have := Gf.bl_pos hd; omega
  · rw [Gf.quo_end (by omega), Gf.bl_zero]; omega
theorem sz_quo {k : Kd} {a b : Int} (oa : Ok k a) (hb : 0 < b) : sz (quoM k a b) ≤ sz a := by
  cases k
  · exact sz_mono (fdiv_abs hb)
  · obtain ⟨x, rfl⟩ := oa.nn
    obtain ⟨y, rfl⟩ := Int.eq_ofNat_of_zero_le (Int.le_of_lt hb)
    exact Gf.bl_quo (by omega)
theorem sz_rem {k : Kd} {a b : Int} (oa : Ok k a) (hb : 0 < b) : sz (remM k a b) ≤ sz b := by
  cases k
  · show sz (if b = 0 then a else a.fmod b) ≤ sz b
    rw [if_neg (by omega), Int.fmod_eq_emod_of_nonneg a (by omega)]
    have h1 := Int.emod_nonneg a (show b ≠ 0 by omega)
    have h2 := Int.emod_lt_of_pos a hb
    exact sz_mono (by omega)
  · obtain ⟨x, rfl⟩ := oa.nn
    obtain ⟨y, rfl⟩ := Int.eq_ofNat_of_zero_le (Int.le_of_lt hb)
    exact Nat.le_of_lt (Gf.rem_spec (n := x) (d := y) (by omega)).1
/-- the quotient and the rest come to the number -/
theorem quo_rem {k : Kd} {a b : Int} (oa : Ok k a) (hb : 0 < b) : plusM k (timesM k b (quoM k a b)) (remM k a b) = a := by
  cases k
  · show b * a.fdiv b + (if b = 0 then a else a.fmod b) = a
    rw [if_neg (by omega), Int.fmod_eq_emod_of_nonneg a (by omega), Int.fdiv_eq_ediv_of_nonneg a (by omega)]
    exact Int.mul_ediv_add_emod a b
  · obtain ⟨x, rfl⟩ := oa.nn
    obtain ⟨y, rfl⟩ := Int.eq_ofNat_of_zero_le (Int.le_of_lt hb)
    have := (Gf.rem_spec (n := x) (d := y) (by omega)).2
    show ((Gf.mul y (Gf.quo x y) ^^^ Gf.rem x y : Nat) : Int) = (x : Int)
    rw [← this]
theorem rem_zero {k : Kd} {a : Int} (oa : Ok k a) : remM k a 0 = a := by
  cases k
  · show (if (0 : Int) = 0 then a else a.fmod 0) = a; rw [if_pos rfl]
  · obtain ⟨x, rfl⟩ := oa.nn
    show ((Gf.rem x 0 : Nat) : Int) = x; rw [Gf.rem_zero]
theorem remH_zero {a b : Int} : remM .H a b = 0 ↔ b ∣ a := by
  show (if b = 0 then a else a.fmod b) = 0 ↔ b ∣ a
  by_cases h : b = 0
  · subst h; rw [if_pos rfl, Int.zero_dvd]
  · rw [if_neg h]; exact Int.dvd_iff_fmod_eq_zero.symm
theorem rem_abs {k : Kd} {a b : Int} (ob : Ok k b) : remM k a (b.natAbs : Int) = 0 ↔ remM k a b = 0 := by
  cases k
  · rw [remH_zero, remH_zero, Int.natAbs_dvd]
  · obtain ⟨y, rfl⟩ := ob.nn
    rfl
theorem rem_negH {a b : Int} : remM .H a (0 - b) = 0 ↔ remM .H a b = 0 := by
  rw [remH_zero, remH_zero, Int.zero_sub, Int.neg_dvd]
end Hr
/-! what divides: greatest divisors and least multiples of a product that cancels -/
structure GM (mul g : Nat → Nat → Nat) : Prop where
  comm : ∀ a b, mul a b = mul b a
  assoc : ∀ a b c, mul (mul a b) c = mul a (mul b c)
  one : ∀ a, mul a 1 = a
  zero : ∀ a, mul a 0 = 0
  cancel : ∀ a b c, 0 < a → mul a b = mul a c → b = c
  gl : ∀ a b, ∃ q, a = mul (g a b) q
  gr : ∀ a b, ∃ q, b = mul (g a b) q
  gg : ∀ a b c, (∃ q, a = mul c q) → (∃ q, b = mul c q) → ∃ q, g a b = mul c q
  anti : ∀ a b, (∃ q, a = mul b q) → (∃ q, b = mul a q) → a = b
  gm : ∀ m a b, g (mul m a) (mul m b) = mul m (g a b)
namespace GM
variable {mul g l : Nat → Nat → Nat}
/-- d has n as a multiple -/
def D (mul : Nat → Nat → Nat) (d n : Nat) : Prop := ∃ q, n = mul d q
theorem refl (M : GM mul g) (a : Nat) : D mul a a := ⟨1, (M.one a).symm⟩
theorem trans (M : GM mul g) {a b c : Nat} : D mul a b → D mul b c → D mul a c := by
  rintro ⟨q, rfl⟩ ⟨p, rfl⟩; exact ⟨mul q p, M.assoc a q p⟩
theorem both (M : GM mul g) {a b c d : Nat} : D mul a b → D mul c d → D mul (mul a c) (mul b d) := by
  rintro ⟨q, rfl⟩ ⟨p, rfl⟩
  refine ⟨mul q p, ?_⟩
  rw [M.assoc a q (mul c p), M.assoc a c (mul q p), ← M.assoc q c p, ← M.assoc c q p, M.comm q c]
theorem zero_right (M : GM mul g) (a : Nat) : D mul a 0 := ⟨0, (M.zero a).symm⟩
theorem of_zero (M : GM mul g) {a : Nat} : D mul 0 a → a = 0 := by
  rintro ⟨q, rfl⟩; rw [M.comm, M.zero]
theorem anti' (M : GM mul g) {a b : Nat} (h1 : D mul a b) (h2 : D mul b a) : a = b := M.anti a b h2 h1
theorem g_comm (M : GM mul g) (a b : Nat) : g a b = g b a := M.anti' (M.gg _ _ _ (M.gr a b) (M.gl a b)) (M.gg _ _ _ (M.gr b a) (M.gl b a))
theorem g_assoc (M : GM mul g) (a b c : Nat) : g (g a b) c = g a (g b c) :=
  M.anti' (M.gg _ _ _ (M.trans (M.gl _ c) (M.gl a b)) (M.gg _ _ _ (M.trans (M.gl _ c) (M.gr a b)) (M.gr _ c)))
    (M.gg _ _ _ (M.gg _ _ _ (M.gl a _) (M.trans (M.gr a _) (M.gl b c))) (M.trans (M.gr a _) (M.gr b c)))
theorem g_zero (M : GM mul g) {a b : Nat} (h : g a b = 0) : a = 0 ∧ b = 0 := by
  have h1 := M.gl a b
  have h2 := M.gr a b
  rw [h] at h1 h2
  exact ⟨M.of_zero h1, M.of_zero h2⟩
/-- least multiples: by the product over the divisor -/
structure LM (mul g l : Nat → Nat → Nat) : Prop where
  prod : ∀ a b, mul (g a b) (l a b) = mul a b
  none : ∀ a b, a = 0 ∨ b = 0 → l a b = 0
theorem pos_of (h : ¬ (a : Nat) = 0) : 0 < a := Nat.pos_of_ne_zero h
theorem l_left (M : GM mul g) (L : LM mul g l) (a b : Nat) : D mul a (l a b) := by
  by_cases h : g a b = 0
  · obtain ⟨ha, hb⟩ := M.g_zero h
    rw [L.none a b (.inl ha)]; exact M.zero_right a
  · obtain ⟨q, hq⟩ := M.gr a b
    refine ⟨q, M.cancel _ _ _ (pos_of h) ?_⟩
    rw [L.prod]
    conv => lhs; rw [hq]
    rw [← M.assoc, ← M.assoc, M.comm a]
theorem l_comm (M : GM mul g) (L : LM mul g l) (a b : Nat) : l a b = l b a := by
  by_cases h : g a b = 0
  · obtain ⟨ha, hb⟩ := M.g_zero h
    rw [L.none a b (.inl ha), L.none b a (.inl hb)]
  · refine M.cancel _ _ _ (pos_of h) ?_
    rw [L.prod, M.g_comm a b, L.prod, M.comm]
theorem l_right (M : GM mul g) (L : LM mul g l) (a b : Nat) : D mul b (l a b) := by rw [M.l_comm L]; exact M.l_left L b a
theorem l_least (M : GM mul g) (L : LM mul g l) {a b m : Nat} (h1 : D mul a m) (h2 : D mul b m) : D mul (l a b) m := by
  by_cases h : g a b = 0
  · obtain ⟨ha, hb⟩ := M.g_zero h
    subst ha
    rw [M.of_zero h1]; exact M.zero_right _
  · have e : D mul (mul a b) (g (mul m a) (mul m b)) := M.gg _ _ _ (by rw [M.comm m a]; exact M.both (M.refl a) h2) (by rw [M.comm a b, M.comm m b]; exact M.both (M.refl b) h1)
    rw [M.gm, ← L.prod] at e
    obtain ⟨q, hq⟩ := e
    refine ⟨q, M.cancel _ _ _ (pos_of h) ?_⟩
    rw [M.comm (g a b) m, hq, M.assoc]
theorem l_assoc (M : GM mul g) (L : LM mul g l) (a b c : Nat) : l (l a b) c = l a (l b c) :=
  M.anti' (M.l_least L (M.l_least L (M.l_left L a _) (M.trans (M.l_left L b c) (M.l_right L a _))) (M.trans (M.l_right L b c) (M.l_right L a _)))
    (M.l_least L (M.trans (M.l_left L a b) (M.l_left L _ c)) (M.l_least L (M.trans (M.l_right L a b) (M.l_left L _ c)) (M.l_right L _ c)))
theorem g_of (M : GM mul g) {a b : Nat} (h : D mul a b) : g a b = a := M.anti' (M.gl a b) (M.gg _ _ _ (M.refl a) h)
theorem l_of (M : GM mul g) (L : LM mul g l) {a b : Nat} (h : D mul b a) : l a b = a := M.anti' (M.l_least L (M.refl a) h) (M.l_left L a b)
/-- divisors go over multiples -/
theorem distr (M : GM mul g) (L : LM mul g l) (a b c : Nat) : g a (l b c) = l (g a b) (g a c) := by
  apply M.anti'
  · by_cases h3 : g (g a b) (g a c) = 0
    · obtain ⟨h1, h2⟩ := M.g_zero h3
      rw [L.none _ _ (.inl h1)]; exact M.zero_right _
    · have da : D mul (g (g a b) (g a c)) a := M.trans (M.gl _ _) (M.gl a b)
      have db : D mul (g (g a b) (g a c)) b := M.trans (M.gl _ _) (M.gr a b)
      have dc : D mul (g (g a b) (g a c)) c := M.trans (M.gr _ _) (M.gr a c)
      have dd : D mul (g (g a b) (g a c)) (g b c) := M.gg _ _ _ db dc
      have xa : D mul (g a (l b c)) a := M.gl _ _
      have xl : D mul (g a (l b c)) (l b c) := M.gr _ _
      have e : mul (g a b) (g a c) = g (g (mul a a) (mul a c)) (g (mul b a) (mul b c)) := by
        rw [M.gm, M.gm, M.comm a (g a c), M.comm b (g a c), M.gm, M.comm]
      have k : D mul (mul (g (g a b) (g a c)) (g a (l b c))) (mul (g a b) (g a c)) := by
        rw [e]
        refine M.gg _ _ _ (M.gg _ _ _ (M.both da xa) ?_) (M.gg _ _ _ (M.both db xa) ?_)
        · rw [M.comm a c]; exact M.both dc xa
        · rw [← L.prod b c]; exact M.both dd xl
      rw [← L.prod (g a b) (g a c)] at k
      obtain ⟨q, hq⟩ := k
      exact ⟨q, M.cancel _ _ _ (pos_of h3) (by rw [hq, M.assoc])⟩
  · refine M.l_least L (M.gg _ _ _ (M.gl a b) (M.trans (M.gr a b) (M.l_left L b c))) (M.gg _ _ _ (M.gl a c) (M.trans (M.gr a c) (M.l_right L b c)))
/-- multiples go over divisors -/
theorem distr' (M : GM mul g) (L : LM mul g l) (a b c : Nat) : l a (g b c) = g (l a b) (l a c) := by
  rw [M.distr L (l a b) a c, M.g_comm (l a b) a, M.g_of (M.l_left L a b), M.g_comm (l a b) c, M.distr L c a b, ← M.l_assoc L, M.l_of L (M.gr c a), M.g_comm c b]
end GM
namespace Hr
/-! ### divisors and multiples of both kinds -/
def mulN : Kd → Nat → Nat → Nat
  | .H, a, b => a * b
  | .B, a, b => Gf.mul a b
def gN : Kd → Nat → Nat → Nat
  | .H, a, b => Nat.gcd a b
  | .B, a, b => Gf.gcd a b
def lN : Kd → Nat → Nat → Nat
  | .H, a, b => Nat.lcm a b
  | .B, a, b => if a = 0 ∨ b = 0 then 0 else Gf.mul a (Gf.quo b (Gf.gcd a b))
theorem gmN : ∀ k : Kd, GM (mulN k) (gN k)
  | .H => {
      comm := Nat.mul_comm
      assoc := Nat.mul_assoc
      one := Nat.mul_one
      zero := Nat.mul_zero
      cancel := fun a b c h e => Nat.eq_of_mul_eq_mul_left h e
      gl := fun a b => Nat.gcd_dvd_left a b
      gr := fun a b => Nat.gcd_dvd_right a b
      gg := fun a b c h1 h2 => Nat.dvd_gcd h1 h2
      anti := fun a b h1 h2 => Nat.dvd_antisymm h2 h1
      gm := fun m a b => Nat.gcd_mul_left m a b }
  | .B => {
      comm := Gf.mul_comm
      assoc := Gf.mul_assoc
      one := Gf.mul_one
      zero := Gf.mul_zero
      cancel := fun a b c h e => Gf.mul_cancel h e
      gl := fun a b => (Gf.gcd_dv a b).1
      gr := fun a b => (Gf.gcd_dv a b).2
      gg := fun a b c h1 h2 => Gf.dv_gcd h1 h2
      anti := fun a b h1 h2 => Gf.Dv.antisymm h2 h1
      gm := Gf.gcd_mul }
theorem lmN : ∀ k : Kd, GM.LM (mulN k) (gN k) (lN k)
  | .H => {
      prod := Nat.gcd_mul_lcm
      none := fun a b h => by
        rcases h with rfl | rfl
        · exact Nat.lcm_zero_left b
        · exact Nat.lcm_zero_right a }
  | .B => {
      prod := fun a b => by
        show Gf.mul (Gf.gcd a b) (if a = 0 ∨ b = 0 then 0 else Gf.mul a (Gf.quo b (Gf.gcd a b))) = Gf.mul a b
        by_cases h : a = 0 ∨ b = 0
        · rw [if_pos h, Gf.mul_zero]
          rcases h with rfl | rfl
          · rw [Gf.zero_mul]
          · rw [Gf.mul_zero]
        · rw [if_neg h]
          have hg : 0 < Gf.gcd a b := by
            rcases Nat.eq_zero_or_pos (Gf.gcd a b) with z | z
            · exact absurd (.inl (Gf.gcd_eq_zero.mp z).1) h
            · exact z
          obtain ⟨q, hq⟩ := (Gf.gcd_dv a b).2
          have e : Gf.quo b (Gf.gcd a b) = q := by
            conv => lhs; arg 1; rw [hq]
            exact (Gf.quo_mul hg).1
          rw [e, ← Gf.mul_assoc, Gf.mul_comm (Gf.gcd a b) a, Gf.mul_assoc, ← hq]
      none := fun a b h => if_pos h }
def gcdM (k : Kd) (a b : Int) : Int := ((gN k a.natAbs b.natAbs : Nat) : Int)
def lcmM (k : Kd) (a b : Int) : Int := ((lN k a.natAbs b.natAbs : Nat) : Int)
theorem ok_gcd {k : Kd} {a b : Int} : Ok k (gcdM k a b) := Ok.of_nat k _
theorem ok_lcm {k : Kd} {a b : Int} : Ok k (lcmM k a b) := Ok.of_nat k _
theorem abs_nat (n : Nat) : ((n : Int)).natAbs = n := rfl
theorem times_abs {k : Kd} {a b : Int} (oa : Ok k a) (ob : Ok k b) : (timesM k a b).natAbs = mulN k a.natAbs b.natAbs := by
  cases k
  · exact Int.natAbs_mul a b
  · obtain ⟨n, rfl⟩ := oa.nn
    obtain ⟨m, rfl⟩ := ob.nn
    rfl
theorem times_nat (k : Kd) (n m : Nat) : timesM k (n : Int) (m : Int) = ((mulN k n m : Nat) : Int) := by cases k <;> rfl
/-! ### dividing by what is not 0 -/
theorem quo_rem' {k : Kd} {a b : Int} (oa : Ok k a) (ob : Ok k b) (hb : b ≠ 0) : plusM k (timesM k b (quoM k a b)) (remM k a b) = a := by
  cases k
  · show b * a.fdiv b + (if b = 0 then a else a.fmod b) = a
    rw [if_neg hb]; exact Int.mul_fdiv_add_fmod a b
  · exact quo_rem oa (by have : 0 ≤ b := ob; omega)
theorem fmod_lo {a b : Int} (hb : b < 0) : b < a.fmod b ∧ a.fmod b ≤ 0 := by
  rw [Int.fmod_eq_emod]
  have h1 := Int.emod_nonneg a (show b ≠ 0 by omega)
  have h2 := Int.emod_lt a (show b ≠ 0 by omega)
  split
  · rename_i h
    rcases h with h | h
    · omega
    · rw [Int.emod_eq_zero_of_dvd h]; omega
  · rename_i h
    have : a % b ≠ 0 := fun z => h (.inr (Int.dvd_of_emod_eq_zero z))
    omega
theorem fmod_hi {a b : Int} (hb : 0 < b) : 0 ≤ a.fmod b ∧ a.fmod b < b := by
  rw [Int.fmod_eq_emod_of_nonneg a (by omega)]
  exact ⟨Int.emod_nonneg a (by omega), Int.emod_lt_of_pos a hb⟩
theorem fdiv_abs' {a b : Int} (hb : b ≠ 0) : (a.fdiv b).natAbs ≤ a.natAbs := by
  rcases Int.lt_or_lt_of_ne hb with h | h
  · have e : a.fdiv b = (-a).fdiv (-b) := by rw [Int.neg_fdiv_neg]
    have := fdiv_abs (a := -a) (b := -b) (by omega)
    rw [e]; omega
  · exact fdiv_abs h
theorem sz_quo' {k : Kd} {a b : Int} (oa : Ok k a) (ob : Ok k b) (hb : b ≠ 0) : sz (quoM k a b) ≤ sz a := by
  cases k
  · exact sz_mono (fdiv_abs' hb)
  · exact sz_quo oa (by have : 0 ≤ b := ob; omega)
/-- what is a product by b is divided without a rest -/
theorem quo_exact {k : Kd} {b u : Int} (ob : Ok k b) (ou : Ok k u) (hb : b ≠ 0) : quoM k (timesM k b u) b = u ∧ remM k (timesM k b u) b = 0 := by
  cases k
  · refine ⟨?_, ?_⟩
    · show (b * u).fdiv b = u
      exact Int.mul_fdiv_cancel_left u hb
    · rw [remH_zero]; exact Int.dvd_mul_right b u
  · obtain ⟨n, rfl⟩ := ob.nn
    obtain ⟨m, rfl⟩ := ou.nn
    have hn : 0 < n := by omega
    obtain ⟨h1, h2⟩ := Gf.quo_mul (q := m) hn
    refine ⟨?_, ?_⟩
    · show ((Gf.quo (Gf.mul n m) n : Nat) : Int) = m; rw [h1]
    · show ((Gf.rem (Gf.mul n m) n : Nat) : Int) = 0; rw [h2]; rfl
/-! ### Euclid's steps -/
def Settled : Kd → Int → Int → Prop
  | .H, c, f => (0 < c ∧ 0 ≤ f ∧ f < c) ∨ (c < 0 ∧ f ≤ 0 ∧ c < f)
  | .B, c, f => sz f < sz c
theorem settle {k : Kd} {c f : Int} (oc : Ok k c) (of : Ok k f) (hf : f ≠ 0) : Settled k f (remM k c f) := by
  cases k
  · show (0 < f ∧ 0 ≤ (if f = 0 then c else c.fmod f) ∧ (if f = 0 then c else c.fmod f) < f) ∨ (f < 0 ∧ (if f = 0 then c else c.fmod f) ≤ 0 ∧ f < (if f = 0 then c else c.fmod f))
    rw [if_neg hf]
    rcases Int.lt_or_lt_of_ne hf with h | h
    · have := fmod_lo (a := c) h; exact .inr ⟨h, this.2, this.1⟩
    · have := fmod_hi (a := c) h; exact .inl ⟨h, this.1, this.2⟩
  · obtain ⟨n, rfl⟩ := oc.nn
    obtain ⟨m, rfl⟩ := of.nn
    exact (Gf.rem_spec (n := n) (d := m) (by omega)).1
theorem half_lt {l c : Int} (h : 2 * l.natAbs < c.natAbs) : sz l + 1 ≤ sz c := by
  have h1 : ¬ sz c ≤ sz l := fun z => by
    have a := sz_le.mp z
    by_cases hl : l = 0
    · subst hl; rw [sz_zero] at a; simp at a; omega
    · have b : 2 ^ (sz l - 1) ≤ l.natAbs := Gf.lt_bl.mp (show sz l - 1 < Gf.bl l.natAbs by
        have := Gf.bl_pos (n := l.natAbs) (by omega)
        show Gf.bl l.natAbs - 1 < Gf.bl l.natAbs; omega)
      have p := Gf.bl_pos (n := l.natAbs) (by omega)
      have e : 2 ^ sz l = 2 * 2 ^ (sz l - 1) := by
        have : sz l = (sz l - 1) + 1 := by show Gf.bl l.natAbs = Gf.bl l.natAbs - 1 + 1; omega
        conv => lhs; rw [this, Nat.pow_succ]
        omega
      omega
  omega
theorem settled_step {k : Kd} {c f : Int} (oc : Ok k c) (of : Ok k f) (h : Settled k c f) (hf : f ≠ 0) : sz (remM k c f) + 1 ≤ sz c := by
  cases k
  · apply half_lt
    show 2 * (if f = 0 then c else c.fmod f).natAbs < c.natAbs
    rw [if_neg hf]
    have e := Int.mul_fdiv_add_fmod c f
    rcases h with ⟨h1, h2, h3⟩ | ⟨h1, h2, h3⟩
    · have b := fmod_hi (a := c) (b := f) (by omega)
      have q : 1 ≤ c.fdiv f := by
        rcases Int.lt_or_le (c.fdiv f) 1 with z | z
        · have := Int.mul_le_mul_of_nonneg_left (show c.fdiv f ≤ 0 by omega) h2
          rw [Int.mul_zero] at this; omega
        · exact z
      have := Int.mul_le_mul_of_nonneg_left q h2
      rw [Int.mul_one] at this; omega
    · have b := fmod_lo (a := c) (b := f) (by omega)
      have q : 1 ≤ c.fdiv f := by
        rcases Int.lt_or_le (c.fdiv f) 1 with z | z
        · have := Int.mul_le_mul_of_nonpos_left h2 (show c.fdiv f ≤ 0 by omega)
          rw [Int.mul_zero] at this; omega
        · exact z
      have := Int.mul_le_mul_of_nonpos_left h2 q
      rw [Int.mul_one] at this; omega
  · obtain ⟨n, rfl⟩ := oc.nn
    obtain ⟨m, rfl⟩ := of.nn
    have := (Gf.rem_spec (n := n) (d := m) (by omega)).1
    have h' : Gf.bl m < Gf.bl n := h
    show Gf.bl (Gf.rem n m) + 1 ≤ Gf.bl n
    omega
theorem gcd_rem {k : Kd} {c f : Int} (oc : Ok k c) (of : Ok k f) (hf : f ≠ 0) : gcdM k f (remM k c f) = gcdM k c f := by
  cases k
  · show ((Nat.gcd f.natAbs (if f = 0 then c else c.fmod f).natAbs : Nat) : Int) = ((Nat.gcd c.natAbs f.natAbs : Nat) : Int)
    rw [if_neg hf]
    congr 1
    have e := Int.mul_fdiv_add_fmod c f
    apply Nat.dvd_antisymm
    · apply Nat.dvd_gcd
      · have h1 : ((Nat.gcd f.natAbs (c.fmod f).natAbs : Nat) : Int) ∣ f := Int.ofNat_dvd_left.mpr (Nat.gcd_dvd_left _ _)
        have h2 : ((Nat.gcd f.natAbs (c.fmod f).natAbs : Nat) : Int) ∣ c.fmod f := Int.ofNat_dvd_left.mpr (Nat.gcd_dvd_right _ _)
        have h3 := Int.dvd_add (Int.dvd_mul_of_dvd_left (b := f) (c := c.fdiv f) h1) h2
        rw [e] at h3
        exact Int.ofNat_dvd_left.mp h3
      · exact Nat.gcd_dvd_left _ _
    · apply Nat.dvd_gcd
      · exact Nat.gcd_dvd_right _ _
      · have h1 : ((Nat.gcd c.natAbs f.natAbs : Nat) : Int) ∣ c := Int.ofNat_dvd_left.mpr (Nat.gcd_dvd_left _ _)
        have h2 : ((Nat.gcd c.natAbs f.natAbs : Nat) : Int) ∣ f := Int.ofNat_dvd_left.mpr (Nat.gcd_dvd_right _ _)
        have h3 := Int.dvd_sub h1 (Int.dvd_mul_of_dvd_left (b := f) (c := c.fdiv f) h2)
        rw [show c - f * c.fdiv f = c.fmod f by omega] at h3
        exact Int.ofNat_dvd_left.mp h3
  · obtain ⟨n, rfl⟩ := oc.nn
    obtain ⟨m, rfl⟩ := of.nn
    show ((Gf.gcd m (Gf.rem n m) : Nat) : Int) = ((Gf.gcd n m : Nat) : Int)
    rw [← Gf.gcd_step (a := n) (b := m) (by omega)]
theorem gcd_end (k : Kd) (c : Int) : gcdM k c 0 = (c.natAbs : Int) := by
  cases k
  · show ((Nat.gcd c.natAbs 0 : Nat) : Int) = _; rw [Nat.gcd_zero_right]
  · show ((Gf.gcd c.natAbs 0 : Nat) : Int) = _; rw [Gf.gcd_zero]
/-- what the factors tell goes on -/
theorem bez_step {k : Kd} {a b c f x u nx v q l : Int} (oa : Ok k a) (ob : Ok k b) (ox : Ok k x) (ou : Ok k u) (on : Ok k nx) (ov : Ok k v) (oq : Ok k q) (ol : Ok k l)
    (hc : plusM k (timesM k a x) (timesM k b u) = c) (hf : plusM k (timesM k a nx) (timesM k b v) = f) (hl : plusM k (timesM k f q) l = c) :
    plusM k (timesM k a (minusM k x (timesM k nx q))) (timesM k b (minusM k u (timesM k v q))) = l := by
  cases k
  · have hc' : a * x + b * u = c := hc
    have hf' : a * nx + b * v = f := hf
    have hl' : f * q + l = c := hl
    show a * (x - nx * q) + b * (u - v * q) = l
    rw [Int.mul_sub, Int.mul_sub, ← Int.mul_assoc, ← Int.mul_assoc]
    have e : f * q = a * nx * q + b * v * q := by rw [← hf', Int.add_mul]
    omega
  · obtain ⟨a, rfl⟩ := oa.nn
    obtain ⟨b, rfl⟩ := ob.nn
    obtain ⟨x, rfl⟩ := ox.nn
    obtain ⟨u, rfl⟩ := ou.nn
    obtain ⟨nx, rfl⟩ := on.nn
    obtain ⟨v, rfl⟩ := ov.nn
    obtain ⟨q, rfl⟩ := oq.nn
    obtain ⟨l, rfl⟩ := ol.nn
    subst hc hf
    have hl' : Gf.mul (Gf.mul a nx ^^^ Gf.mul b v) q ^^^ l = Gf.mul a x ^^^ Gf.mul b u := Int.ofNat.inj hl
    show ((Gf.mul a (x ^^^ Gf.mul nx q) ^^^ Gf.mul b (u ^^^ Gf.mul v q) : Nat) : Int) = (l : Int)
    congr 1
    rw [Gf.mul_xor, Gf.mul_xor, ← Gf.mul_assoc, ← Gf.mul_assoc]
    rw [Gf.xor_mul] at hl'
    have e : Gf.mul a x ^^^ Gf.mul (Gf.mul a nx) q ^^^ (Gf.mul b u ^^^ Gf.mul (Gf.mul b v) q) = (Gf.mul a x ^^^ Gf.mul b u) ^^^ (Gf.mul (Gf.mul a nx) q ^^^ Gf.mul (Gf.mul b v) q) := by ac_rfl
    rw [e, ← hl']
    have e2 : Gf.mul (Gf.mul a nx) q ^^^ Gf.mul (Gf.mul b v) q ^^^ l ^^^ (Gf.mul (Gf.mul a nx) q ^^^ Gf.mul (Gf.mul b v) q) = ((Gf.mul (Gf.mul a nx) q ^^^ Gf.mul (Gf.mul b v) q) ^^^ (Gf.mul (Gf.mul a nx) q ^^^ Gf.mul (Gf.mul b v) q)) ^^^ l := by ac_rfl
    rw [e2, Nat.xor_self, Nat.zero_xor]
end Hr
namespace Hr
open PySem PySem.Spec PyProof.Rows L2 Evl
/-! ### the generator of a law -/
/-- the generator's list stands at a, with at most n turns behind it -/
structure GenAt (H : Hp) (a : Addr) (n : Nat) : Prop where
  ex : ∃ s0 s1 s2 : Int, H a = some (.lst [.int s0, .int s1, .int s2]) ∧ 0 ≤ s0 ∧ sz s0 ≤ 2100 ∧ 0 ≤ s1 ∧ s1 < 2147483647 ∧ 0 ≤ s2 ∧ s2 ≤ n
/-- all but what stands at a is as it was -/
def Keep (a : Addr) (H H' : Hp) : Prop := ∀ c o, H c = some o → c ≠ a → H' c = some o
theorem Keep.refl (a : Addr) (H : Hp) : Keep a H H := fun _ _ h _ => h
theorem Keep.trans {a : Addr} {H H1 H2 : Hp} (x : Keep a H H1) (y : Keep a H1 H2) : Keep a H H2 := fun c o h n => y c o (x c o h n) n
theorem Keep.of {a : Addr} {H H' : Hp} (e : Evl.Ex H H') : Keep a H H' := fun c o h _ => e c o h
theorem Keep.put {a : Addr} {H : Hp} {o : HO} : Keep a H (upd H a o) := fun c u h n => by rw [upd_ne n]; exact h
theorem GenAt.ex_of {H H' : Hp} {a : Addr} {n : Nat} (g : GenAt H a n) (e : Evl.Ex H H') : GenAt H' a n := by
  obtain ⟨s0, s1, s2, h, r⟩ := g.ex
  exact ⟨s0, s1, s2, e _ _ h, r⟩
theorem GenAt.mono {H : Hp} {a : Addr} {n m : Nat} (g : GenAt H a n) (l : n ≤ m) : GenAt H a m := by
  obtain ⟨s0, s1, s2, h, r0, r1, r2, r3, r4, r5⟩ := g.ex
  exact ⟨s0, s1, s2, h, r0, r1, r2, r3, r4, by omega⟩
def spRandom : Sp := fun vs H Q _ => ∃ (a : Addr) (b : Int) (n : Nat), vs = [.ref a, .int b] ∧ GenAt H a n ∧ 0 < b ∧ sz b ≤ 2000 ∧ n ≤ 1000000000 ∧
  ∀ (z : Int) (H' : Hp), 0 ≤ z → z < b → GenAt H' a (n + 100) → Keep a H H' → Q (.int z) H'
/-! ### what a def tells, by data: done, or a draw below b and so on, or nothing is said -/
inductive Tr (α : Type) : Type where
  | done (a : α)
  | draw (b : Int) (k : Int → Tr α)
  | fail
namespace Tr
def bind {α β : Type} : Tr α → (α → Tr β) → Tr β
  | .done a, f => f a
  | .draw b k, f => .draw b fun z => (k z).bind f
  | .fail, _ => .fail
/-- with the draws counted -/
def all {α : Type} (P : α → Nat → Prop) : Tr α → Nat → Prop
  | .done a, n => P a n
  | .draw b k, n => 0 < b ∧ sz b ≤ 2000 ∧ 0 < n ∧ ∀ z, 0 ≤ z → z < b → (k z).all P (n - 1)
  | .fail, _ => False
theorem all_bind {α β : Type} {f : α → Tr β} {P : β → Nat → Prop} : ∀ {t : Tr α} {n : Nat}, (t.bind f).all P n ↔ t.all (fun a m => (f a).all P m) n
  | .done _, _ => Iff.rfl
  | .fail, _ => Iff.rfl
  | .draw b k, n => by
    show (0 < b ∧ sz b ≤ 2000 ∧ 0 < n ∧ ∀ z, 0 ≤ z → z < b → ((k z).bind f).all P (n - 1)) ↔ (0 < b ∧ sz b ≤ 2000 ∧ 0 < n ∧ ∀ z, 0 ≤ z → z < b → (k z).all (fun a m => (f a).all P m) (n - 1))
    constructor
    · rintro ⟨h1, h2, h3, h4⟩; exact ⟨h1, h2, h3, fun z z0 zb => all_bind.mp (h4 z z0 zb)⟩
    · rintro ⟨h1, h2, h3, h4⟩; exact ⟨h1, h2, h3, fun z z0 zb => all_bind.mpr (h4 z z0 zb)⟩
theorem all_mono {α : Type} {P P' : α → Nat → Prop} (h : ∀ a n, P a n → P' a n) : ∀ {t : Tr α} {n : Nat}, t.all P n → t.all P' n
  | .done _, _, q => h _ _ q
  | .fail, _, q => q
  | .draw _ _, _, ⟨h1, h2, h3, h4⟩ => ⟨h1, h2, h3, fun z z0 zb => all_mono h (h4 z z0 zb)⟩
@[simp] theorem bind_done {α β : Type} (a : α) (f : α → Tr β) : (Tr.done a).bind f = f a := rfl
@[simp] theorem bind_fail {α β : Type} (f : α → Tr β) : (Tr.fail : Tr α).bind f = .fail := rfl
@[simp] theorem all_done {α : Type} (P : α → Nat → Prop) (a : α) (n : Nat) : (Tr.done a).all P n = P a n := rfl
theorem bind_assoc {α β γ : Type} (f : α → Tr β) (g : β → Tr γ) : ∀ t : Tr α, (t.bind f).bind g = t.bind fun a => (f a).bind g
  | .done _ => rfl
  | .fail => rfl
  | .draw b k => by
    show Tr.draw b _ = Tr.draw b _
    congr 1; funext z; exact bind_assoc f g (k z)
theorem bind_ok {α : Type} : ∀ t : Tr α, t.bind .done = t
  | .done _ => rfl
  | .fail => rfl
  | .draw b k => by
    show Tr.draw b _ = Tr.draw b _
    congr 1; funext z; exact bind_ok (k z)
end Tr
/-! ### data in a heap -/
/-- a key as data -/
def kD : Key → PyData
  | .inl i => .int i
  | .inr x => .str x
mutual
inductive Db (K : PySem.W.Frag) (F : Hp) : V → PyData → Prop
  | non : Db K F .non .none
  | bl (b : Bool) : Db K F (.bl b) (.bool b)
  | int (i : Int) : Db K F (.int i) (.int i)
  | str (x : Str) : Db K F (.str x) (.str x)
  | lst {a : Addr} {xs : List V} {ds : List PyData} : F a = some (.lst xs) → DbA K F xs ds → Db K F (.ref a) (.list ds)
  | tup {a : Addr} {xs : List V} {ds : List PyData} : SqT K F a xs → DbA K F xs ds → Db K F (.ref a) (.tuple ds)
  | dic {a : Addr} {kvs : List (Key × V)} {ds : List (PyData × PyData)} : F a = some (.dK kvs) → DbD K F kvs ds → Db K F (.ref a) (.dict ds)
  | dit {a : Addr} {kvs : List (List Key × V)} {ds : List (PyData × PyData)} : F a = some (.dT kvs) → DbT K F kvs ds → Db K F (.ref a) (.dict ds)
inductive DbA (K : PySem.W.Frag) (F : Hp) : List V → List PyData → Prop
  | nil : DbA K F [] []
  | cons {v : V} {vs : List V} {d : PyData} {ds : List PyData} : Db K F v d → DbA K F vs ds → DbA K F (v :: vs) (d :: ds)
inductive DbD (K : PySem.W.Frag) (F : Hp) : List (Key × V) → List (PyData × PyData) → Prop
  | nil : DbD K F [] []
  | cons {k : Key} {v : V} {d : PyData} {kvs : List (Key × V)} {ds : List (PyData × PyData)} : Db K F v d → DbD K F kvs ds → DbD K F ((k, v) :: kvs) ((kD k, d) :: ds)
inductive DbT (K : PySem.W.Frag) (F : Hp) : List (List Key × V) → List (PyData × PyData) → Prop
  | nil : DbT K F [] []
  | cons {k : List Key} {v : V} {d : PyData} {kvs : List (List Key × V)} {ds : List (PyData × PyData)} : Db K F v d → DbT K F kvs ds → DbT K F ((k, v) :: kvs) ((.tuple (k.map kD), d) :: ds)
end
section
variable {K : PySem.W.Frag} {F F1 H H1 H2 : Hp}
mutual
theorem db_ex (e : Evl.Ex F F1) : ∀ (d : PyData) (v : V), Db K F v d → Db K F1 v d
  | .none, _, h => by cases h; exact .non
  | .bool _, _, h => by cases h; exact .bl _
  | .int _, _, h => by cases h; exact .int _
  | .str _, _, h => by cases h; exact .str _
  | .list ds, _, h => by
    cases h with
    | lst a b => exact .lst (e _ _ a) (dba_ex e ds _ b)
  | .tuple ds, _, h => by
    cases h with
    | tup a b => exact .tup (ex_t e a) (dba_ex e ds _ b)
  | .dict _, _, h => by
    cases h with
    | dic a b => exact .dic (e _ _ a) (dbd_ex e _ _ b)
    | dit a b => exact .dit (e _ _ a) (dbt_ex e _ _ b)
theorem dba_ex (e : Evl.Ex F F1) : ∀ (ds : List PyData) (vs : List V), DbA K F vs ds → DbA K F1 vs ds
  | [], _, h => by cases h; exact .nil
  | d :: ds, _, h => by
    cases h with
    | cons a b => exact .cons (db_ex e d _ a) (dba_ex e ds _ b)
theorem dbd_ex (e : Evl.Ex F F1) : ∀ (ds : List (PyData × PyData)) (kvs : List (Key × V)), DbD K F kvs ds → DbD K F1 kvs ds
  | [], _, h => by cases h; exact .nil
  | (k, d) :: ds, _, h => by
    cases h with
    | cons a b => exact .cons (db_ex e d _ a) (dbd_ex e ds _ b)
theorem dbt_ex (e : Evl.Ex F F1) : ∀ (ds : List (PyData × PyData)) (kvs : List (List Key × V)), DbT K F kvs ds → DbT K F1 kvs ds
  | [], _, h => by cases h; exact .nil
  | (k, d) :: ds, _, h => by
    cases h with
    | cons a b => exact .cons (db_ex e d _ a) (dbt_ex e ds _ b)
end
theorem dbd_len : ∀ {kvs : List (Key × V)} {ds : List (PyData × PyData)}, DbD K F kvs ds → kvs.length = ds.length
  | _, _, .nil => rfl
  | _, _, .cons _ b => by rw [List.length_cons, List.length_cons, dbd_len b]
theorem dbt_len : ∀ {kvs : List (List Key × V)} {ds : List (PyData × PyData)}, DbT K F kvs ds → kvs.length = ds.length
  | _, _, .nil => rfl
  | _, _, .cons _ b => by rw [List.length_cons, List.length_cons, dbt_len b]
theorem dba_len : ∀ {vs : List V} {ds : List PyData}, DbA K F vs ds → vs.length = ds.length
  | _, _, .nil => rfl
  | _, _, .cons _ b => by rw [List.length_cons, List.length_cons, dba_len b]
theorem dba_at : ∀ {vs : List V} {ds : List PyData}, DbA K F vs ds → ∀ {i : Nat} {x : V}, vs[i]? = some x → ∃ d, ds[i]? = some d ∧ Db K F x d
  | _, _, .nil, i, x, h => by simp at h
  | _, _, .cons a b, 0, x, h => by cases (Option.some.inj h); exact ⟨_, rfl, a⟩
  | _, _, .cons a b, i + 1, x, h => dba_at b (i := i) h
theorem dba_to : ∀ {vs : List V} {ds : List PyData}, DbA K F vs ds → ∀ {i : Nat} {d : PyData}, ds[i]? = some d → ∃ x, vs[i]? = some x ∧ Db K F x d
  | _, _, .nil, i, x, h => by simp at h
  | _, _, .cons a b, 0, x, h => by cases (Option.some.inj h); exact ⟨_, rfl, a⟩
  | _, _, .cons a b, i + 1, x, h => dba_to b (i := i) h
theorem dba_app : ∀ {vs ws : List V} {ds es : List PyData}, DbA K F vs ds → DbA K F ws es → DbA K F (vs ++ ws) (ds ++ es)
  | _, _, _, _, .nil, h => h
  | _, _, _, _, .cons a b, h => .cons a (dba_app b h)
theorem dba_drop : ∀ {vs : List V} {ds : List PyData} (n : Nat), DbA K F vs ds → DbA K F (vs.drop n) (ds.drop n)
  | _, _, 0, h => h
  | _, _, _ + 1, .nil => .nil
  | _, _, n + 1, .cons _ b => dba_drop n b
theorem dba_take : ∀ {vs : List V} {ds : List PyData} (n : Nat), DbA K F vs ds → DbA K F (vs.take n) (ds.take n)
  | _, _, 0, _ => .nil
  | _, _, _ + 1, .nil => .nil
  | _, _, n + 1, .cons a b => .cons a (dba_take n b)
theorem dba_set : ∀ {vs : List V} {ds : List PyData} {x : V} {d : PyData} (n : Nat), DbA K F vs ds → Db K F x d → DbA K F (vs.set n x) (ds.set n d)
  | _, _, _, _, _, .nil, _ => .nil
  | _, _, _, _, 0, .cons _ b, h => .cons h b
  | _, _, _, _, n + 1, .cons a b, h => .cons a (dba_set n b h)
/-- the last step of a reading: what was known stays, but for the generator; F: the heap of what never changes -/
structure Step (a : Option Addr) (F H F' H' : Hp) : Prop where
  kp : ∀ c o, H c = some o → a ≠ some c → H' c = some o
  th : ∀ c, H c ≠ none → H' c ≠ none
  ff : Evl.Ex F F'
  fh : Evl.Ex F' H'
  nw : ∀ c, F c = none → F' c ≠ none → H c = none
variable {a : Option Addr} {F2 : Hp}
theorem Step.refl (h : Evl.Ex F H) : Step a F H F H := ⟨fun _ _ e _ => e, fun _ e => e, Ex.refl F, h, fun _ e n => absurd e n⟩
theorem Step.trans (x : Step a F H F1 H1) (y : Step a F1 H1 F2 H2) : Step a F H F2 H2 where
  kp := fun c o e n => y.kp c o (x.kp c o e n) n
  th := fun c e => y.th c (x.th c e)
  ff := x.ff.trans y.ff
  fh := y.fh
  nw := fun c e n => by
    cases q : F1 c with
    | none =>
      have z := y.nw c q n
      cases r : H c with
      | none => rfl
      | some o => exact absurd z (x.th c (by rw [r]; exact nofun))
    | some o => exact x.nw c e (by rw [q]; exact nofun)
/-- a new thing, at once among what never changes -/
theorem Step.new {p : Addr} {o : HO} (h : Evl.Ex F H) (hp : H p = none) : Step a F H (upd F p o) (upd H p o) where
  kp := fun c u e _ => by rw [upd_ne (ne_of_none e hp)]; exact e
  th := fun c e => by
    by_cases z : c = p
    · subst z; exact absurd hp e
    · rw [upd_ne z]; exact e
  ff := Ex.new (fresh_back h hp)
  fh := fun c u e => by
    by_cases z : c = p
    · subst z; rw [upd_same] at e ⊢; exact e
    · rw [upd_ne z] at e ⊢; exact h c u e
  nw := fun c e n => by
    by_cases z : c = p
    · subst z; exact hp
    · rw [upd_ne z] at n; exact absurd e n
/-- a new thing that may change -/
theorem Step.own {p : Addr} {o : HO} (h : Evl.Ex F H) (hp : H p = none) : Step a F H F (upd H p o) where
  kp := fun c u e _ => by rw [upd_ne (ne_of_none e hp)]; exact e
  th := fun c e => by
    by_cases z : c = p
    · subst z; exact absurd hp e
    · rw [upd_ne z]; exact e
  ff := Ex.refl F
  fh := fun c u e => by rw [upd_ne (ne_of_none (h c u e) hp)]; exact h c u e
  nw := fun c e n => absurd e n
/-- the generator, with n draws to come -/
def GenF (F H : Hp) (p : Addr) (n : Nat) : Prop := F p = none ∧ ∃ m, GenAt H p m ∧ m + 100 * n ≤ 1000000000
structure GenO (a : Option Addr) (F H : Hp) (n : Nat) : Prop where
  nb : n ≤ 9999000
  at_ : ∀ p, a = some p → GenF F H p n
instance {a : Option Addr} {F H : Hp} {n : Nat} : CoeFun (GenO a F H n) fun _ => ∀ p, a = some p → GenF F H p n := ⟨GenO.at_⟩
/-- a list of numbers that nobody changes -/
def ScrP (K : PySem.W.Frag) (a : Option Addr) (H0 H : Hp) (p : Addr) : Prop := ∃ ns : List Int, (L2.Rd H p (.lst (ns.map V.int)) ∧ a ≠ some p ∧ H0 p ≠ none) ∨
  ∃ (o : Obj) (its : Array Value) (n : Nat), K.lookup p = some o ∧ o.cls = .type "list" ∧ o.dict = none ∧ o.data = .seq its n ∧ its.size ≤ sizeLine ∧ L2.Vals (ns.map V.int) its.toList
theorem GenF.there {p : Addr} {n : Nat} (g : GenF F H p n) : H p ≠ none := by
  obtain ⟨_, m, ⟨s0, s1, s2, h, _⟩, _⟩ := g
  rw [h]; exact nofun
theorem GenO.new {n : Nat} {p : Addr} {o : HO} (g : GenO a F H n) (hp : H p = none) : GenO a (upd F p o) (upd H p o) n := ⟨g.nb, fun q e => by
  obtain ⟨h1, m, h2, h3⟩ := g q e
  have ne : q ≠ p := fun z => (g q e).there (z ▸ hp)
  refine ⟨by rw [upd_ne ne]; exact h1, m, ?_, h3⟩
  obtain ⟨s0, s1, s2, h0, r⟩ := h2.ex
  exact ⟨s0, s1, s2, by rw [upd_ne ne]; exact h0, r⟩⟩
theorem GenO.own {n : Nat} {p : Addr} {o : HO} (g : GenO a F H n) (hp : H p = none) : GenO a F (upd H p o) n := ⟨g.nb, fun q e => by
  obtain ⟨h1, m, h2, h3⟩ := g q e
  have ne : q ≠ p := fun z => (g q e).there (z ▸ hp)
  refine ⟨h1, m, ?_, h3⟩
  obtain ⟨s0, s1, s2, h0, r⟩ := h2.ex
  exact ⟨s0, s1, s2, by rw [upd_ne ne]; exact h0, r⟩⟩
theorem ScrP.step {K : PySem.W.Frag} {p : Addr} {H0 F1 H1 : Hp} (h : ScrP K a H0 H p) (x : Step a F H F1 H1) : ScrP K a H0 H1 p := by
  obtain ⟨ns, h | h⟩ := h
  · obtain ⟨h1 | ⟨o, h1⟩, h2⟩ := h
    · exact ⟨ns, .inl ⟨.inl (x.kp _ _ h1 h2.1), h2⟩⟩
    · exact ⟨ns, .inl ⟨.inr ⟨o, x.kp _ _ h1 h2.1⟩, h2⟩⟩
  · exact ⟨ns, .inr h⟩
theorem ScrP.sq {K : PySem.W.Frag} {p : Addr} {H0 : Hp} (h : ScrP K a H0 H p) : ∃ ns : List Int, L2.SqL K H p (ns.map V.int) := by
  obtain ⟨ns, h | h⟩ := h
  · exact ⟨ns, .inl h.1⟩
  · exact ⟨ns, .inr h⟩
end
/-! ### slots -/
inductive Sl where
  | no
  | dat (d : PyData)
  /-- a list that only this name knows -/
  | own (ds : List PyData)
  | gen
  /-- the script -/
  | scr
abbrev Env := List Sl
def RS (K : PySem.W.Frag) (a : Option Addr) (H0 F H : Hp) : Sl → Option V → Prop
  | .no, _ => True
  | .dat d, some v => Db K F v d
  | .own ds, some (.ref p) => F p = none ∧ a ≠ some p ∧ H0 p = none ∧ ∃ xs, H p = some (.lst xs) ∧ DbA K F xs ds
  | .gen, some (.ref p) => a = some p
  | .scr, some (.ref p) => ScrP K a H0 H p
  | _, _ => False
structure R (K : PySem.W.Frag) (a : Option Addr) (H0 F H : Hp) (e : Env) (σ : L2.St) (n : Nat) : Prop where
  fh : Evl.Ex F H
  ga : GenO a F H n
  ln : e.length = σ.length
  sl : ∀ (i : Nat) (s : Sl), e[i]? = some s → ∃ ov, σ[i]? = some ov ∧ RS K a H0 F H s ov
  ds : ∀ (i j : Nat) (p : Addr) (xs ys : List PyData), e[i]? = some (.own xs) → e[j]? = some (.own ys) → σ[i]? = some (some (.ref p)) → σ[j]? = some (some (.ref p)) → i = j
section
variable {K : PySem.W.Frag} {a : Option Addr} {H0 F H F1 H1 : Hp} {e : Env} {σ : L2.St} {n m : Nat}
theorem RS.step {s : Sl} {ov : Option V} (x : Step a F H F1 H1) (h : RS K a H0 F H s ov) : RS K a H0 F1 H1 s ov := by
  cases s with
  | no => exact True.intro
  | dat d =>
    cases ov with
    | none => exact h
    | some v => exact db_ex x.ff d v h
  | own ds =>
    cases ov with
    | none => exact h
    | some v =>
      cases v with
      | ref p =>
        obtain ⟨h1, h2, h3, xs, h4, h5⟩ := h
        refine ⟨?_, h2, h3, xs, x.kp _ _ h4 h2, dba_ex x.ff _ _ h5⟩
        cases q : F1 p with
        | none => rfl
        | some o =>
          have z := x.nw p h1 (by rw [q]; exact nofun)
          rw [h4] at z; cases z
      | _ => exact h
  | gen =>
    cases ov with
    | none => exact h
    | some v => cases v <;> exact h
  | scr =>
    cases ov with
    | none => exact h
    | some v =>
      cases v with
      | ref p => exact ScrP.step h x
      | _ => exact h
theorem R.step (r : R K a H0 F H e σ n) (x : Step a F H F1 H1) (g : GenO a F1 H1 m) : R K a H0 F1 H1 e σ m where
  fh := x.fh
  ga := g
  ln := r.ln
  sl := fun i s h => by
    obtain ⟨ov, h1, h2⟩ := r.sl i s h
    exact ⟨ov, h1, h2.step x⟩
  ds := r.ds
/-- a slot is set to data -/
theorem R.put {i : Nat} {v : V} {d : PyData} (r : R K a H0 F H e σ n) (h : Db K F v d) : R K a H0 F H (e.set i (.dat d)) (σ.set i (some v)) n where
  fh := r.fh
  ga := r.ga
  ln := by rw [List.length_set, List.length_set]; exact r.ln
  sl := fun j s hj => by
    rw [List.getElem?_set] at hj ⊢
    by_cases e1 : i = j
    · subst e1
      rw [if_pos rfl] at hj ⊢
      by_cases l : i < e.length
      · rw [if_pos l] at hj
        rw [if_pos (by rw [← r.ln]; exact l)]
        cases hj
        exact ⟨_, rfl, h⟩
      · rw [if_neg l] at hj; cases hj
    · rw [if_neg e1] at hj ⊢
      exact r.sl j s hj
  ds := fun j k p xs ys h1 h2 h3 h4 => by
    rw [List.getElem?_set] at h1 h2 h3 h4
    by_cases e1 : i = j
    · subst e1
      rw [if_pos rfl] at h1
      split at h1 <;> cases h1
    · by_cases e2 : i = k
      · subst e2
        rw [if_pos rfl] at h2
        split at h2 <;> cases h2
      · rw [if_neg e1] at h1 h3; rw [if_neg e2] at h2 h4
        exact r.ds j k p xs ys h1 h2 h3 h4
/-- a slot is forgotten, whatever it holds -/
theorem R.no {i : Nat} {ov : Option V} (r : R K a H0 F H e σ n) : R K a H0 F H (e.set i .no) (σ.set i ov) n where
  fh := r.fh
  ga := r.ga
  ln := by rw [List.length_set, List.length_set]; exact r.ln
  sl := fun j s hj => by
    rw [List.getElem?_set] at hj ⊢
    by_cases e1 : i = j
    · subst e1
      rw [if_pos rfl] at hj ⊢
      by_cases l : i < e.length
      · rw [if_pos l] at hj
        rw [if_pos (by rw [← r.ln]; exact l)]
        cases hj
        exact ⟨_, rfl, True.intro⟩
      · rw [if_neg l] at hj; cases hj
    · rw [if_neg e1] at hj ⊢
      exact r.sl j s hj
  ds := fun j k p xs ys h1 h2 h3 h4 => by
    rw [List.getElem?_set] at h1 h2 h3 h4
    by_cases e1 : i = j
    · subst e1
      rw [if_pos rfl] at h1
      split at h1 <;> cases h1
    · by_cases e2 : i = k
      · subst e2
        rw [if_pos rfl] at h2
        split at h2 <;> cases h2
      · rw [if_neg e1] at h1 h3; rw [if_neg e2] at h2 h4
        exact r.ds j k p xs ys h1 h2 h3 h4
/-- a slot is set to a list of its own -/
theorem R.putOwn {i : Nat} {p : Addr} {xs : List V} {ds : List PyData} (r : R K a H0 F H e σ n) (hp : H p = some (.lst xs)) (hf : F p = none) (h0 : H0 p = none) (ha : a ≠ some p) (h : DbA K F xs ds)
    (hn : ∀ (j : Nat) (ys : List PyData), j ≠ i → e[j]? = some (.own ys) → σ[j]? ≠ some (some (.ref p))) : R K a H0 F H (e.set i (.own ds)) (σ.set i (some (.ref p))) n where
  fh := r.fh
  ga := r.ga
  ln := by rw [List.length_set, List.length_set]; exact r.ln
  sl := fun j s hj => by
    rw [List.getElem?_set] at hj ⊢
    by_cases e1 : i = j
    · subst e1
      rw [if_pos rfl] at hj ⊢
      by_cases l : i < e.length
      · rw [if_pos l] at hj
        rw [if_pos (by rw [← r.ln]; exact l)]
        cases hj
        exact ⟨_, rfl, hf, ha, h0, xs, hp, h⟩
      · rw [if_neg l] at hj; cases hj
    · rw [if_neg e1] at hj ⊢
      exact r.sl j s hj
  ds := fun j k q xs' ys h1 h2 h3 h4 => by
    rw [List.getElem?_set] at h1 h2 h3 h4
    by_cases e1 : i = j
    · by_cases e2 : i = k
      · omega
      · rw [if_neg e2] at h2 h4
        subst e1
        rw [if_pos rfl] at h3
        split at h3
        · cases h3
          exact absurd h4 (hn k ys (fun z => e2 z.symm) h2)
        · cases h3
    · rw [if_neg e1] at h1 h3
      by_cases e2 : i = k
      · subst e2
        rw [if_pos rfl] at h4
        split at h4
        · cases h4
          exact absurd h3 (hn j xs' (fun z => e1 z.symm) h1)
        · cases h4
      · rw [if_neg e2] at h2 h4
        exact r.ds j k q xs' ys h1 h2 h3 h4
theorem R.dat {i : Nat} {d : PyData} (r : R K a H0 F H e σ n) (h : e[i]? = some (.dat d)) : ∃ v, σ[i]? = some (some v) ∧ Db K F v d := by
  obtain ⟨ov, h1, h2⟩ := r.sl i _ h
  cases ov with
  | none => exact h2.elim
  | some v => exact ⟨v, h1, h2⟩
theorem R.own {i : Nat} {ds : List PyData} (r : R K a H0 F H e σ n) (h : e[i]? = some (.own ds)) : ∃ p xs, σ[i]? = some (some (.ref p)) ∧ F p = none ∧ a ≠ some p ∧ H0 p = none ∧ H p = some (.lst xs) ∧ DbA K F xs ds := by
  obtain ⟨ov, h1, h2⟩ := r.sl i _ h
  cases ov with
  | none => exact h2.elim
  | some v =>
    cases v with
    | ref p =>
      obtain ⟨h3, h4, h5, xs, h6, h7⟩ := h2
      exact ⟨p, xs, h1, h3, h4, h5, h6, h7⟩
    | _ => exact h2.elim
theorem R.gen {i : Nat} (r : R K a H0 F H e σ n) (h : e[i]? = some .gen) : ∃ p, σ[i]? = some (some (.ref p)) ∧ a = some p := by
  obtain ⟨ov, h1, h2⟩ := r.sl i _ h
  cases ov with
  | none => exact h2.elim
  | some v =>
    cases v with
    | ref p => exact ⟨p, h1, h2⟩
    | _ => exact h2.elim
end
/-! ### readings -/
/-- what is wanted of a value -/
def Pst (K : PySem.W.Frag) (a : Option Addr) (F H : Hp) (Q : VK) : PyData → Nat → Prop := fun d m => ∀ v F' H', Step a F H F' H' → GenO a F' H' m → Db K F' v d → Q v H'
def EM (K : PySem.W.Frag) (te : TE) (m : Env → Tr PyData) : Prop := ∀ a H0 F H e σ n Q, R K a H0 F H e σ n → (m e).all (Pst K a F H Q) n → te σ H Q
def TM (K : PySem.W.Frag) (tt : TT) (m : Env → Tr Bool) : Prop := ∀ a H0 F H e σ n (Q : Bool → Hp → Prop), R K a H0 F H e σ n → (m e).all (fun b k => ∀ F' H', Step a F H F' H' → GenO a F' H' k → Q b H') n → tt σ H Q
/-- arguments -/
inductive RA (K : PySem.W.Frag) (a : Option Addr) (F : Hp) : List Sl → List V → Prop
  | nil : RA K a F [] []
  | dat {d : PyData} {v : V} {es : List Sl} {vs : List V} : Db K F v d → RA K a F es vs → RA K a F (.dat d :: es) (v :: vs)
  | gen {p : Addr} {es : List Sl} {vs : List V} : a = some p → RA K a F es vs → RA K a F (.gen :: es) (.ref p :: vs)
def AM (K : PySem.W.Frag) (ta : TA) (m : Env → Tr (List Sl)) : Prop := ∀ a H0 F H e σ n (Q : List V → Hp → Prop), R K a H0 F H e σ n →
  (m e).all (fun ds k => ∀ vs F' H', Step a F H F' H' → GenO a F' H' k → RA K a F' ds vs → Q vs H') n → ta σ H Q
/-- a new list, its items -/
def EL (K : PySem.W.Frag) (te : TE) (m : Env → Tr (List PyData)) : Prop := ∀ a H0 F H e σ n Q, R K a H0 F H e σ n →
  (m e).all (fun ds k => ∀ p xs F' H', Step a F H F' H' → GenO a F' H' k → H p = none → F' p = none → H' p = some (.lst xs) → DbA K F' xs ds → Q (.ref p) H') n → te σ H Q
section
variable {K : PySem.W.Frag} {a : Option Addr} {F F1 H0 H H1 : Hp} {n m : Nat} {Q : VK} {te ta tb tc : TE} {tt : TT} {ma mb mc me : Env → Tr PyData}
theorem RA.ex (x : Evl.Ex F F1) : ∀ {es : List Sl} {vs : List V}, RA K a F es vs → RA K a F1 es vs
  | _, _, .nil => .nil
  | _, _, .dat h t => .dat (db_ex x _ _ h) (RA.ex x t)
  | _, _, .gen h t => .gen h (RA.ex x t)
theorem Pst.go {d : PyData} (q : Pst K a F H Q d m) (x : Step a F H F1 H1) : Pst K a F1 H1 Q d m := fun v F' H' y g h => q v F' H' (x.trans y) g h
def rd (i : Nat) (e : Env) : Tr PyData := match e[i]? with | some (.dat d) => .done d | _ => .fail
theorem em_var (i : Nat) : EM K (tVar i) (rd i) := fun a H0 F H e σ n Q r h => by
  unfold rd at h
  cases q : e[i]? with
  | none => rw [q] at h; exact h.elim
  | some s =>
    cases s with
    | dat d =>
      rw [q] at h
      obtain ⟨v, h1, h2⟩ := r.dat q
      exact ⟨v, h1, h v F H (Step.refl r.fh) r.ga h2⟩
    | _ => rw [q] at h; exact h.elim
theorem em_c {v : V} {d : PyData} (h : ∀ F, Db K F v d) : EM K (tC v) (fun _ => .done d) := fun a H0 F H e σ n Q r q => q v F H (Step.refl r.fh) r.ga (h F)
theorem em_int (i : Int) : EM K (tC (.int i)) (fun _ => .done (.int i)) := em_c fun _ => .int i
theorem em_bl (i : Bool) : EM K (tC (.bl i)) (fun _ => .done (.bool i)) := em_c fun _ => .bl i
theorem em_str (i : Str) : EM K (tC (.str i)) (fun _ => .done (.str i)) := em_c fun _ => .str i
theorem em_non : EM K (tC .non) (fun _ => .done .none) := em_c fun _ => .non
/-- two-place operations -/
def P2 (K : PySem.W.Frag) (r : R2) (g : PyData → PyData → Tr PyData) : Prop := ∀ a F H n x y dx dy Q, Evl.Ex F H → GenO a F H n → Db K F x dx → Db K F y dy → (g dx dy).all (Pst K a F H Q) n → r x y H Q
def P1 (K : PySem.W.Frag) (r : V → Hp → VK → Prop) (g : PyData → Tr PyData) : Prop := ∀ a F H n x dx Q, Evl.Ex F H → GenO a F H n → Db K F x dx → (g dx).all (Pst K a F H Q) n → r x H Q
theorem em_op {r : R2} {g : PyData → PyData → Tr PyData} (hr : P2 K r g) (ha : EM K ta ma) (hb : EM K tb mb) : EM K (tOp r ta tb) (fun e => (ma e).bind fun x => (mb e).bind fun y => g x y) :=
  fun a H0 F H e σ n Q r0 h => ha a H0 F H e σ n _ r0 (Tr.all_mono (fun x k hx v F1 H1 x1 g1 d1 => by
    refine hb a H0 F1 H1 e σ k _ (r0.step x1 g1) (Tr.all_mono (fun y k2 hy u F2 H2 x2 g2 d2 => ?_) (Tr.all_bind.mp hx))
    exact hr a F2 H2 k2 v u x y Q x2.fh g2 (db_ex x2.ff _ _ d1) d2 (Tr.all_mono (fun z k3 hz => Pst.go (Pst.go hz x1) x2) hy)) (Tr.all_bind.mp h))
theorem em_un {r : V → Hp → VK → Prop} {g : PyData → Tr PyData} (hr : P1 K r g) (ha : EM K ta ma) : EM K (tUn r ta) (fun e => (ma e).bind g) :=
  fun a H0 F H e σ n Q r0 h => ha a H0 F H e σ n _ r0 (Tr.all_mono (fun x k hx v F1 H1 x1 g1 d1 => hr a F1 H1 k v x Q x1.fh g1 d1 (Tr.all_mono (fun z k3 hz => Pst.go hz x1) hx)) (Tr.all_bind.mp h))
/-- an operation on values alone -/
theorem P2.of {r : R2} {g : PyData → PyData → Tr PyData} (h : ∀ (F H : Hp) x y dx dy, Evl.Ex F H → Db K F x dx → Db K F y dy → (g dx dy = .fail ∨ ∃ z v, g dx dy = .done z ∧ Db K F v z ∧ ∀ Q : VK, Q v H → r x y H Q)) : P2 K r g :=
  fun a F H n x y dx dy Q ex g0 hx hy q => by
    rcases h F H x y dx dy ex hx hy with z | ⟨z, v, e, hv, hr⟩
    · rw [z] at q; exact q.elim
    · rw [e] at q; exact hr Q (q v F H (Step.refl ex) g0 hv)
theorem P1.of {r : V → Hp → VK → Prop} {g : PyData → Tr PyData} (h : ∀ (F H : Hp) x dx, Evl.Ex F H → Db K F x dx → (g dx = .fail ∨ ∃ z v, g dx = .done z ∧ Db K F v z ∧ ∀ Q : VK, Q v H → r x H Q)) : P1 K r g :=
  fun a F H n x dx Q ex g0 hx q => by
    rcases h F H x dx ex hx with z | ⟨z, v, e, hv, hr⟩
    · rw [z] at q; exact q.elim
    · rw [e] at q; exact hr Q (q v F H (Step.refl ex) g0 hv)
/-! tests -/
def tobool : PyData → Tr Bool
  | .bool b => .done b
  | _ => .fail
theorem tm_B (h : EM K te me) : TM K (tB te) (fun e => (me e).bind tobool) := fun a H0 F H e σ n Q r q => h a H0 F H e σ n _ r (Tr.all_mono (fun d k hd v F1 H1 x g hv => by
  cases hv with
  | bl b => exact ⟨b, rfl, hd F1 H1 x g⟩
  | _ => exact hd.elim) (Tr.all_bind.mp q))
theorem tm_test (h : EM K te me) : TM K (tTest te) (fun e => (me e).bind tobool) := tm_B h
theorem tm_chain {t : TE} (h : EM K t me) : TM K (fun σ H Q => t σ H fun x H' => ∃ k, x = .bl k ∧ Q k H') (fun e => (me e).bind tobool) := tm_B h
def truth : PyData → Tr Bool
  | .none => .done false
  | .bool b => .done b
  | .int i => .done (i != 0)
  | .str s => if s.length ≤ 100000 then .done ((s.length : Int) != 0) else .fail
  | .list xs => .done (!xs.isEmpty)
  | .tuple xs => .done (!xs.isEmpty)
  | .dict _ => .fail
theorem empty_len {α β : Type} {xs : List α} {ys : List β} (h : xs.length = ys.length) : xs.isEmpty = ys.isEmpty := by
  cases xs <;> cases ys <;> first | rfl | cases h
theorem tru_db {x : V} {d : PyData} {b : Bool} (ex : Evl.Ex F H) (h : Db K F x d) (ht : truth d = .done b) : TruV K x H b := by
  cases h with
  | non => cases ht; rfl
  | bl b => cases ht; rfl
  | int i => cases ht; rfl
  | str s =>
    have ht' : (if s.length ≤ 100000 then Tr.done ((s.length : Int) != 0) else Tr.fail) = Tr.done b := ht
    split at ht'
    · rename_i hl
      cases ht'; exact ⟨sz_of hl, rfl⟩
    · cases ht'
  | lst a b => cases ht; exact .inl ⟨_, sq_of (ex _ _ a), by rw [empty_len (dba_len b)]⟩
  | tup a b => cases ht; exact .inr (.inl ⟨_, ex_t ex a, by rw [empty_len (dba_len b)]⟩)
  | dic a b => cases ht
  | dit a b => cases ht
theorem truth_draw (d : PyData) : truth d = .fail ∨ ∃ b, truth d = .done b := by
  cases d <;> first | exact .inr ⟨_, rfl⟩ | exact .inl rfl | skip
  rename_i s
  show (if s.length ≤ 100000 then Tr.done ((s.length : Int) != 0) else Tr.fail) = .fail ∨ ∃ b, (if s.length ≤ 100000 then Tr.done ((s.length : Int) != 0) else Tr.fail) = .done b
  split
  · exact .inr ⟨_, rfl⟩
  · exact .inl rfl
theorem tm_truth (h : EM K te me) : TM K (fun σ H Q => te σ H fun x H' => ∃ k, TruV K x H' k ∧ Q k H') (fun e => (me e).bind truth) := fun a H0 F H e σ n Q r q => h a H0 F H e σ n _ r (Tr.all_mono (fun d k hd v F1 H1 x g hv => by
  rcases truth_draw d with z | ⟨b, z⟩
  · rw [z] at hd; exact hd.elim
  · rw [z] at hd; exact ⟨b, tru_db x.fh hv z, hd F1 H1 x g⟩) (Tr.all_bind.mp q))
@[simp, reducible] def iteK {α : Type} (m1 m2 : Env → Tr α) (e : Env) (b : Bool) : Tr α := if b = true then m1 e else m2 e
def tmIte {α : Type} (mt : Env → Tr Bool) (m1 m2 : Env → Tr α) (e : Env) : Tr α := (mt e).bind (iteK m1 m2 e)
section
variable {t u : TT} {mt mu : Env → Tr Bool}
theorem tm_not (h : TM K t mt) : TM K (tNot t) (fun e => (mt e).bind fun b => .done (!b)) := fun a H0 F H e σ n Q r q => h a H0 F H e σ n _ r (Tr.all_mono (fun b k hb F1 H1 x g => hb F1 H1 x g) (Tr.all_bind.mp q))
theorem tm_and (h : TM K t mt) (h2 : TM K u mu) : TM K (tAnd t u) (fun e => (mt e).bind fun b => if b = true then mu e else .done false) := fun a H0 F H e σ n Q r q => h a H0 F H e σ n _ r (Tr.all_mono (fun b k hb F1 H1 x g => by
  cases b with
  | true => exact h2 a H0 F1 H1 e σ k Q (r.step x g) (Tr.all_mono (fun b k hb F2 H2 y g2 => hb F2 H2 (x.trans y) g2) hb)
  | false => exact hb F1 H1 x g) (Tr.all_bind.mp q))
theorem tm_or (h : TM K t mt) (h2 : TM K u mu) : TM K (tOr t u) (fun e => (mt e).bind fun b => if b = true then .done true else mu e) := fun a H0 F H e σ n Q r q => h a H0 F H e σ n _ r (Tr.all_mono (fun b k hb F1 H1 x g => by
  cases b with
  | false => exact h2 a H0 F1 H1 e σ k Q (r.step x g) (Tr.all_mono (fun b k hb F2 H2 y g2 => hb F2 H2 (x.trans y) g2) hb)
  | true => exact hb F1 H1 x g) (Tr.all_bind.mp q))
theorem em_andV (ha : EM K ta ma) (hb : EM K tb mb) : EM K (tAndV ta tb) (fun e => (ma e).bind fun x => (tobool x).bind fun b => if b = true then mb e else .done (.bool false)) :=
  fun a H0 F H e σ n Q r q => ha a H0 F H e σ n _ r (Tr.all_mono (fun d k hd v F1 H1 x g hv => by
    cases hv with
    | bl b =>
      refine ⟨b, rfl, ?_⟩
      cases b with
      | true => exact hb a H0 F1 H1 e σ k Q (r.step x g) (Tr.all_mono (fun z k3 hz => Pst.go hz x) hd)
      | false => exact hd _ F1 H1 x g (.bl false)
    | _ => exact hd.elim) (Tr.all_bind.mp q))
theorem em_orV (ha : EM K ta ma) (hb : EM K tb mb) : EM K (tOrV ta tb) (fun e => (ma e).bind fun x => (tobool x).bind fun b => if b = true then .done (.bool true) else mb e) :=
  fun a H0 F H e σ n Q r q => ha a H0 F H e σ n _ r (Tr.all_mono (fun d k hd v F1 H1 x g hv => by
    cases hv with
    | bl b =>
      refine ⟨b, rfl, ?_⟩
      cases b with
      | false => exact hb a H0 F1 H1 e σ k Q (r.step x g) (Tr.all_mono (fun z k3 hz => Pst.go hz x) hd)
      | true => exact hd _ F1 H1 x g (.bl true)
    | _ => exact hd.elim) (Tr.all_bind.mp q))
theorem em_notV (ha : EM K ta ma) : EM K (tNotV ta) (fun e => (ma e).bind fun x => (tobool x).bind fun b => .done (.bool (!b))) :=
  fun a H0 F H e σ n Q r q => ha a H0 F H e σ n _ r (Tr.all_mono (fun d k hd v F1 H1 x g hv => by
    cases hv with
    | bl b => exact ⟨b, rfl, hd _ F1 H1 x g (.bl _)⟩
    | _ => exact hd.elim) (Tr.all_bind.mp q))
theorem em_if (h : TM K t mt) (ha : EM K ta ma) (hb : EM K tb mb) : EM K (tIf t ta tb) (tmIte mt ma mb) := fun a H0 F H e σ n Q r q => h a H0 F H e σ n _ r (Tr.all_mono (fun b k hb' F1 H1 x g => by
  cases b with
  | true => exact ha a H0 F1 H1 e σ k Q (r.step x g) (Tr.all_mono (fun z k3 hz => Pst.go hz x) hb')
  | false => exact hb a H0 F1 H1 e σ k Q (r.step x g) (Tr.all_mono (fun z k3 hz => Pst.go hz x) hb')) (Tr.all_bind.mp q))
end
/-! arguments, calls -/
theorem am_nil : AM K tNil (fun _ => .done []) := fun a H0 F H e σ n Q r q => q [] F H (Step.refl r.fh) r.ga .nil
theorem am_cons {tr : TA} {mr : Env → Tr (List Sl)} (h : EM K te me) (hr : AM K tr mr) : AM K (tCons te tr) (fun e => (me e).bind fun d => (mr e).bind fun ds => .done (.dat d :: ds)) :=
  fun a H0 F H e σ n Q r q => h a H0 F H e σ n _ r (Tr.all_mono (fun d k hd v F1 H1 x g hv => hr a H0 F1 H1 e σ k _ (r.step x g) (Tr.all_mono (fun ds k2 hds vs F2 H2 y g2 hvs =>
    hds (v :: vs) F2 H2 (x.trans y) g2 (.dat (db_ex y.ff _ _ hv) hvs)) (Tr.all_bind.mp hd))) (Tr.all_bind.mp q))
def rdGen (i : Nat) (e : Env) : Tr Unit := match e[i]? with | some .gen => .done () | _ => .fail
theorem am_gen (i : Nat) {tr : TA} {mr : Env → Tr (List Sl)} (hr : AM K tr mr) : AM K (tCons (tVar i) tr) (fun e => (rdGen i e).bind fun _ => (mr e).bind fun ds => .done (.gen :: ds)) :=
  fun a H0 F H e σ n Q r q => by
    unfold rdGen at q
    dsimp only at q
    cases z : e[i]? with
    | none => rw [z] at q; exact q.elim
    | some s =>
      cases s with
      | gen =>
        rw [z] at q
        obtain ⟨p, h1, h2⟩ := r.gen z
        refine ⟨_, h1, hr a H0 F H e σ n _ r (Tr.all_mono (fun ds k hds vs F1 H1 x g hvs => ?_) (Tr.all_bind.mp q))⟩
        exact hds (V.ref p :: vs) F1 H1 x g (.gen h2 hvs)
      | _ => rw [z] at q; exact q.elim
/-- a built-in -/
def PC (K : PySem.W.Frag) (r : List V → Hp → VK → Prop) (g : List Sl → Tr PyData) : Prop := ∀ a F H n es vs Q, Evl.Ex F H → GenO a F H n → RA K a F es vs → (g es).all (Pst K a F H Q) n → r vs H Q
theorem em_cb {r : List V → Hp → VK → Prop} {g : List Sl → Tr PyData} {tr : TA} {mr : Env → Tr (List Sl)} (hr : PC K r g) (ha : AM K tr mr) : EM K (tCB r tr) (fun e => (mr e).bind g) :=
  fun a H0 F H e σ n Q r0 q => ha a H0 F H e σ n _ r0 (Tr.all_mono (fun ds k hds vs F1 H1 x g1 hvs => hr a F1 H1 k ds vs Q x.fh g1 hvs (Tr.all_mono (fun z k3 hz => Pst.go hz x) hds)) (Tr.all_bind.mp q))
/-- a def's promise by its mirror -/
def spM (K : PySem.W.Frag) (g : List Sl → Tr PyData) (k : Nat) : Sp := fun vs H Q _ => vs.length = k ∧ ∃ a F n es, Evl.Ex F H ∧ GenO a F H n ∧ RA K a F es vs ∧ (g es).all (Pst K a F H Q) n
theorem RA.len : ∀ {es : List Sl} {vs : List V}, RA K a F es vs → es.length = vs.length
  | _, _, .nil => rfl
  | _, _, .dat _ t => congrArg Nat.succ (RA.len t)
  | _, _, .gen _ t => congrArg Nat.succ (RA.len t)
def lenIs (j : Nat) (g : List Sl → Tr PyData) (es : List Sl) : Tr PyData := if es.length = j then g es else .fail
theorem em_fn {g : List Sl → Tr PyData} {j : Nat} {E : XK} {tr : TA} {mr : Env → Tr (List Sl)} (ha : AM K tr mr) : EM K (tCall (spM K g j) [] E tr) (fun e => (mr e).bind (lenIs j g)) :=
  fun a H0 F H e σ n Q r0 q => ha a H0 F H e σ n _ r0 (Tr.all_mono (fun ds k hds vs F1 H1 x g1 hvs => by
    unfold lenIs at hds
    split at hds
    · rename_i hl
      refine ⟨?_, a, F1, k, ds, x.fh, g1, ?_, Tr.all_mono (fun z k3 hz => Pst.go hz x) hds⟩
      · rw [List.append_nil, ← hvs.len]; exact hl
      · rw [List.append_nil]; exact hvs
    · exact hds.elim) (Tr.all_bind.mp q))
/-! new tuples, new lists -/
def dats : List Sl → Tr (List PyData)
  | [] => .done []
  | .dat d :: r => (dats r).bind fun ds => .done (d :: ds)
  | _ :: _ => .fail
theorem dats_ra : ∀ {es : List Sl} {vs : List V} {ds : List PyData}, RA K a F es vs → dats es = .done ds → DbA K F vs ds
  | _, _, _, .nil, h => by cases h; exact .nil
  | _, _, _, .dat h t, e => by
    unfold dats at e
    rename_i es vs
    cases q : dats es with
    | done z => rw [q] at e; cases e; exact .cons h (dats_ra t q)
    | fail => rw [q] at e; cases e
    | draw b k => rw [q] at e; cases e
  | _, _, _, .gen _ _, e => by cases e
theorem dats_draw : ∀ es : List Sl, dats es = .fail ∨ ∃ ds, dats es = .done ds
  | [] => .inr ⟨[], rfl⟩
  | .dat d :: r => by
    rcases dats_draw r with h | ⟨ds, h⟩
    · exact .inl (by unfold dats; rw [h]; rfl)
    · exact .inr ⟨d :: ds, by unfold dats; rw [h]; rfl⟩
  | .no :: _ => .inl rfl
  | .own _ :: _ => .inl rfl
  | .gen :: _ => .inl rfl
  | .scr :: _ => .inl rfl
def few {α : Type} (f : List PyData → α) (ds : List PyData) : Tr α := if ds.length ≤ 100000 then .done (f ds) else .fail
theorem el_lst {tr : TA} {mr : Env → Tr (List Sl)} (ha : AM K tr mr) : EL K (tLst tr) (fun e => (mr e).bind fun es => (dats es).bind (few id)) :=
  fun a H0 F H e σ n Q r0 q => ha a H0 F H e σ n _ r0 (Tr.all_mono (fun es k hds vs F1 H1 x g1 hvs => by
    rcases dats_draw es with z | ⟨ds, z⟩
    · rw [z] at hds; exact hds.elim
    · rw [z] at hds
      have hd := dats_ra hvs z
      unfold few at hds
      simp only [Tr.bind_done] at hds
      split at hds
      · rename_i hl
        refine ⟨sz_of (by rw [dba_len hd]; exact hl), fun p hp => ?_⟩
        have f1 : F1 p = none := fresh_back x.fh hp
        refine hds p vs F1 (upd H1 p (.lst vs)) (x.trans (Step.own x.fh hp)) (g1.own hp) ?_ f1 upd_same hd
        cases q : H p with
        | none => rfl
        | some o => exact absurd hp (x.th p (by rw [q]; exact nofun))
      · exact hds.elim) (Tr.all_bind.mp q))
/-- a list that is let go among what never changes -/
theorem em_el {ml : Env → Tr (List PyData)} (h : EL K te ml) : EM K te (fun e => (ml e).bind fun ds => .done (.list ds)) :=
  fun a H0 F H e σ n Q r0 q => h a H0 F H e σ n Q r0 (Tr.all_mono (fun ds k hds p xs F1 H1 x g hp f1 hp1 hd => by
    have ag : a ≠ some p := fun z => (r0.ga p z).there hp
    have g2 : GenO a (upd F1 p (.lst xs)) H1 k := ⟨g.nb, fun q0 e0 => by
      obtain ⟨h1, r⟩ := g q0 e0
      refine ⟨?_, r⟩
      rw [upd_ne (fun z => ag (by rw [e0, z]))]; exact h1⟩
    refine hds (.ref p) (upd F1 p (.lst xs)) H1 ⟨x.kp, x.th, fun c o e0 => ?_, fun c o e0 => ?_, fun c e0 e1 => ?_⟩ g2 (.lst upd_same (dba_ex (Ex.new f1) _ _ hd))
    · rw [upd_ne (fun z => by subst z; rw [x.ff _ _ e0] at f1; cases f1)]; exact x.ff c o e0
    · by_cases z : c = p
      · subst z; rw [upd_same] at e0; cases e0; exact hp1
      · rw [upd_ne z] at e0; exact x.fh c o e0
    · by_cases z : c = p
      · subst z; exact hp
      · rw [upd_ne z] at e1; exact x.nw c e0 e1) (Tr.all_bind.mp q))
theorem em_tup {tr : TA} {mr : Env → Tr (List Sl)} (ha : AM K tr mr) : EM K (tTup tr) (fun e => (mr e).bind fun es => (dats es).bind (few PyData.tuple)) :=
  fun a H0 F H e σ n Q r0 q => ha a H0 F H e σ n _ r0 (Tr.all_mono (fun es k hds vs F1 H1 x g1 hvs => by
    rcases dats_draw es with z | ⟨ds, z⟩
    · rw [z] at hds; exact hds.elim
    · rw [z] at hds
      have hd := dats_ra hvs z
      unfold few at hds
      simp only [Tr.bind_done] at hds
      split at hds
      · rename_i hl
        refine ⟨sz_of (by rw [dba_len hd]; exact hl), fun p hp => ?_⟩
        have f1 : F1 p = none := fresh_back x.fh hp
        exact hds (.ref p) _ (upd H1 p (.tup vs)) (x.trans (Step.new x.fh hp)) (g1.new hp) (.tup (st_of upd_same) (dba_ex (Ex.new f1) _ _ hd))
      · exact hds.elim) (Tr.all_bind.mp q))
end
end Hr
namespace Hr
open PySem PySem.Spec PyProof.Rows L2 Evl
/-! ### statements -/
inductive Out where
  | nx (e : Env) | bk (e : Env) | ct (e : Env) | rt (d : PyData)
/-- what is wanted behind a statement -/
def Psm (K : PySem.W.Frag) (a : Option Addr) (F0 H0 : Hp) (D : Ends) : Out → Nat → Prop := fun o m =>
  match o with
  | .nx e => ∀ F' H' σ', R K a H0 F' H' e σ' m → Step a F0 H0 F' H' → D.nx σ' H'
  | .bk e => ∀ F' H' σ', R K a H0 F' H' e σ' m → Step a F0 H0 F' H' → D.bk σ' H'
  | .ct e => ∀ F' H' σ', R K a H0 F' H' e σ' m → Step a F0 H0 F' H' → D.ct σ' H'
  | .rt d => ∀ v F' H', Step a F0 H0 F' H' → GenO a F' H' m → Db K F' v d → D.rt v H'
def SM (K : PySem.W.Frag) (ts : TS) (m : Env → Tr Out) : Prop := ∀ a F0 H0 F H e σ n (D : Ends), R K a H0 F H e σ n → Step a F0 H0 F H → (m e).all (Psm K a F0 H0 D) n → ts D σ H
/-- only these slots are set -/
structure OnlyS (is : List Nat) (σ σ' : L2.St) : Prop where
  ln : σ'.length = σ.length
  ex : ∀ i, i ∉ is → σ'[i]? = σ[i]?
theorem wipe_at : ∀ (vs : List Nat) (σ : L2.St) (i : Nat), (wipe σ vs)[i]? = if i ∈ vs then (if i < σ.length then some none else none) else σ[i]?
  | [], σ, i => by simp [wipe]
  | v :: vs, σ, i => by
    unfold wipe
    rw [List.getElem?_set, wipe_at vs σ i, wipe_length]
    by_cases h : v = i
    · subst h; simp
    · rw [if_neg h]
      have : i ∈ v :: vs ↔ i ∈ vs := by
        rw [List.mem_cons]
        exact ⟨fun z => z.resolve_left fun w => h w.symm, .inr⟩
      simp only [this]
theorem OnlyS.wipe {is vs : List Nat} {σ σ' : L2.St} (o : OnlyS is σ σ') (h : ∀ i ∈ is, i ∈ vs) : L2.wipe σ' vs = L2.wipe σ vs := by
  apply List.ext_getElem?
  intro i
  rw [wipe_at, wipe_at, o.ln]
  by_cases hi : i ∈ vs
  · rw [if_pos hi, if_pos hi]
  · rw [if_neg hi, if_neg hi, o.ex i fun z => hi (h i z)]
/-- a target: the slots behind it -/
def GM (K : PySem.W.Frag) (is : List Nat) (g : TG) (m : PyData → Env → Tr Env) : Prop := ∀ a H0 F H e σ n v d (Q : L2.St → Hp → Prop), R K a H0 F H e σ n → Db K F v d →
  (m d e).all (fun e' k => k = n → ∀ σ', R K a H0 F H e' σ' n → OnlyS is σ σ' → Q σ' H) n → g v σ H Q
def GMs (K : PySem.W.Frag) (is : List Nat) (g : TGs) (m : List PyData → Env → Tr Env) : Prop := ∀ a H0 F H e σ n vs ds (Q : L2.St → Hp → Prop), R K a H0 F H e σ n → DbA K F vs ds →
  (m ds e).all (fun e' k => k = n → ∀ σ', R K a H0 F H e' σ' n → OnlyS is σ σ' → Q σ' H) n → g vs σ H Q
theorem Step.rebase {a : Option Addr} {F0 H0 F1 H1 : Hp} (x : Step a F0 H0 F1 H1) : Step a F1 H0 F1 H1 := ⟨x.kp, x.th, Ex.refl F1, x.fh, fun _ e n => absurd e n⟩
theorem Step.unbase {a : Option Addr} {F0 H0 F1 H1 F2 H2 : Hp} (x : Step a F0 H0 F1 H1) (y : Step a F1 H0 F2 H2) : Step a F0 H0 F2 H2 := ⟨y.kp, y.th, x.ff.trans y.ff, y.fh, fun c e n => by
  cases q : F1 c with
  | none => exact y.nw c q n
  | some o => exact x.nw c e (by rw [q]; exact nofun)⟩
theorem Psm.base {K : PySem.W.Frag} {a : Option Addr} {F0 H0 F1 H1 : Hp} {D : Ends} {o : Out} {m : Nat} (x : Step a F0 H0 F1 H1) (h : Psm K a F0 H0 D o m) : Psm K a F1 H0 D o m := by
  cases o with
  | nx e => exact fun F' H' σ' r s => h F' H' σ' r (x.unbase s)
  | bk e => exact fun F' H' σ' r s => h F' H' σ' r (x.unbase s)
  | ct e => exact fun F' H' σ' r s => h F' H' σ' r (x.unbase s)
  | rt d => exact fun v F' H' s g hv => h v F' H' (x.unbase s) g hv
section
variable {is : List Nat} {K : PySem.W.Frag} {te : TE} {tt : TT} {ts tu : TS} {me : Env → Tr PyData} {mt : Env → Tr Bool} {ms mu : Env → Tr Out} {g : TG} {mg : PyData → Env → Tr Env}
theorem gm_name (i : Nat) : GM K [i] (gName i) (fun d e => .done (e.set i (.dat d))) := fun a H0 F H e σ n v d Q r hv q => q rfl _ (r.put hv) ⟨List.length_set, fun j hj => by
  rw [List.getElem?_set, if_neg (fun z => hj (by rw [z]; exact List.mem_singleton.mpr rfl))]⟩
theorem gms_nil : GMs K [] gNil (fun ds e => match ds with | [] => .done e | _ => .fail) := fun a H0 F H e σ n vs ds Q r hv q => by
  cases hv with
  | nil => exact ⟨rfl, q rfl _ r ⟨rfl, fun _ _ => rfl⟩⟩
  | cons _ _ => exact q.elim
/-- targets never draw -/
def Calm (m : PyData → Env → Tr Env) : Prop := ∀ d e, m d e = .fail ∨ ∃ e', m d e = .done e'
def Calms (m : List PyData → Env → Tr Env) : Prop := ∀ d e, m d e = .fail ∨ ∃ e', m d e = .done e'
theorem gms_cons {js : List Nat} {gs : TGs} {mgs : List PyData → Env → Tr Env} (h : GM K is g mg) (hc : Calm mg) (hs : GMs K js gs mgs) : GMs K (is ++ js) (gCons g gs) (fun ds e => match ds with | [] => .fail | d :: ds => (mg d e).bind (mgs ds)) :=
  fun a H0 F H e σ n vs ds Q r hv q => by
    cases hv with
    | nil => exact q.elim
    | cons h1 h2 =>
      rename_i v vs d ds
      refine ⟨v, vs, rfl, ?_⟩
      rcases hc d e with z | ⟨e', z⟩
      · have q' : ((mg d e).bind (mgs ds)).all _ n := q
        rw [z] at q'; exact q'.elim
      · have q' : ((mg d e).bind (mgs ds)).all _ n := q
        rw [z] at q'
        refine h a H0 F H e σ n v d _ r h1 ?_
        rw [z]
        intro _ σ' r' o'
        refine hs a H0 F H e' σ' n vs ds Q r' h2 (Tr.all_mono (fun e2 k hk ek σ2 r2 o2 => hk ek σ2 r2 ⟨o2.ln.trans o'.ln, fun i hi => ?_⟩) q')
        exact (o2.ex i fun z => hi (List.mem_append_right _ z)).trans (o'.ex i fun z => hi (List.mem_append_left _ z))
theorem calm_name (i : Nat) : Calm (fun d e => .done (e.set i (.dat d))) := fun _ _ => .inr ⟨_, rfl⟩
theorem calms_nil : Calms (fun ds e => match ds with | [] => .done e | _ => .fail) := fun ds e => by cases ds <;> first | exact .inr ⟨_, rfl⟩ | exact .inl rfl
theorem calms_cons {mgs : List PyData → Env → Tr Env} (hc : Calm mg) (hs : Calms mgs) : Calms (fun ds e => match ds with | [] => .fail | d :: ds => (mg d e).bind (mgs ds)) := fun ds e => by
  cases ds with
  | nil => exact .inl rfl
  | cons d ds =>
    show (mg d e).bind (mgs ds) = .fail ∨ ∃ e', (mg d e).bind (mgs ds) = .done e'
    rcases hc d e with z | ⟨e', z⟩
    · rw [z]; exact .inl rfl
    · rw [z]; exact hs ds e'
def untup (n : Nat) (m : List PyData → Env → Tr Env) : PyData → Env → Tr Env := fun d e => match d with
  | .tuple ds => if ds.length = n then m ds e else .fail
  | _ => .fail
theorem gm_tup {n : Nat} {gs : TGs} {mgs : List PyData → Env → Tr Env} (h : GMs K is gs mgs) : GM K is (gTup K n gs) (untup n mgs) := fun a H0 F H e σ k v d Q r hv q => by
  cases hv with
  | tup a b =>
    have q' : Tr.all _ (if _ then _ else _) k := q
    split at q'
    · rename_i hl
      exact ⟨_, _, rfl, ex_t r.fh a, by rw [dba_len b]; exact hl, h _ H0 F H e σ k _ _ Q r b q'⟩
    · exact q'.elim
  | _ => exact q.elim
theorem calm_tup {n : Nat} {mgs : List PyData → Env → Tr Env} (h : Calms mgs) : Calm (untup n mgs) := fun d e => by
  cases d <;> first | exact .inl rfl | skip
  rename_i ds
  show (if ds.length = n then mgs ds e else .fail) = .fail ∨ ∃ e', (if ds.length = n then mgs ds e else .fail) = .done e'
  split
  · exact h ds e
  · exact .inl rfl
/-! statements -/
theorem sm_next : SM K tNext (fun e => .done (.nx e)) := fun a F0 H0 F H e σ n D r s q => q F H σ r s
theorem sm_break : SM K tBreak (fun e => .done (.bk e)) := fun a F0 H0 F H e σ n D r s q => q F H σ r s
theorem sm_cont : SM K tCont (fun e => .done (.ct e)) := fun a F0 H0 F H e σ n D r s q => q F H σ r s
theorem sm_never : SM K tNever (fun _ => .fail) := fun a F0 H0 F H e σ n D r s q => q.elim
def then_ (m : Env → Tr Out) : Out → Tr Out
  | .nx e => m e
  | o => .done o
theorem sm_seq (h : SM K ts ms) (h2 : SM K tu mu) : SM K (tSeq ts tu) (fun e => (ms e).bind (then_ mu)) := fun a F0 H0 F H e σ n D r s q =>
  h a F0 H0 F H e σ n _ r s (Tr.all_mono (fun o k ho => by
    cases o with
    | nx e' => exact fun F' H' σ' r' s' => h2 a F0 H0 F' H' e' σ' k D r' s' ho
    | bk e' => exact ho
    | ct e' => exact ho
    | rt d => exact ho) (Tr.all_bind.mp q))
theorem sm_cut (h : SM K ts ms) (h2 : SM K tu mu) : SM K (tCut ts tu) (fun e => (ms e).bind (then_ mu)) := fun a F0 H0 F H e σ n D r s q =>
  ⟨tu D, sm_seq h h2 a F0 H0 F H e σ n D r s q, fun _ _ h => h⟩
theorem sm_asg (h : EM K te me) (hg : GM K is g mg) (hc : Calm mg) : SM K (tAsg te g) (fun e => (me e).bind fun d => (mg d e).bind fun e' => .done (.nx e')) := fun a F0 H0 F H e σ n D r s q =>
  h a H0 F H e σ n _ r (Tr.all_mono (fun d k hd v F1 H1 x g1 hv => by
    refine hg a H0 F1 H1 e σ k v d _ (r.step x g1) hv ?_
    rcases hc d e with z | ⟨e', z⟩
    · rw [z] at hd; exact hd.elim
    · rw [z] at hd ⊢
      exact fun _ σ' r' _ => hd F1 H1 σ' r' (s.trans x)) (Tr.all_bind.mp q))
theorem sm_ret (h : EM K te me) : SM K (tRet te) (fun e => (me e).bind fun d => .done (.rt d)) := fun a F0 H0 F H e σ n D r s q =>
  h a H0 F H e σ n _ r (Tr.all_mono (fun d k hd v F1 H1 x g1 hv => hd v F1 H1 (s.trans x) g1 hv) (Tr.all_bind.mp q))
theorem sm_retN : SM K tRetN (fun _ => .done (.rt .none)) := fun a F0 H0 F H e σ n D r s q => q .non F H s r.ga .non
theorem sm_drop (h : EM K te me) : SM K (tDrop te) (fun e => (me e).bind fun _ => .done (.nx e)) := fun a F0 H0 F H e σ n D r s q =>
  h a H0 F H e σ n _ r (Tr.all_mono (fun d k hd v F1 H1 x g1 hv => hd F1 H1 σ (r.step x g1) (s.trans x)) (Tr.all_bind.mp q))
theorem sm_if (h : TM K tt mt) (h1 : SM K ts ms) (h2 : SM K tu mu) : SM K (tIfS tt ts tu) (tmIte mt ms mu) := fun a F0 H0 F H e σ n D r s q =>
  h a H0 F H e σ n _ r (Tr.all_mono (fun b k hb F1 H1 x g1 => by
    cases b with
    | true => exact h1 a F0 H0 F1 H1 e σ k D (r.step x g1) (s.trans x) hb
    | false => exact h2 a F0 H0 F1 H1 e σ k D (r.step x g1) (s.trans x) hb) (Tr.all_bind.mp q))
/-- a, b = x, y -/
theorem sm_par {i j : Nat} {ta : TA} {ma : Env → Tr (List Sl)} (h : AM K ta ma) : SM K (tPar i j ta) (fun e => (ma e).bind fun es => match es with | [.dat x, .dat y] => .done (.nx ((e.set i (.dat x)).set j (.dat y))) | _ => .fail) :=
  fun a F0 H0 F H e σ n D r s q => h a H0 F H e σ n _ r (Tr.all_mono (fun es k hd vs F1 H1 x g1 hv => by
    split at hd
    · cases hv with
      | dat h1 t =>
        cases t with
        | dat h2 t =>
          cases t
          exact ⟨_, _, rfl, hd F1 H1 _ (((r.step x g1).put h1).put h2) (s.trans x)⟩
    · exact hd.elim) (Tr.all_bind.mp q))
theorem sm_par3 {i j l : Nat} {ta : TA} {ma : Env → Tr (List Sl)} (h : AM K ta ma) : SM K (tPar3 i j l ta) (fun e => (ma e).bind fun es => match es with | [.dat x, .dat y, .dat z] => .done (.nx (((e.set i (.dat x)).set j (.dat y)).set l (.dat z))) | _ => .fail) :=
  fun a F0 H0 F H e σ n D r s q => h a H0 F H e σ n _ r (Tr.all_mono (fun es k hd vs F1 H1 x g1 hv => by
    split at hd
    · cases hv with
      | dat h1 t =>
        cases t with
        | dat h2 t =>
          cases t with
          | dat h3 t =>
            cases t
            exact ⟨_, _, _, rfl, hd F1 H1 _ ((((r.step x g1).put h1).put h2).put h3) (s.trans x)⟩
    · exact hd.elim) (Tr.all_bind.mp q))
/-! ### loops -/
/-- over items -/
def forM (body : PyData → Env → Tr Out) : List PyData → Env → Tr Out
  | [], e => .done (.nx e)
  | d :: ds, e => (body d e).bind fun o => match o with
    | .nx e' => forM body ds e'
    | .ct e' => forM body ds e'
    | .bk e' => .done (.nx e')
    | .rt d => .done (.rt d)
def loopBody (mg : PyData → Env → Tr Env) (ms : Env → Tr Out) (d : PyData) (e : Env) : Tr Out := (mg d e).bind ms
/-- one turn of a loop -/
theorem turnM {a : Option Addr} {F0 H0 F H : Hp} {e : Env} {σ : L2.St} {n : Nat} {D : Ends} {d : PyData} {ds : List PyData} {v : V} (hg : GM K is g mg) (hc : Calm mg) (hb : SM K ts ms) (r : R K a H0 F H e σ n) (s : Step a F0 H0 F H) (hv : Db K F v d)
    (q : (forM (loopBody mg ms) (d :: ds) e).all (Psm K a F0 H0 D) n) (N : L2.St → Hp → Prop)
    (hN : ∀ F' H' e' σ' n', R K a H0 F' H' e' σ' n' → Step a F0 H0 F' H' → (forM (loopBody mg ms) ds e').all (Psm K a F0 H0 D) n' → N σ' H') :
    g v σ H fun σ2 H2 => ts { D with nx := N, ct := N, bk := D.nx } σ2 H2 := by
  have q' := Tr.all_bind.mp q
  unfold loopBody at q'
  refine hg a H0 F H e σ n v d _ r hv ?_
  rcases hc d e with z | ⟨e', z⟩
  · rw [z] at q'; exact q'.elim
  · rw [z] at q' ⊢
    intro _ σ' r' _
    refine hb a F0 H0 F H e' σ' n _ r' s (Tr.all_mono (fun o k ho => ?_) q')
    cases o with
    | nx e2 => exact fun F' H' σ2 r2 s2 => hN F' H' e2 σ2 k r2 s2 ho
    | ct e2 => exact fun F' H' σ2 r2 s2 => hN F' H' e2 σ2 k r2 s2 ho
    | bk e2 => exact ho
    | rt d => exact ho
/-! iterators -/
def Iter (K : PySem.W.Frag) (J : It) (F1 : Hp) (ds : List PyData) : Prop := ∀ (a : Option Addr) (F H : Hp), Ex F1 F → Ex F H →
  (∀ i, i = ds.length → J.stop i H) ∧ ∀ (i : Nat) (d : PyData), ds[i]? = some d → J.go i H ∧ ∀ x H', J.yld i H x H' → ∃ F', Step a F H F' H' ∧ (∀ n, GenO a F H n → GenO a F' H' n) ∧ Db K F' x d
def IM (K : PySem.W.Frag) (wi : TI) (m : Env → Tr (List PyData)) : Prop := ∀ a H0 F H e σ n (Q : It → Hp → Prop), R K a H0 F H e σ n →
  (m e).all (fun ds k => ∀ J F' H', Step a F H F' H' → GenO a F' H' k → Iter K J F' ds → Q J H') n → wi σ H Q
theorem sm_for {wi : TI} {mi : Env → Tr (List PyData)} (h : IM K wi mi) (hg : GM K is g mg) (hc : Calm mg) (hb : SM K ts ms) : SM K (tFor wi g ts) (fun e => (mi e).bind fun ds => forM (loopBody mg ms) ds e) := fun a F0 H0 F H e σ n D r s q =>
  h a H0 F H e σ n _ r (Tr.all_mono (fun ds k hd J F1 H1 x g1 hi => by
    have s1 := s.trans x
    refine ⟨fun i m σ' H' => m = ds.length - i ∧ i ≤ ds.length ∧ ∃ F' e' n', R K a H0 F' H' e' σ' n' ∧ Step a F1 H0 F' H' ∧ (forM (loopBody mg ms) (ds.drop i) e').all (Psm K a F1 H0 D) n',
      ⟨ds.length, by simp, Nat.zero_le _, F1, e, k, r.step x g1, s1.rebase, Tr.all_mono (fun _ _ z => z.base s1) hd⟩, ?_⟩
    rintro i m σ' H' ⟨rfl, hil, F', e', n', r', s', q'⟩
    obtain ⟨hs, hy⟩ := hi a F' H' s'.ff r'.fh
    by_cases hlt : i < ds.length
    · obtain ⟨hgo, hyl⟩ := hy i ds[i] (List.getElem?_eq_getElem hlt)
      refine .inr ⟨hgo, fun σ2 H2 => ∃ F2 e2 n2, R K a H0 F2 H2 e2 σ2 n2 ∧ Step a F1 H0 F2 H2 ∧ (forM (loopBody mg ms) (ds.drop (i + 1)) e2).all (Psm K a F1 H0 D) n2, fun σ2 H2 w => ⟨ds.length - (i + 1), by omega, rfl, hlt, w⟩, fun y H2 yl => ?_⟩
      obtain ⟨F2, x2, g2, hyd⟩ := hyl y H2 yl
      rw [List.drop_eq_getElem_cons hlt] at q'
      exact turnM hg hc hb (r'.step x2 (g2 _ r'.ga)) (s'.trans x2) hyd q' _ fun F3 H3 e3 σ3 n3 r3 s3 q3 => ⟨F3, e3, n3, r3, s3, q3⟩
    · have e0 : i = ds.length := by omega
      refine .inl ⟨hs i e0, ?_⟩
      rw [e0, List.drop_length] at q'
      exact q' F' H' σ' r' s') (Tr.all_bind.mp q))
def itL : PyData → Tr (List PyData)
  | .list ds => .done ds
  | _ => .fail
def itT : PyData → Tr (List PyData)
  | .tuple ds => .done ds
  | _ => .fail
theorem im_list (h : EM K te me) : IM K (iList K te) (fun e => (me e).bind itL) := fun a H0 F H e σ n Q r q =>
  h a H0 F H e σ n _ r (Tr.all_mono (fun d k hd v F1 H1 x g1 hv => by
    cases hv with
    | lst hp hx =>
      rename_i p xs ds
      have sq : ∀ {F H : Hp}, Ex F1 F → Ex F H → SqL K H p xs := fun e1 e2 => sq_of (e2 _ _ (e1 _ _ hp))
      refine ⟨p, rfl, ⟨xs, sq (Ex.refl F1) x.fh⟩, hd _ F1 H1 x g1 fun a F H e1 e2 => ⟨fun i hi => ⟨xs, sq e1 e2, by rw [dba_len hx]; omega⟩, fun i d hi => ?_⟩⟩
      obtain ⟨y, hy, hyd⟩ := dba_to hx hi
      exact ⟨⟨xs, y, sq e1 e2, hy⟩, fun z H' ⟨e3, w⟩ => by
        subst e3
        have := w xs (sq e1 e2)
        rw [hy] at this; cases this
        exact ⟨F, Step.refl e2, fun _ g => g, db_ex e1 _ _ hyd⟩⟩
    | _ => exact hd.elim) (Tr.all_bind.mp q))
theorem im_tup (h : EM K te me) : IM K (iTup K te) (fun e => (me e).bind itT) := fun a H0 F H e σ n Q r q =>
  h a H0 F H e σ n _ r (Tr.all_mono (fun d k hd v F1 H1 x g1 hv => by
    cases hv with
    | tup hp hx =>
      rename_i p xs ds
      have sq : ∀ {F H : Hp}, Ex F1 F → Ex F H → SqT K H p xs := fun e1 e2 => ex_t (e1.trans e2) hp
      refine ⟨p, rfl, ⟨xs, sq (Ex.refl F1) x.fh⟩, hd _ F1 H1 x g1 fun a F H e1 e2 => ⟨fun i hi => ⟨xs, sq e1 e2, by rw [dba_len hx]; omega⟩, fun i d hi => ?_⟩⟩
      obtain ⟨y, hy, hyd⟩ := dba_to hx hi
      exact ⟨⟨xs, y, sq e1 e2, hy⟩, fun z H' ⟨e3, w⟩ => by
        subst e3
        have := w xs (sq e1 e2)
        rw [hy] at this; cases this
        exact ⟨F, Step.refl e2, fun _ g => g, db_ex e1 _ _ hyd⟩⟩
    | _ => exact hd.elim) (Tr.all_bind.mp q))
/-- the numbers from lo on, n of them -/
def spanD (lo : Int) (n : Nat) : List PyData := (List.range n).map fun (i : Nat) => .int (lo + (i : Int))
theorem span_at {lo : Int} {n i : Nat} {d : PyData} (h : (spanD lo n)[i]? = some d) : i < n ∧ d = .int (lo + (i : Int)) := by
  unfold spanD at h
  rw [List.getElem?_map] at h
  obtain ⟨j, h1, h2⟩ := Option.map_eq_some_iff.mp h
  obtain ⟨h3, h4⟩ := List.getElem?_eq_some_iff.mp h1
  rw [List.length_range] at h3
  rw [List.getElem_range] at h4
  subst h4; exact ⟨h3, h2.symm⟩
theorem iter_rng {lo : Int} {n : Nat} {F1 : Hp} : Iter K (Itr lo n) F1 (spanD lo n) := fun a F H e1 e2 => ⟨fun i hi => by
    have : (spanD lo n).length = n := by unfold spanD; simp
    show n ≤ i
    omega, fun i d hi => by
    obtain ⟨h1, rfl⟩ := span_at hi
    exact ⟨h1, fun x H' ⟨e3, e4⟩ => by subst e3 e4; exact ⟨F, Step.refl e2, fun _ g => g, .int _⟩⟩⟩
/-- within a thousand millions -/
def InB (i : Int) : Prop := i.natAbs ≤ 1000000000
@[irreducible] def inBD (i : Int) : Decidable (InB i) := Nat.decLe _ _
instance (i : Int) : Decidable (InB i) := inBD i
theorem inB (i : Int) : InB i ↔ -1000000000 ≤ i ∧ i ≤ 1000000000 := by unfold InB; omega
noncomputable def rng1 : List Sl → Tr (List PyData)
  | [.dat (.int j)] => if InB j then .done (spanD 0 j.toNat) else .fail
  | _ => .fail
noncomputable def rng2 : List Sl → Tr (List PyData)
  | [.dat (.int i), .dat (.int j)] => if InB i ∧ InB j then .done (spanD i (j - i).toNat) else .fail
  | _ => .fail
theorem im_rng1 {ta : TA} {ma : Env → Tr (List Sl)} (h : AM K ta ma) : IM K (iRng1 ta) (fun e => (ma e).bind rng1) := fun a H0 F H e σ n Q r q =>
  h a H0 F H e σ n _ r (Tr.all_mono (fun es k hd vs F1 H1 x g1 hv => by
    unfold rng1 at hd
    split at hd
    · split at hd
      · rename_i j hj
        cases hv with
        | dat h1 t =>
          cases h1; cases t
          simp only [inB] at hj; exact ⟨_, rfl, by omega, by omega, hd _ F1 H1 x g1 iter_rng⟩
      · exact hd.elim
    · exact hd.elim) (Tr.all_bind.mp q))
theorem im_rng2 {ta : TA} {ma : Env → Tr (List Sl)} (h : AM K ta ma) : IM K (iRng2 ta) (fun e => (ma e).bind rng2) := fun a H0 F H e σ n Q r q =>
  h a H0 F H e σ n _ r (Tr.all_mono (fun es k hd vs F1 H1 x g1 hv => by
    unfold rng2 at hd
    split at hd
    · split at hd
      · rename_i i j hj
        cases hv with
        | dat h1 t =>
          cases t with
          | dat h2 t =>
            cases h1; cases h2; cases t
            simp only [inB] at hj; exact ⟨_, _, rfl, by omega, hd _ F1 H1 x g1 iter_rng⟩
      · exact hd.elim
    · exact hd.elim) (Tr.all_bind.mp q))
/-- numbered items -/
def numD : Nat → List PyData → List PyData
  | _, [] => []
  | i, d :: ds => .tuple [.int (i : Int), d] :: numD (i + 1) ds
theorem numD_at : ∀ {ds : List PyData} {j i : Nat} {d : PyData}, (numD j ds)[i]? = some d → ∃ y, ds[i]? = some y ∧ d = .tuple [.int ((j + i : Nat) : Int), y]
  | [], _, _, _, h => by simp [numD] at h
  | y :: ds, j, 0, d, h => by cases (Option.some.inj h); exact ⟨y, rfl, rfl⟩
  | y :: ds, j, i + 1, d, h => by
    obtain ⟨z, h1, h2⟩ := numD_at (ds := ds) (j := j + 1) (i := i) h
    exact ⟨z, h1, by rw [h2, show j + 1 + i = j + (i + 1) by omega]⟩
theorem numD_len : ∀ (ds : List PyData) (j : Nat), (numD j ds).length = ds.length
  | [], _ => rfl
  | _ :: ds, j => congrArg Nat.succ (numD_len ds (j + 1))
def enu : List Sl → Tr (List PyData)
  | [.dat (.list ds)] => .done (numD 0 ds)
  | _ => .fail
theorem im_enum {ta : TA} {ma : Env → Tr (List Sl)} (h : AM K ta ma) : IM K (iEnum K ta) (fun e => (ma e).bind enu) := fun a H0 F H e σ n Q r q =>
  h a H0 F H e σ n _ r (Tr.all_mono (fun es k hd vs F1 H1 x g1 hv => by
    unfold enu at hd
    split at hd
    · cases hv with
      | dat h1 t =>
        cases t
        cases h1 with
        | lst hp hx =>
          rename_i ds p xs
          have sq : ∀ {F H : Hp}, Ex F1 F → Ex F H → SqL K H p xs := fun e1 e2 => sq_of (e2 _ _ (e1 _ _ hp))
          refine ⟨p, xs, rfl, sq (Ex.refl F1) x.fh, hd _ F1 H1 x g1 fun a F H e1 e2 => ⟨fun i hi => ⟨xs, sq e1 e2, by rw [dba_len hx, ← numD_len ds 0]; omega⟩, fun i d hi => ?_⟩⟩
          obtain ⟨z, hz, rfl⟩ := numD_at hi
          obtain ⟨y, hy, hyd⟩ := dba_to hx hz
          refine ⟨⟨xs, y, sq e1 e2, hy⟩, ?_⟩
          rintro u H' ⟨T, y', rfl, hT, rfl, w⟩
          have := w xs (sq e1 e2)
          rw [hy] at this; cases this
          refine ⟨_, Step.new e2 hT, fun _ g => g.new hT, .tup (st_of upd_same) (.cons ?_ (.cons (db_ex (e1.trans (Ex.new (fresh_back e2 hT))) _ _ hyd) .nil))⟩
          rw [Nat.zero_add]; exact .int _
    · exact hd.elim) (Tr.all_bind.mp q))
def zipD : List PyData → List PyData → List PyData
  | x :: xs, y :: ys => .tuple [x, y] :: zipD xs ys
  | _, _ => []
theorem zipD_at : ∀ {ds es : List PyData} {i : Nat} {d : PyData}, (zipD ds es)[i]? = some d → ∃ y z, ds[i]? = some y ∧ es[i]? = some z ∧ d = .tuple [y, z]
  | [], _, _, _, h => by simp [zipD] at h
  | _ :: _, [], _, _, h => by simp [zipD] at h
  | x :: ds, y :: es, 0, d, h => by cases (Option.some.inj h); exact ⟨x, y, rfl, rfl, rfl⟩
  | x :: ds, y :: es, i + 1, d, h => zipD_at (ds := ds) (es := es) (i := i) h
theorem zipD_len : ∀ (ds es : List PyData), (zipD ds es).length = min ds.length es.length
  | [], _ => by simp [zipD]
  | _ :: _, [] => by simp [zipD]
  | _ :: ds, _ :: es => by
    show (zipD ds es).length + 1 = _
    rw [zipD_len ds es, List.length_cons, List.length_cons]; omega
def zipL : List Sl → Tr (List PyData)
  | [.dat (.list ds), .dat (.list es)] => .done (zipD ds es)
  | _ => .fail
theorem im_zip {ta : TA} {ma : Env → Tr (List Sl)} (h : AM K ta ma) : IM K (iZip K ta) (fun e => (ma e).bind zipL) := fun a H0 F H e σ n Q r q =>
  h a H0 F H e σ n _ r (Tr.all_mono (fun es k hd vs F1 H1 x g1 hv => by
    unfold zipL at hd
    split at hd
    · cases hv with
      | dat h1 t =>
        cases t with
        | dat h2 t =>
          cases t
          cases h1 with
          | lst hp hx =>
            cases h2 with
            | lst hp2 hx2 =>
              rename_i ds es p xs p2 ys
              have sq : ∀ {F H : Hp}, Ex F1 F → Ex F H → SqL K H p xs := fun e1 e2 => sq_of (e2 _ _ (e1 _ _ hp))
              have sq2 : ∀ {F H : Hp}, Ex F1 F → Ex F H → SqL K H p2 ys := fun e1 e2 => sq_of (e2 _ _ (e1 _ _ hp2))
              refine ⟨p, p2, xs, ys, rfl, sq (Ex.refl F1) x.fh, sq2 (Ex.refl F1) x.fh, hd _ F1 H1 x g1 fun a F H e1 e2 => ⟨fun i hi => ⟨xs, ys, sq e1 e2, sq2 e1 e2, by rw [dba_len hx, dba_len hx2]; rw [zipD_len] at hi; omega⟩, fun i d hi => ?_⟩⟩
              obtain ⟨z, z2, hz, hz2, rfl⟩ := zipD_at hi
              obtain ⟨y, hy, hyd⟩ := dba_to hx hz
              obtain ⟨y2, hy2, hyd2⟩ := dba_to hx2 hz2
              refine ⟨⟨xs, ys, y, y2, sq e1 e2, sq2 e1 e2, hy, hy2⟩, ?_⟩
              rintro u H' ⟨T, y', y2', rfl, hT, rfl, w, w2⟩
              have := w xs (sq e1 e2)
              rw [hy] at this; cases this
              have := w2 ys (sq2 e1 e2)
              rw [hy2] at this; cases this
              have fe := e1.trans (Ex.new (o := .tup [y, y2]) (fresh_back e2 hT))
              exact ⟨_, Step.new e2 hT, fun _ g => g.new hT, .tup (st_of upd_same) (.cons (db_ex fe _ _ hyd) (.cons (db_ex fe _ _ hyd2) .nil))⟩
    · exact hd.elim) (Tr.all_bind.mp q))
def chD (x : Str) : List PyData := x.cps.toList.map fun c => .str ⟨#[c]⟩
def itS : PyData → Tr (List PyData)
  | .str x => .done (chD x)
  | _ => .fail
theorem im_str (h : EM K te me) : IM K (iStr te) (fun e => (me e).bind itS) := fun a H0 F H e σ n Q r q =>
  h a H0 F H e σ n _ r (Tr.all_mono (fun d k hd v F1 H1 x g1 hv => by
    cases hv with
    | str s =>
      refine ⟨s, rfl, hd _ F1 H1 x g1 fun a F H e1 e2 => ⟨fun i hi => ?_, fun i d hi => ?_⟩⟩
      · show s.cps.size ≤ i
        unfold chD at hi; rw [List.length_map] at hi; simp at hi; omega
      · unfold chD at hi
        rw [List.getElem?_map] at hi
        obtain ⟨c, h1, rfl⟩ := Option.map_eq_some_iff.mp hi
        have hc : s.cps[i]? = some c := by simpa using h1
        have hl : i < s.cps.size := by
          rcases Nat.lt_or_ge i s.cps.size with z | z
          · exact z
          · rw [Array.getElem?_eq_none z] at hc; cases hc
        refine ⟨hl, ?_⟩
        rintro u H' ⟨rfl, c', hc', rfl⟩
        rw [hc] at hc'; cases hc'
        exact ⟨F, Step.refl e2, fun _ g => g, .str _⟩
    | _ => exact hd.elim) (Tr.all_bind.mp q))
/-- a while, with so many turns at most -/
def whileM (mt : Env → Tr Bool) (ms : Env → Tr Out) : Nat → Env → Tr Out
  | 0, _ => .fail
  | f + 1, e => (mt e).bind fun b => if b = true then (ms e).bind fun o => match o with
      | .nx e' => whileM mt ms f e'
      | .ct e' => whileM mt ms f e'
      | .bk e' => .done (.nx e')
      | .rt d => .done (.rt d)
    else .done (.nx e)
theorem sm_while (f : Nat) (h : TM K tt mt) (hb : SM K ts ms) : SM K (tWhile tt ts) (whileM mt ms f) := fun a F0 H0 F H e σ n D r s q =>
  ⟨fun m σ' H' => ∃ F' e' n', R K a H0 F' H' e' σ' n' ∧ Step a F0 H0 F' H' ∧ (whileM mt ms m e').all (Psm K a F0 H0 D) n', ⟨f, F, e, n, r, s, q⟩, fun m σ' H' ⟨F', e', n', r', s', q'⟩ => by
    cases m with
    | zero => exact q'.elim
    | succ m =>
      refine h a H0 F' H' e' σ' n' _ r' (Tr.all_mono (fun b k hb' F1 H1 x g1 => ?_) (Tr.all_bind.mp q'))
      cases b with
      | true =>
        refine ⟨fun σ2 H2 => ∃ F2 e2 n2, R K a H0 F2 H2 e2 σ2 n2 ∧ Step a F0 H0 F2 H2 ∧ (whileM mt ms m e2).all (Psm K a F0 H0 D) n2, fun σ2 H2 w => ⟨m, Nat.lt_succ_self m, w⟩, ?_⟩
        refine hb a F0 H0 F1 H1 e' σ' k _ (r'.step x g1) (s'.trans x) (Tr.all_mono (fun o k2 ho => ?_) (Tr.all_bind.mp hb'))
        cases o with
        | nx e2 => exact fun F2 H2 σ2 r2 s2 => ⟨F2, e2, k2, r2, s2, ho⟩
        | ct e2 => exact fun F2 H2 σ2 r2 s2 => ⟨F2, e2, k2, r2, s2, ho⟩
        | bk e2 => exact ho
        | rt d => exact ho
      | false => exact hb' F1 H1 σ' (r'.step x g1) (s'.trans x)⟩
end
end Hr
namespace Hr
open PySem PySem.Spec PyProof.Rows L2 Evl
/-! ### comprehensions -/
def compM (mg : PyData → Env → Tr Env) (mt : Env → Tr Bool) (me : Env → Tr PyData) : List PyData → Env → Tr (List PyData)
  | [], _ => .done []
  | d :: ds, e => (mg d e).bind fun e' => (mt e').bind fun b => if b = true then (me e').bind fun y => (compM mg mt me ds e).bind fun ys => .done (y :: ys) else compM mg mt me ds e
def noM : List Nat → Env → Env
  | [], e => e
  | v :: vs, e => (noM vs e).set v .no
def compL (mg : PyData → Env → Tr Env) (mt : Env → Tr Bool) (me : Env → Tr PyData) (vs : List Nat) (ds : List PyData) (e : Env) : Tr (List PyData) := if ds.length ≤ 100000 then compM mg mt me ds (noM vs e) else .fail
section
variable {K : PySem.W.Frag} {a : Option Addr} {F0 H0 F H F1 H1 : Hp} {e : Env} {σ : L2.St} {n m : Nat}
theorem R.wipe (r : R K a H0 F H e σ n) : ∀ vs : List Nat, R K a H0 F H (noM vs e) (L2.wipe σ vs) n
  | [] => r
  | v :: vs => (R.wipe r vs).no
theorem Step.put {D : Addr} {o : HO} (s : Step a F H F1 H1) (h : H D = none) (h1 : F1 D = none) : Step a F H F1 (upd H1 D o) where
  kp := fun c u e n => by rw [upd_ne (ne_of_none e h)]; exact s.kp c u e n
  th := fun c e => by
    by_cases z : c = D
    · subst z; exact absurd h e
    · rw [upd_ne z]; exact s.th c e
  ff := s.ff
  fh := fun c u e => by
    rw [upd_ne (fun z => by subst z; rw [h1] at e; cases e)]; exact s.fh c u e
  nw := s.nw
theorem GenO.put {D : Addr} {o : HO} (g : GenO a F H n) (h : a ≠ some D) : GenO a F (upd H D o) n := ⟨g.nb, fun q e => by
  obtain ⟨h1, m, h2, h3⟩ := g q e
  have ne : q ≠ D := fun z => h (by rw [e, z])
  refine ⟨h1, m, ?_, h3⟩
  obtain ⟨s0, s1, s2, h0, r⟩ := h2.ex
  exact ⟨s0, s1, s2, by rw [upd_ne ne]; exact h0, r⟩⟩
variable {is vs : List Nat} {wi : TI} {g : TG} {tt : TT} {te : TE} {mi : Env → Tr (List PyData)} {mg : PyData → Env → Tr Env} {mt : Env → Tr Bool} {me : Env → Tr PyData}
theorem tm_yes : TM K tYes (fun _ => .done true) := fun a H0 F H e σ n Q r q => q F H (Step.refl r.fh) r.ga
theorem el_lc (hi : IM K wi mi) (hg : GM K is g mg) (hc : Calm mg) (hs : ∀ i ∈ is, i ∈ vs) (ht : TM K tt mt) (he : EM K te me) : EL K (tLc wi g tt te vs) (fun e => (mi e).bind fun ds => compL mg mt me vs ds e) := fun a H0 F H e σ n Q r q =>
  hi a H0 F H e σ n _ r (Tr.all_mono (fun ds k hd J F1 H1 x g1 it D hD => by
    unfold compL at hd
    split at hd
    case isFalse => exact hd.elim
    rename_i hl
    have r1 := (r.step x g1).wipe vs
    have f1 : F1 D = none := fresh_back x.fh hD
    have aD : a ≠ some D := fun z => (g1 D z).there hD
    have hHD : H D = none := by
      cases q : H D with
      | none => rfl
      | some o => exact absurd hD (x.th D (by rw [q]; exact nofun))
    refine ⟨fun i m H' => m = ds.length - i ∧ i ≤ ds.length ∧ ∃ F' n' accV acc, Step a F1 H1 F' H' ∧ GenO a F' H' n' ∧ F' D = none ∧ H' D = some (.lst accV) ∧ DbA K F' accV acc ∧ acc.length ≤ i ∧
      (compM mg mt me (ds.drop i) (noM vs e)).all (fun ys k => ∀ p xs F' H', Step a F H F' H' → GenO a F' H' k → H p = none → F' p = none → H' p = some (.lst xs) → DbA K F' xs (acc ++ ys) → Q (.ref p) H') n',
      ⟨ds.length, by simp, Nat.zero_le _, F1, k, [], [], Step.own x.fh hD, g1.own hD, f1, upd_same, .nil, Nat.le_refl _, hd⟩, ?_⟩
    rintro i m H' ⟨rfl, hil, F', n', accV, acc, s', g', f', hD', hacc, hal, q'⟩
    obtain ⟨hst, hy⟩ := it a F' H' s'.ff s'.fh
    by_cases hlt : i < ds.length
    · obtain ⟨hgo, hyl⟩ := hy i ds[i] (List.getElem?_eq_getElem hlt)
      refine .inr ⟨hgo, fun H2 => ∃ F2 n2 accV acc, Step a F1 H1 F2 H2 ∧ GenO a F2 H2 n2 ∧ F2 D = none ∧ H2 D = some (.lst accV) ∧ DbA K F2 accV acc ∧ acc.length ≤ i + 1 ∧
        (compM mg mt me (ds.drop (i + 1)) (noM vs e)).all (fun ys k => ∀ p xs F' H', Step a F H F' H' → GenO a F' H' k → H p = none → F' p = none → H' p = some (.lst xs) → DbA K F' xs (acc ++ ys) → Q (.ref p) H') n2, fun H2 w => ⟨ds.length - (i + 1), by omega, rfl, hlt, w⟩, fun y H2 yl => ?_⟩
      obtain ⟨F2, x2, g2, hyd⟩ := hyl y H2 yl
      rw [List.drop_eq_getElem_cons hlt] at q'
      have q2 := Tr.all_bind.mp q'
      have s2 := s'.trans x2
      have gg2 := g2 _ g'
      refine hg a H0 F2 H2 (noM vs e) (L2.wipe σ vs) n' y ds[i] _ (r1.step s2 gg2) hyd ?_
      rcases hc ds[i] (noM vs e) with z | ⟨e', z⟩
      · rw [z] at q2; exact q2.elim
      rw [z] at q2 ⊢
      intro _ σ' r' os
      refine ⟨os.wipe hs |>.trans (by
        apply List.ext_getElem?; intro j
        rw [wipe_at, wipe_at, L2.wipe_length]
        split <;> rfl), ?_⟩
      have still : ∀ {F3 H3 : Hp} {Hx Fx : Hp}, Step a Fx Hx F3 H3 → Fx D = none → Hx D = some (.lst accV) → F3 D = none ∧ H3 D = some (.lst accV) := fun {F3 H3 Hx Fx} st h1 h2 => by
        refine ⟨?_, st.kp D _ h2 aD⟩
        cases q : F3 D with
        | none => rfl
        | some o =>
          have z := st.nw D h1 (by rw [q]; exact nofun)
          rw [h2] at z; cases z
      have st2 := still x2 f' hD'
      refine ht a H0 F2 H2 e' σ' n' _ r' (Tr.all_mono (fun b k3 hb F3 H3 x3 g3 => ?_) (Tr.all_bind.mp q2))
      have st3 := still x3 st2.1 st2.2
      cases b with
      | true =>
        show te σ' H3 _
        refine he a H0 F3 H3 e' σ' k3 _ (r'.step x3 g3) (Tr.all_mono (fun y k4 hy4 v F4 H4 x4 g4 hv4 => ?_) (Tr.all_bind.mp hb))
        have st4 := still x4 st3.1 st3.2
        have e24 := (x2.trans x3).trans x4
        refine ⟨accV, st4.2, sz_lt (by rw [dba_len hacc]; omega), F4, k4, accV ++ [v], acc ++ [y], (s'.trans e24).put hD st4.1, g4.put aD, st4.1, upd_same, dba_app (dba_ex e24.ff _ _ hacc) (.cons hv4 .nil), by rw [List.length_append, List.length_singleton]; omega, ?_⟩
        refine Tr.all_mono (fun ys k5 h5 p xs F' H' s5 g5 hp hf hx hxs => ?_) (Tr.all_bind.mp hy4)
        refine h5 p xs F' H' s5 g5 hp hf hx ?_
        rw [List.append_assoc] at hxs; exact hxs
      | false =>
        exact ⟨F3, k3, accV, acc, (s'.trans x2).trans x3, g3, st3.1, st3.2, dba_ex (x2.trans x3).ff _ _ hacc, by omega, hb⟩
    · have e0 : i = ds.length := by omega
      refine .inl ⟨hst i e0, ?_⟩
      rw [e0, List.drop_length] at q'
      exact q' D accV F' H' (x.trans s') g' hHD f' hD' (by rw [List.append_nil]; exact hacc)) (Tr.all_bind.mp q))
end
/-! ### a def by its body -/
def fin : Out → Tr PyData
  | .rt d => .done d
  | .nx _ => .done .none
  | _ => .fail
def runF (j : Nat) (body : Env → Tr Out) (es : List Sl) : Tr PyData := (body (es ++ List.replicate j .no)).bind fin
theorem RA.slot {K : PySem.W.Frag} {a : Option Addr} {F : Hp} : ∀ {es : List Sl} {vs : List V}, RA K a F es vs → ∀ (H0 H : Hp) (i : Nat) (s : Sl), es[i]? = some s → (∃ v, vs[i]? = some v ∧ RS K a H0 F H s (some v)) ∧ ∀ ds, s ≠ .own ds
  | _, _, .nil, _, _, i, s, h => by simp at h
  | _, _, .dat h t, H0, H, 0, s, e => by cases (Option.some.inj e); exact ⟨⟨_, rfl, h⟩, fun _ => nofun⟩
  | _, _, .gen h t, H0, H, 0, s, e => by cases (Option.some.inj e); exact ⟨⟨_, rfl, h⟩, fun _ => nofun⟩
  | _, _, .dat h t, H0, H, i + 1, s, e => RA.slot t H0 H i s e
  | _, _, .gen h t, H0, H, i + 1, s, e => RA.slot t H0 H i s e
theorem R.start {K : PySem.W.Frag} {a : Option Addr} {F H : Hp} {n : Nat} {es : List Sl} {vs : List V} (N : List Str) (fh : Ex F H) (ga : GenO a F H n) (r : RA K a F es vs) : R K a H F H (es ++ List.replicate (N.length - vs.length) .no) (L2.start N vs) n where
  fh := fh
  ga := ga
  ln := by unfold L2.start; simp [r.len]
  sl := fun i s h => by
    rw [List.getElem?_append] at h
    unfold L2.start
    rw [List.getElem?_append, List.length_map, ← r.len]
    split at h
    · rename_i hl
      rw [if_pos hl]
      obtain ⟨⟨v, h1, h2⟩, _⟩ := r.slot H H i s h
      exact ⟨some v, by rw [List.getElem?_map, h1]; rfl, h2⟩
    · rename_i hl
      rw [if_neg hl]
      obtain ⟨h3, h4⟩ := List.getElem?_eq_some_iff.mp h
      rw [List.getElem_replicate] at h4
      subst h4
      rw [List.length_replicate] at h3
      rw [r.len] at h3 ⊢
      exact ⟨none, by rw [List.getElem?_replicate, if_pos h3], True.intro⟩
  ds := fun i j p xs ys h1 _ _ _ => by
    rw [List.getElem?_append] at h1
    split at h1
    · exact absurd rfl ((r.slot H H i _ h1).2 xs)
    · obtain ⟨h3, h4⟩ := List.getElem?_eq_some_iff.mp h1
      rw [List.getElem_replicate] at h4; cases h4
section
variable {P : Program} {w : World} {K : PySem.W.Frag} {mg : Str → Option Value} {base : Heap} {k j : Nat} {x : Str} {ps N : List Str} {st : Stmt}
theorem Def.hasS {k : Nat} {x : Str} {ps N : List Str} {st : Stmt} {sp : Sp} (D : Def K mg x st ps) (S : FnScope N ps (defScope st)) (hl : ∀ vs H Q E, sp vs H Q E → vs.length = ps.length)
    (hbody : ∀ (g : Addr) (cdv : Value) (A : Around) (out : List PySem.Env) (s : Shared) (H : Hp) (vs : List V) (Q : VK) (E : XK), Rm k (A.deeper (envOfC x (defScope st) s.heap.objs.size g cdv)) → sp vs H Q E →
      ∃ t, PSs (cxOf CX0 P w K mg base N x (defScope st) g cdv A out s H E).nox (defBody st) t ∧ t { nx := fun _ H' => Q .non H', rt := Q } (L2.start N vs) H) :
    Has P w K mg base (k + 1) x ps sp := by
  obtain ⟨g, fd, a, F, c⟩ := D.ex
  exact ⟨g, fd, a, kpf_of F, c, okq F S hl fun cdv A out s H vs Q E hr h => hbody g cdv A out s H vs Q E hr h⟩
theorem Def.hasM (D : Def K mg x st ps) (S : FnScope N ps (defScope st)) (body : Env → Tr Out)
    (hbody : ∀ (g : Addr) (cdv : Value) (A : Around) (out : List PySem.Env) (s : Shared) (H : Hp) (E : XK), Rm k (A.deeper (envOfC x (defScope st) s.heap.objs.size g cdv)) →
      ∃ t, PSs (cxOf CX0 P w K mg base N x (defScope st) g cdv A out s H E).nox (defBody st) t ∧ SM K t body) :
    Has P w K mg base (k + 1) x ps (spM K (runF (N.length - ps.length) body) ps.length) := by
  refine D.hasS S (fun vs H Q E h => h.1) (fun g cdv A out s H vs Q E hr h => ?_)
  obtain ⟨hl, a, F, n, es, fh, ga, ra, q⟩ := h
  obtain ⟨t, ht, hm⟩ := hbody g cdv A out s H E hr
  refine ⟨t, ht, ?_⟩
  have r0 := R.start N fh ga ra
  rw [hl] at r0
  refine hm a F H F H _ _ n _ r0 (Step.refl fh) (Tr.all_mono (fun o k2 ho => ?_) (Tr.all_bind.mp q))
  cases o with
  | rt d => exact fun v F' H' s g hv => ho v F' H' s g hv
  | nx e => exact fun F' H' σ' r s => ho .non F' H' s r.ga .non
  | bk e => exact ho.elim
  | ct e => exact ho.elim
end
end Hr
namespace Hr
open PySem PySem.Spec PyProof.Rows L2 Evl
/-! ### operations of more than one kind of values -/
def rOr (r r' : R2) : R2 := fun x y H Q => r x y H Q ∨ r' x y H Q
theorem opOr {X : Cx} {f : Value → Value → Sem Value} {r r' : R2} (h : OpR X f r) (h' : OpR X f r') : OpR X f (rOr r r') := by
  intro pins s σ H x y v u Q I rx ry q
  rcases q with q | q
  · exact h pins s σ H x y v u Q I rx ry q
  · exact h' pins s σ H x y v u Q I rx ry q
section
variable {X : Cx}
def rAddS : R2 := fun x y H Q => ∃ i j, x = .str i ∧ y = .str j ∧ i.length + j.length ≤ sizeLine ∧ Q (.str (i ++ j)) H
def rAddX (K : PySem.W.Frag) : R2 := rOr (rI0 fun i j => .int (i + j)) (rOr rAddS (rOr rCat (rCatA K)))
theorem op_addX : OpR X (binaryOp .Add) (rAddX X.K) := opOr op_add (opOr op_add_str (opOr op_cat op_catA))
def rMulX : R2 := rOr (rI CMulX fun i j => .int (i * j)) rRep
theorem op_mulXX : OpR X (binaryOp .Mult) rMulX := opOr op_mulX op_rep
def rLtX (f : Int → Int → Bool) (g : List Nat → List Nat → Bool) : R2 := rOr (rI0 fun i j => .bl (f i j)) (fun x y H Q => ∃ i j, x = .str i ∧ y = .str j ∧ Q (.bl (g i.cps.toList j.cps.toList)) H)
theorem op_ltX : OpR X (compareOp .Lt) (rLtX (fun i j => decide (i < j)) fun i j => decide (i < j)) := opOr op_lt op_lt_str
def rInX (K : PySem.W.Frag) : R2 := rOr (rIn K false) (rOr (rInD K) (fun x y H Q => ∃ i j, x = .str i ∧ y = .str j ∧ Q (.bl (!(Builtin.Str.occurrences j i 0 j.length 1).isEmpty)) H))
theorem op_inX (hu : X.A.units + 65 < cLine) : OpR X (compareOp .In) (rInX X.K) := opOr op_in_seq (opOr (op_inD hu) op_in_str)
def rNinX (K : PySem.W.Frag) : R2 := rOr (rIn K true) (rOr (rNotInD K) (fun x y H Q => ∃ i j, x = .str i ∧ y = .str j ∧ Q (.bl (!(!(Builtin.Str.occurrences j i 0 j.length 1).isEmpty))) H))
theorem op_ninX (hu : X.A.units + 65 < cLine) : OpR X (compareOp .NotIn) (rNinX X.K) := opOr op_notIn_seq (opOr (op_notInD hu) op_notIn_str)
theorem units65 {k : Nat} {A : Around} (r : Room k A) : A.units + 65 < cLine := by
  have := r.un; omega
end
/-! ### what they tell of data -/
section
variable {K : PySem.W.Frag}
def o_add : PyData → PyData → Tr PyData
  | .int i, .int j => .done (.int (i + j))
  | .str i, .str j => if i.length + j.length ≤ 100000 then .done (.str (i ++ j)) else .fail
  | .list xs, .list ys => if xs.length + ys.length ≤ 100000 then .done (.list (xs ++ ys)) else .fail
  | .tuple xs, .tuple ys => if xs.length + ys.length ≤ 100000 then .done (.tuple (xs ++ ys)) else .fail
  | _, _ => .fail
theorem p2_add : P2 K (rAddX K) o_add := fun a F H n x y dx dy Q ex g0 hx hy q => by
  cases hx with
  | int i =>
    cases hy with
    | int j => exact .inl ⟨i, j, rfl, rfl, q _ F H (Step.refl ex) g0 (.int _)⟩
    | _ => exact q.elim
  | str i =>
    cases hy with
    | str j =>
      have q : Tr.all _ (if _ then _ else _) n := q
      split at q
      · rename_i hl
        exact .inr (.inl ⟨i, j, rfl, rfl, sz_of hl, q _ F H (Step.refl ex) g0 (.str _)⟩)
      · exact q.elim
    | _ => exact q.elim
  | lst h1 h2 =>
    cases hy with
    | lst h3 h4 =>
      have q : Tr.all _ (if _ then _ else _) n := q
      split at q
      · rename_i hl
        refine .inr (.inr (.inl ⟨_, _, _, _, rfl, rfl, ex _ _ h1, ex _ _ h3, sz_of (by rw [dba_len h2, dba_len h4]; exact hl), fun p hp => ?_⟩))
        exact q _ _ _ (Step.new ex hp) (g0.new hp) (.lst upd_same (dba_app (dba_ex (Ex.new (fresh_back ex hp)) _ _ h2) (dba_ex (Ex.new (fresh_back ex hp)) _ _ h4)))
      · exact q.elim
    | _ => exact q.elim
  | tup h1 h2 =>
    cases hy with
    | tup h3 h4 =>
      have q : Tr.all _ (if _ then _ else _) n := q
      split at q
      · rename_i hl
        refine .inr (.inr (.inr ⟨_, _, _, _, rfl, rfl, ex_t ex h1, ex_t ex h3, sz_of (by rw [dba_len h2, dba_len h4]; exact hl), fun e0 => ?_, fun e0 e1 => ?_, fun e0 e1 p hp => ?_⟩))
        · subst e0; cases h2
          exact q _ F H (Step.refl ex) g0 (.tup h3 h4)
        · subst e1; cases h4
          refine q _ F H (Step.refl ex) g0 (.tup h1 ?_)
          rw [List.append_nil]; exact h2
        · exact q _ _ _ (Step.new ex hp) (g0.new hp) (.tup (st_of upd_same) (dba_app (dba_ex (Ex.new (fresh_back ex hp)) _ _ h2) (dba_ex (Ex.new (fresh_back ex hp)) _ _ h4)))
      · exact q.elim
    | _ => exact q.elim
  | _ => exact q.elim
/-- an operation of two ints -/
def oI (C : Int → Int → Bool) (f : Int → Int → PyData) : PyData → PyData → Tr PyData
  | .int i, .int j => if C i j = true then .done (f i j) else .fail
  | _, _ => .fail
def oI0 (f : Int → Int → PyData) : PyData → PyData → Tr PyData
  | .int i, .int j => .done (f i j)
  | _, _ => .fail
theorem p2_I {C : Int → Int → Prop} {c : Int → Int → Bool} {f : Int → Int → V} {f' : Int → Int → PyData} (hc : ∀ i j, c i j = true → C i j) (hf : ∀ F i j, Db K F (f i j) (f' i j)) : P2 K (rI C f) (oI c f') := fun a F H n x y dx dy Q ex g0 hx hy q => by
  cases hx with
  | int i =>
    cases hy with
    | int j =>
      have q : Tr.all _ (if _ then _ else _) n := q
      split at q
      · rename_i h
        exact ⟨i, j, rfl, rfl, hc i j h, q _ F H (Step.refl ex) g0 (hf F i j)⟩
      · exact q.elim
    | _ => exact q.elim
  | _ => exact q.elim
theorem p2_I0 {f : Int → Int → V} {f' : Int → Int → PyData} (hf : ∀ F i j, Db K F (f i j) (f' i j)) : P2 K (rI0 f) (oI0 f') := fun a F H n x y dx dy Q ex g0 hx hy q => by
  cases hx with
  | int i =>
    cases hy with
    | int j => exact ⟨i, j, rfl, rfl, q _ F H (Step.refl ex) g0 (hf F i j)⟩
    | _ => exact q.elim
  | _ => exact q.elim
abbrev o_sub := oI0 fun i j => .int (i - j)
theorem p2_sub : P2 K (rI0 fun i j => .int (i - j)) o_sub := p2_I0 fun _ _ _ => .int _
abbrev o_div := oI (fun i j => decide (0 < j ∧ sz j < 9000)) fun i j => .int (i / j)
theorem p2_div : P2 K (rI CDivW fun i j => .int (i / j)) o_div := p2_I (fun i j h => by have := of_decide_eq_true h; exact cdiv_ok this.1 this.2) fun _ _ _ => .int _
abbrev o_mod := oI (fun _ j => decide (j ≠ 0)) fun i j => .int (i.fmod j)
theorem p2_mod : P2 K (rI (fun _ j => j ≠ 0) fun i j => .int (i.fmod j)) o_mod := p2_I (fun i j h => of_decide_eq_true h) fun _ _ _ => .int _
abbrev o_pow := oI (fun i j => decide (0 ≤ j ∧ (Builtin.Int.intBits i : Int) * j ≤ 134217728)) fun i j => .int (i ^ j.toNat)
theorem p2_pow : P2 K (rI CPowX fun i j => .int (i ^ j.toNat)) o_pow := p2_I (fun i j h => by have := of_decide_eq_true h; exact this) fun _ _ _ => .int _
noncomputable def o_mul : PyData → PyData → Tr PyData
  | .int i, .int j => if sz i + sz j ≤ 100000000 then .done (.int (i * j)) else .fail
  | .list xs, .int k => if InB k ∧ xs.length * k.toNat ≤ 100000 then .done (.list (List.replicate k.toNat xs).flatten) else .fail
  | _, _ => .fail
theorem dba_rep {F : Hp} {vs : List V} {ds : List PyData} (h : DbA K F vs ds) : ∀ k : Nat, DbA K F (List.replicate k vs).flatten (List.replicate k ds).flatten
  | 0 => .nil
  | k + 1 => by rw [List.replicate_succ, List.replicate_succ, List.flatten_cons, List.flatten_cons]; exact dba_app h (dba_rep h k)
theorem p2_mul : P2 K rMulX o_mul := fun a F H n x y dx dy Q ex g0 hx hy q => by
  cases hx with
  | int i =>
    cases hy with
    | int j =>
      have q : Tr.all _ (if _ then _ else _) n := q
      split at q
      · rename_i h
        exact .inl ⟨i, j, rfl, rfl, cmul_ok (by omega), q _ F H (Step.refl ex) g0 (.int _)⟩
      · exact q.elim
    | _ => exact q.elim
  | lst h1 h2 =>
    cases hy with
    | int k =>
      have q : Tr.all _ (if _ then _ else _) n := q
      split at q
      · rename_i h
        simp only [inB] at h; refine .inr ⟨_, k, _, rfl, rfl, ex _ _ h1, by omega, by omega, sz_of (by rw [dba_len h2]; exact h.2), fun p hp => ?_⟩
        exact q _ _ _ (Step.new ex hp) (g0.new hp) (.lst upd_same (dba_rep (dba_ex (Ex.new (fresh_back ex hp)) _ _ h2) _))
      · exact q.elim
    | _ => exact q.elim
  | _ => exact q.elim
/-! bits -/
def oN (C : Nat → Nat → Bool) (f : Nat → Nat → PyData) : PyData → PyData → Tr PyData
  | .int (.ofNat i), .int (.ofNat j) => if C i j = true then .done (f i j) else .fail
  | _, _ => .fail
theorem p2_N {r : R2} {c : Nat → Nat → Bool} {f' : Nat → Nat → PyData} {f : Nat → Nat → V} (hr : ∀ (i j : Nat) H (Q : VK), c i j = true → Q (f i j) H → r (.int (i : Int)) (.int (j : Int)) H Q) (hf : ∀ F i j, Db K F (f i j) (f' i j)) : P2 K r (oN c f') := fun a F H n x y dx dy Q ex g0 hx hy q => by
  cases hx with
  | int i =>
    cases hy with
    | int j =>
      cases i with
      | ofNat i =>
        cases j with
        | ofNat j =>
          have q : Tr.all _ (if _ then _ else _) n := q
          split at q
          · rename_i h
            exact hr i j H Q h (q _ F H (Step.refl ex) g0 (hf F i j))
          · exact q.elim
        | negSucc j => exact q.elim
      | negSucc i => cases j <;> exact q.elim
    | _ => cases i <;> exact q.elim
  | _ => exact q.elim
abbrev o_xor := oN (fun _ _ => true) fun i j => .int ((i ^^^ j : Nat) : Int)
theorem p2_xor : P2 K (fun x y H Q => ∃ n m : Nat, x = .int (n : Int) ∧ y = .int (m : Int) ∧ Q (.int ((n ^^^ m : Nat) : Int)) H) o_xor := p2_N (fun i j H Q _ q => ⟨i, j, rfl, rfl, q⟩) fun _ _ _ => .int _
abbrev o_orb := oN (fun _ _ => true) fun i j => .int ((i ||| j : Nat) : Int)
theorem p2_orb : P2 K (fun x y H Q => ∃ n m : Nat, x = .int (n : Int) ∧ y = .int (m : Int) ∧ Q (.int ((n ||| m : Nat) : Int)) H) o_orb := p2_N (fun i j H Q _ q => ⟨i, j, rfl, rfl, q⟩) fun _ _ _ => .int _
abbrev o_shl := oN (fun i j => decide (i.log2 ≤ 1000000 ∧ j ≤ 1000000)) fun i j => .int ((i * 2 ^ j : Nat) : Int)
theorem p2_shl : P2 K (fun x y H Q => ∃ n k : Nat, x = .int (n : Int) ∧ y = .int (k : Int) ∧ n.log2 ≤ 1000000 ∧ k ≤ 1000000 ∧ Q (.int ((n * 2 ^ k : Nat) : Int)) H) o_shl :=
  p2_N (fun i j H Q h q => by have := of_decide_eq_true h; exact ⟨i, j, rfl, rfl, this.1, this.2, q⟩) fun _ _ _ => .int _
def o_odd : PyData → PyData → Tr PyData
  | .int (.ofNat i), .int 1 => .done (.int ((i % 2 : Nat) : Int))
  | _, _ => .fail
theorem p2_odd : P2 K (fun x y H Q => ∃ n : Nat, x = .int (n : Int) ∧ y = .int 1 ∧ Q (.int ((n % 2 : Nat) : Int)) H) o_odd := fun a F H n x y dx dy Q ex g0 hx hy q => by
  unfold o_odd at q
  split at q
  · cases hx; cases hy
    exact ⟨_, rfl, rfl, q _ F H (Step.refl ex) g0 (.int _)⟩
  · exact q.elim
def o_half : PyData → PyData → Tr PyData
  | .int (.ofNat i), .int 1 => .done (.int ((i / 2 : Nat) : Int))
  | _, _ => .fail
theorem p2_half : P2 K (fun x y H Q => ∃ n : Nat, x = .int (n : Int) ∧ y = .int 1 ∧ Q (.int ((n / 2 : Nat) : Int)) H) o_half := fun a F H n x y dx dy Q ex g0 hx hy q => by
  unfold o_half at q
  split at q
  · cases hx; cases hy
    exact ⟨_, rfl, rfl, q _ F H (Step.refl ex) g0 (.int _)⟩
  · exact q.elim
def o_shr : PyData → PyData → Tr PyData
  | .int i, .int (.ofNat k) => .done (.int (i / 2 ^ k))
  | _, _ => .fail
theorem p2_shr : P2 K (fun x y H Q => ∃ (i : Int) (k : Nat), x = .int i ∧ y = .int (k : Int) ∧ Q (.int (i / 2 ^ k)) H) o_shr := fun a F H n x y dx dy Q ex g0 hx hy q => by
  unfold o_shr at q
  split at q
  · cases hx; cases hy
    exact ⟨_, _, rfl, rfl, q _ F H (Step.refl ex) g0 (.int _)⟩
  · exact q.elim
/-! comparisons -/
def oLt (f : Int → Int → Bool) (g : List Nat → List Nat → Bool) : PyData → PyData → Tr PyData
  | .int i, .int j => .done (.bool (f i j))
  | .str i, .str j => .done (.bool (g i.cps.toList j.cps.toList))
  | _, _ => .fail
theorem p2_ltX {f : Int → Int → Bool} {g : List Nat → List Nat → Bool} : P2 K (rLtX f g) (oLt f g) := fun a F H n x y dx dy Q ex g0 hx hy q => by
  unfold oLt at q
  split at q
  · cases hx; cases hy
    exact .inl ⟨_, _, rfl, rfl, q _ F H (Step.refl ex) g0 (.bl _)⟩
  · cases hx; cases hy
    exact .inr ⟨_, _, rfl, rfl, q _ F H (Step.refl ex) g0 (.bl _)⟩
  · exact q.elim
abbrev o_lt := oLt (fun i j => decide (i < j)) fun i j => decide (i < j)
theorem p2_lt : P2 K (rLtX (fun i j => decide (i < j)) fun i j => decide (i < j)) o_lt := p2_ltX
abbrev o_le := oI0 fun i j => .bool (decide (i ≤ j))
theorem p2_le : P2 K (rI0 fun i j => .bl (decide (i ≤ j))) o_le := p2_I0 fun _ _ _ => .bl _
abbrev o_gt := oI0 fun i j => .bool (decide (j < i))
theorem p2_gt : P2 K (rI0 fun i j => .bl (decide (j < i))) o_gt := p2_I0 fun _ _ _ => .bl _
abbrev o_ge := oI0 fun i j => .bool (decide (j ≤ i))
theorem p2_ge : P2 K (rI0 fun i j => .bl (decide (j ≤ i))) o_ge := p2_I0 fun _ _ _ => .bl _
mutual
theorem db_dp {F H : Hp} (ex : Ex F H) : ∀ (d : PyData) (v : V), Db K F v d → PyData.canLay0 d = true → Dp K H v d
  | .none, _, h, _ => by cases h; exact .non
  | .bool _, _, h, _ => by cases h; exact .bl _
  | .int _, _, h, _ => by cases h; exact .int _
  | .str _, _, h, _ => by cases h; exact .str _
  | .list ds, _, h, c => by
    cases h with
    | lst a b => exact .lst (sq_of (ex _ _ a)) (dba_dp ex ds _ b c)
  | .tuple ds, _, h, c => by
    cases h with
    | tup a b => exact .tup (ex_t ex a) (dba_dp ex ds _ b c)
  | .dict _, _, h, c => by cases c
theorem dba_dp {F H : Hp} (ex : Ex F H) : ∀ (ds : List PyData) (vs : List V), DbA K F vs ds → PyData.canLayAll0 ds = true → DpAll K H vs ds
  | [], _, h, _ => by cases h; exact .nil
  | d :: ds, _, h, c => by
    cases h with
    | cons a b =>
      have c' : (PyData.canLay0 d && PyData.canLayAll0 ds) = true := c
      rw [Bool.and_eq_true] at c'
      exact .cons (db_dp ex d _ a c'.1) (dba_dp ex ds _ b c'.2)
end
def shp (d : PyData) : Bool := SeqAt.shaped d
theorem shp_can {d : PyData} (h : shp d = true) : PyData.canLay0 d = true := SeqAt.canLay_of_shaped h
def oEq (f : Bool → Bool) (d e : PyData) : Tr PyData := if shp d = true ∧ shp e = true then .done (.bool (f (PyData.eqv d e))) else .fail
theorem p2_eq : P2 K (rEqD K) (oEq id) := fun a F H n x y dx dy Q ex g0 hx hy q => by
  unfold oEq at q
  split at q
  · rename_i h
    exact ⟨dx, dy, db_dp ex dx x hx (shp_can h.1), db_dp ex dy y hy (shp_can h.2), h.1, h.2, q _ F H (Step.refl ex) g0 (.bl _)⟩
  · exact q.elim
theorem p2_ne : P2 K (rNeD K) (oEq not) := fun a F H n x y dx dy Q ex g0 hx hy q => by
  unfold oEq at q
  split at q
  · rename_i h
    exact ⟨dx, dy, db_dp ex dx x hx (shp_can h.1), db_dp ex dy y hy (shp_can h.2), h.1, h.2, q _ F H (Step.refl ex) g0 (.bl _)⟩
  · exact q.elim
/-! in -/
def flatD : PyData → Bool
  | .none => true
  | .bool _ => true
  | .int _ => true
  | .str _ => true
  | _ => false
def eqD : PyData → PyData → Bool
  | .none, .none => true
  | .bool a, .bool b => a == b
  | .bool a, .int b => (if a then 1 else 0) == b
  | .int a, .bool b => a == (if b then 1 else 0)
  | .int a, .int b => a == b
  | .str a, .str b => a == b
  | _, _ => false
def inD (x : PyData) (xs : List PyData) : Bool := xs.any fun y => eqD y x
theorem flat_db {F : Hp} {v : V} {d : PyData} (h : Db K F v d) (f : flatD d = true) : flatV v = true := by cases h <;> first | rfl | cases f
theorem flat_dba {F : Hp} : ∀ {vs : List V} {ds : List PyData}, DbA K F vs ds → ds.all flatD = true → vs.all flatV = true
  | _, _, .nil, _ => rfl
  | _, _, .cons a b, f => by
    rw [List.all_cons, Bool.and_eq_true] at f
    rw [List.all_cons, flat_db a f.1, flat_dba b f.2]; rfl
theorem eq_db {F : Hp} {v w : V} {d e : PyData} (h : Db K F v d) (h2 : Db K F w e) (f : flatD d = true) (f2 : flatD e = true) : eqV v w = eqD d e := by
  cases h <;> first | (cases h2 <;> first | rfl | (cases f2; done)) | (cases f; done)
theorem in_db {F : Hp} {w : V} {e : PyData} (h2 : Db K F w e) (f2 : flatD e = true) : ∀ {vs : List V} {ds : List PyData}, DbA K F vs ds → ds.all flatD = true → inV w vs = inD e ds
  | _, _, .nil, _ => rfl
  | _, _, .cons a b, f => by
    rw [List.all_cons, Bool.and_eq_true] at f
    have := in_db h2 f2 b f.2
    unfold inV inD at this ⊢
    rw [List.any_cons, List.any_cons, eq_db a h2 f.1 f2, this]
def o_in (f : Bool → Bool) : PyData → PyData → Tr PyData
  | x, .list ys => if shp x = true ∧ shp (.list ys) = true then .done (.bool (f (ys.any fun z => PyData.eqv z x))) else .fail
  | x, .tuple ys => if flatD x = true ∧ ys.all flatD = true then .done (.bool (f (inD x ys))) else .fail
  | .str i, .str j => .done (.bool (f (!(Builtin.Str.occurrences j i 0 j.length 1).isEmpty)))
  | _, _ => .fail
theorem p2_in : P2 K (rInX K) (o_in id) := fun a F H n x y dx dy Q ex g0 hx hy q => by
  unfold o_in at q
  split at q
  · split at q
    · rename_i h
      exact .inr (.inl ⟨_, _, db_dp ex _ _ hx (shp_can h.1), db_dp ex _ _ hy (shp_can h.2), h.1, h.2, q _ F H (Step.refl ex) g0 (.bl _)⟩)
    · exact q.elim
  · split at q
    · rename_i h
      cases hy with
      | tup h1 h2 =>
        refine .inl ⟨_, _, rfl, .inr (ex_t ex h1), flat_db hx h.1, flat_dba h2 h.2, ?_⟩
        rw [in_db hx h.1 h2 h.2]
        exact q _ F H (Step.refl ex) g0 (.bl _)
    · exact q.elim
  · cases hx; cases hy
    exact .inr (.inr ⟨_, _, rfl, rfl, q _ F H (Step.refl ex) g0 (.bl _)⟩)
  · exact q.elim
theorem p2_nin : P2 K (rNinX K) (o_in not) := fun a F H n x y dx dy Q ex g0 hx hy q => by
  unfold o_in at q
  split at q
  · split at q
    · rename_i h
      exact .inr (.inl ⟨_, _, db_dp ex _ _ hx (shp_can h.1), db_dp ex _ _ hy (shp_can h.2), h.1, h.2, q _ F H (Step.refl ex) g0 (.bl _)⟩)
    · exact q.elim
  · split at q
    · rename_i h
      cases hy with
      | tup h1 h2 =>
        refine .inl ⟨_, _, rfl, .inr (ex_t ex h1), flat_db hx h.1, flat_dba h2 h.2, ?_⟩
        rw [in_db hx h.1 h2 h.2]
        exact q _ F H (Step.refl ex) g0 (.bl _)
    · exact q.elim
  · cases hx; cases hy
    exact .inr (.inr ⟨_, _, rfl, rfl, q _ F H (Step.refl ex) g0 (.bl _)⟩)
  · exact q.elim
def isNone : PyData → Bool
  | .none => true
  | _ => false
def o_isN (f : Bool → Bool) : PyData → PyData → Tr PyData
  | x, .none => .done (.bool (f (isNone x)))
  | _, _ => .fail
theorem isn_db {F : Hp} {x : V} {d : PyData} (h : Db K F x d) : decide (x = .non) = isNone d := by cases h <;> first | rfl | exact decide_eq_false nofun
theorem p2_isN : P2 K (fun x y H Q => y = .non ∧ Q (.bl (decide (x = .non))) H) (o_isN id) := fun a F H n x y dx dy Q ex g0 hx hy q => by
  unfold o_isN at q
  split at q
  · cases hy
    refine ⟨rfl, ?_⟩
    rw [isn_db hx]
    exact q _ F H (Step.refl ex) g0 (.bl _)
  · exact q.elim
theorem p2_notN : P2 K (fun x y H Q => y = .non ∧ Q (.bl (!decide (x = .non))) H) (o_isN not) := fun a F H n x y dx dy Q ex g0 hx hy q => by
  unfold o_isN at q
  split at q
  · cases hy
    refine ⟨rfl, ?_⟩
    rw [isn_db hx]
    exact q _ F H (Step.refl ex) g0 (.bl _)
  · exact q.elim
def o_isB (f : Bool → Bool) : PyData → PyData → Tr PyData
  | .bool a, .bool b => .done (.bool (f (decide (a = b))))
  | _, _ => .fail
theorem p2_isB : P2 K (fun x y H Q => ∃ a b, x = .bl a ∧ y = .bl b ∧ Q (.bl (decide (a = b))) H) (o_isB id) := fun a F H n x y dx dy Q ex g0 hx hy q => by
  unfold o_isB at q
  split at q
  · cases hx; cases hy
    exact ⟨_, _, rfl, rfl, q _ F H (Step.refl ex) g0 (.bl _)⟩
  · exact q.elim
theorem p2_notB : P2 K (fun x y H Q => ∃ a b, x = .bl a ∧ y = .bl b ∧ Q (.bl (!decide (a = b))) H) (o_isB not) := fun a F H n x y dx dy Q ex g0 hx hy q => by
  unfold o_isB at q
  split at q
  · cases hx; cases hy
    exact ⟨_, _, rfl, rfl, q _ F H (Step.refl ex) g0 (.bl _)⟩
  · exact q.elim
/-! an item, a part -/
def o_ix : PyData → PyData → Tr PyData
  | .list xs, .int i => match atI xs i with | some d => .done d | none => .fail
  | .tuple xs, .int i => match atI xs i with | some d => .done d | none => .fail
  | .str z, .int i => if z.length ≤ 100000 then (match atI z.cps.toList i with | some c => .done (.str ⟨#[c]⟩) | none => .fail) else .fail
  | _, _ => .fail
theorem dba_atI {F : Hp} {xs : List V} {ds : List PyData} {i : Int} {d : PyData} (h : DbA K F xs ds) (hi : atI ds i = some d) : ∃ v, atI xs i = some v ∧ Db K F v d := by
  unfold atI at hi ⊢
  obtain ⟨j, h1, h2⟩ := Option.bind_eq_some_iff.mp hi
  obtain ⟨y, h3, h4⟩ := dba_to h h2
  exact ⟨y, by rw [dba_len h, h1]; exact h3, h4⟩
theorem p2_ix : P2 K (rIx K) o_ix := fun a F H n x y dx dy Q ex g0 hx hy q => by
  unfold o_ix at q
  split at q
  · cases hx with
    | lst h1 h2 =>
      cases hy
      split at q
      · rename_i d hd
        obtain ⟨v, h3, h4⟩ := dba_atI h2 hd
        exact .inl ⟨_, _, _, v, rfl, rfl, sq_of (ex _ _ h1), h3, q _ F H (Step.refl ex) g0 h4⟩
      · exact q.elim
  · cases hx with
    | tup h1 h2 =>
      cases hy
      split at q
      · rename_i d hd
        obtain ⟨v, h3, h4⟩ := dba_atI h2 hd
        exact .inr (.inl ⟨_, _, _, v, rfl, rfl, ex_t ex h1, h3, q _ F H (Step.refl ex) g0 h4⟩)
      · exact q.elim
  · cases hx; cases hy
    split at q
    · rename_i hl
      split at q
      · rename_i c hc
        exact .inr (.inr ⟨_, _, c, rfl, rfl, sz_of hl, hc, q _ F H (Step.refl ex) g0 (.str _)⟩)
      · exact q.elim
    · exact q.elim
  · exact q.elim
/-! slices -/
def OM (K : PySem.W.Frag) (to : TO) (m : Env → Tr (Option Int)) : Prop := ∀ a H0 F H e σ n (Q : Option Int → Hp → Prop), R K a H0 F H e σ n → (m e).all (fun o k => ∀ F' H', Step a F H F' H' → GenO a F' H' k → Q o H') n → to σ H Q
theorem om_none : OM K tNoPart (fun _ => .done none) := fun a H0 F H e σ n Q r q => q F H (Step.refl r.fh) r.ga
def toI : PyData → Tr (Option Int)
  | .int i => .done (some i)
  | _ => .fail
theorem om_some {te : TE} {me : Env → Tr PyData} (h : EM K te me) : OM K (tPart te) (fun e => (me e).bind toI) := fun a H0 F H e σ n Q r q =>
  h a H0 F H e σ n _ r (Tr.all_mono (fun d k hd v F1 H1 x g hv => by
    cases hv with
    | int i => exact ⟨i, rfl, hd F1 H1 x g⟩
    | _ => exact hd.elim) (Tr.all_bind.mp q))
def cutD (xs : List PyData) (lo hi : Option Int) : List PyData := (xs.drop (HT.sIx xs.length 0 lo)).take (HT.sIx xs.length xs.length hi - HT.sIx xs.length 0 lo)
theorem dba_cut {F : Hp} {xs : List V} {ds : List PyData} (h : DbA K F xs ds) (lo hi : Option Int) : DbA K F (cutV xs lo hi) (cutD ds lo hi) := by
  unfold cutV cutD
  rw [dba_len h]
  exact dba_take _ (dba_drop _ h)
def o_sl : PyData → Option Int → Option Int → Tr PyData
  | .list xs, lo, hi => .done (.list (cutD xs lo hi))
  | .tuple xs, lo, hi => .done (.tuple (cutD xs lo hi))
  | .str z, lo, hi => if z.length ≤ 100000 then .done (.str (cutS z lo hi)) else .fail
  | _, _, _ => .fail
def rSlX (K : PySem.W.Frag) : V → Option Int → Option Int → Hp → VK → Prop := fun x lo hi H Q => (rSlL K x lo hi H Q ∨ rSlA K x lo hi H Q) ∨ rSlS x lo hi H Q
theorem sl_X {X : Cx} : SlR X (rSlX X.K) := (sl_list.or sl_tupA).or sl_str
theorem cut_whole {α : Type} {xs : List α} {lo hi : Option Int} (h : HT.sIx xs.length 0 lo = 0 ∧ HT.sIx xs.length xs.length hi = xs.length) : (xs.drop (HT.sIx xs.length 0 lo)).take (HT.sIx xs.length xs.length hi - HT.sIx xs.length 0 lo) = xs := by
  rw [h.1, h.2, List.drop_zero, Nat.sub_zero, List.take_length]
theorem em_sl {te : TE} {tl th : TO} {me : Env → Tr PyData} {ml mh : Env → Tr (Option Int)} (h : EM K te me) (hl : OM K tl ml) (hh : OM K th mh) : EM K (tSl (rSlX K) te tl th) (fun e => (me e).bind fun d => (ml e).bind fun lo => (mh e).bind fun hi => o_sl d lo hi) :=
  fun a H0 F H e σ n Q r q => h a H0 F H e σ n _ r (Tr.all_mono (fun d k hd v F1 H1 x1 g1 hv => hl a H0 F1 H1 e σ k _ (r.step x1 g1) (Tr.all_mono (fun lo k2 hlo F2 H2 x2 g2 => by
    have x12 := x1.trans x2
    refine hh a H0 F2 H2 e σ k2 _ (r.step x12 g2) (Tr.all_mono (fun hi k3 hhi F3 H3 x3 g3 => ?_) (Tr.all_bind.mp hlo))
    have x13 := x12.trans x3
    have hv3 := db_ex (x2.trans x3).ff _ _ hv
    unfold o_sl at hhi
    split at hhi
    · cases hv3 with
      | lst h1 h2 =>
        refine .inl (.inl ⟨_, _, rfl, sq_of (x3.fh _ _ h1), fun p hp => ?_⟩)
        exact hhi _ _ _ (x13.trans (Step.new x3.fh hp)) (g3.new hp) (.lst upd_same (dba_ex (Ex.new (fresh_back x3.fh hp)) _ _ (dba_cut h2 _ _)))
    · cases hv3 with
      | tup h1 h2 =>
        refine .inl (.inr ⟨_, _, rfl, ex_t x3.fh h1, fun w => ?_, fun w p hp => ?_⟩)
        · refine hhi _ F3 H3 x13 g3 (.tup h1 ?_)
          rw [dba_len h2] at w
          unfold cutD
          rw [cut_whole w]; exact h2
        · exact hhi _ _ _ (x13.trans (Step.new x3.fh hp)) (g3.new hp) (.tup (st_of upd_same) (dba_ex (Ex.new (fresh_back x3.fh hp)) _ _ (dba_cut h2 _ _)))
    · cases hv3
      split at hhi
      · rename_i hz
        exact .inr ⟨_, rfl, sz_of hz, hhi _ F3 H3 x13 g3 (.str _)⟩
      · exact hhi.elim
    · exact hhi.elim) (Tr.all_bind.mp hd))) (Tr.all_bind.mp q))
end
end Hr
namespace Hr
open PySem PySem.Spec PyProof.Rows L2 Evl
section
variable {K : PySem.W.Frag}
/-! ### built-ins -/
def o_len : List Sl → Tr PyData
  | [.dat (.list xs)] => .done (.int (xs.length : Int))
  | [.dat (.tuple xs)] => .done (.int (xs.length : Int))
  | [.dat (.str x)] => if x.length ≤ 100000 then .done (.int (x.length : Int)) else .fail
  | _ => .fail
theorem pc_len : PC K (fun xs H Q => ∃ x n, xs = [x] ∧ LenV K x H n ∧ Q (.int n) H) o_len := fun a F H n es vs Q ex g0 hv q => by
  unfold o_len at q
  split at q
  · cases hv with
    | dat h t =>
      cases t
      cases h with
      | lst h1 h2 => exact ⟨_, _, rfl, .inl ⟨_, sq_of (ex _ _ h1), rfl⟩, by rw [dba_len h2]; exact q _ F H (Step.refl ex) g0 (.int _)⟩
  · cases hv with
    | dat h t =>
      cases t
      cases h with
      | tup h1 h2 => exact ⟨_, _, rfl, .inr ⟨_, ex_t ex h1, rfl⟩, by rw [dba_len h2]; exact q _ F H (Step.refl ex) g0 (.int _)⟩
  · split at q
    · rename_i hl
      cases hv with
      | dat h t => cases t; cases h; exact ⟨_, _, rfl, ⟨sz_of hl, rfl⟩, q _ F H (Step.refl ex) g0 (.int _)⟩
    · exact q.elim
  · exact q.elim
def o_int : List Sl → Tr PyData
  | [.dat (.int i)] => .done (.int i)
  | [.dat (.bool b)] => .done (.int (if b then 1 else 0))
  | _ => .fail
theorem pc_int : PC K (fun xs H Q => (∃ i, xs = [.int i] ∧ Q (.int i) H) ∨ ∃ k, xs = [.bl k] ∧ Q (.int (if k then 1 else 0)) H) o_int := fun a F H n es vs Q ex g0 hv q => by
  unfold o_int at q
  split at q
  · cases hv with
    | dat h t => cases t; cases h; exact .inl ⟨_, rfl, q _ F H (Step.refl ex) g0 (.int _)⟩
  · cases hv with
    | dat h t => cases t; cases h; exact .inr ⟨_, rfl, q _ F H (Step.refl ex) g0 (.int _)⟩
  · exact q.elim
def o_bool : List Sl → Tr PyData
  | [.dat (.int i)] => .done (.bool (i != 0))
  | [.dat (.bool b)] => .done (.bool b)
  | _ => .fail
theorem pc_bool : PC K (fun xs H Q => (∃ i, xs = [.int i] ∧ Q (.bl (i != 0)) H) ∨ ∃ k, xs = [.bl k] ∧ Q (.bl k) H) o_bool := fun a F H n es vs Q ex g0 hv q => by
  unfold o_bool at q
  split at q
  · cases hv with
    | dat h t => cases t; cases h; exact .inl ⟨_, rfl, q _ F H (Step.refl ex) g0 (.bl _)⟩
  · cases hv with
    | dat h t => cases t; cases h; exact .inr ⟨_, rfl, q _ F H (Step.refl ex) g0 (.bl _)⟩
  · exact q.elim
def o_abs : List Sl → Tr PyData
  | [.dat (.int i)] => .done (.int (if i < 0 then -i else i))
  | _ => .fail
theorem pc_abs : PC K (fun xs H Q => ∃ i, xs = [.int i] ∧ Q (.int (if i < 0 then -i else i)) H) o_abs := fun a F H n es vs Q ex g0 hv q => by
  unfold o_abs at q
  split at q
  · cases hv with
    | dat h t => cases t; cases h; exact ⟨_, rfl, q _ F H (Step.refl ex) g0 (.int _)⟩
  · exact q.elim
def o_max : List Sl → Tr PyData
  | [.dat (.int i), .dat (.int j)] => .done (.int (if j > i then j else i))
  | _ => .fail
theorem pc_max : PC K (fun xs H Q => ∃ i j, xs = [.int i, .int j] ∧ Q (.int (if j > i then j else i)) H) o_max := fun a F H n es vs Q ex g0 hv q => by
  unfold o_max at q
  split at q
  · cases hv with
    | dat h t =>
      cases t with
      | dat h2 t => cases t; cases h; cases h2; exact ⟨_, _, rfl, q _ F H (Step.refl ex) g0 (.int _)⟩
  · exact q.elim
def o_min : List Sl → Tr PyData
  | [.dat (.int i), .dat (.int j)] => .done (.int (if j < i then j else i))
  | _ => .fail
theorem pc_min : PC K (fun xs H Q => ∃ i j, xs = [.int i, .int j] ∧ Q (.int (if j < i then j else i)) H) o_min := fun a F H n es vs Q ex g0 hv q => by
  unfold o_min at q
  split at q
  · cases hv with
    | dat h t =>
      cases t with
      | dat h2 t => cases t; cases h; cases h2; exact ⟨_, _, rfl, q _ F H (Step.refl ex) g0 (.int _)⟩
  · exact q.elim
/-! isinstance -/
def tyD : PyData → String
  | .none => "NoneType"
  | .bool _ => "bool"
  | .int _ => "int"
  | .str _ => "str"
  | .list _ => "list"
  | .tuple _ => "tuple"
  | .dict _ => "dict"
theorem ty_db {F H : Hp} {x : V} {d : PyData} (ex : Ex F H) (h : Db K F x d) : TyX K H x (.type (tyD d)) := by
  cases h with
  | non => exact .base .non
  | bl b => exact .base (.bl b)
  | int i => exact .base (.int i)
  | str s => exact .base (.str s)
  | lst a b => exact .base (.lst (ex _ _ a))
  | tup a b =>
    rcases ex_t ex a with (a | ⟨o, a⟩) | ⟨o, its, n, a, c, _⟩
    · exact .base (.tup a)
    · exact .fTuple a
    · exact .kTuple a c
  | dic a b => exact .base (.dK (ex _ _ a))
  | dit a b => exact .base (.dT (ex _ _ a))
theorem em_isi {te : TE} {me : Env → Tr PyData} {T : String} {f : PyData → Bool} (hf : ∀ d, kitB (tyD d) T = some (f d)) (h : EM K te me) : EM K (tCB (rIsi K) (tCons te (tCons (tC (.ty T)) tNil))) (fun e => (me e).bind fun d => .done (.bool (f d))) :=
  fun a H0 F H e σ n Q r q => h a H0 F H e σ n _ r (Tr.all_mono (fun d k hd v F1 H1 x g hv => by
    exact ⟨v, .ty T, .type (tyD d), .type T, f d, rfl, .ty T, ty_db x.fh hv, kit_ty (hf d), hd _ F1 H1 x g (.bl _)⟩) (Tr.all_bind.mp q))
def isIntD : PyData → Bool
  | .int _ => true
  | .bool _ => true
  | _ => false
def isBoolD : PyData → Bool
  | .bool _ => true
  | _ => false
def isStrD : PyData → Bool
  | .str _ => true
  | _ => false
def isListD : PyData → Bool
  | .list _ => true
  | _ => false
def isTupD : PyData → Bool
  | .tuple _ => true
  | _ => false
theorem kitD_int : ∀ d : PyData, kitB (tyD d) "int" = some (isIntD d)
  | .none => (by decide +kernel : kitB "NoneType" "int" = some false)
  | .bool _ => (by decide +kernel : kitB "bool" "int" = some true)
  | .int _ => (by decide +kernel : kitB "int" "int" = some true)
  | .str _ => (by decide +kernel : kitB "str" "int" = some false)
  | .list _ => (by decide +kernel : kitB "list" "int" = some false)
  | .tuple _ => (by decide +kernel : kitB "tuple" "int" = some false)
  | .dict _ => (by decide +kernel : kitB "dict" "int" = some false)
theorem kitD_bool : ∀ d : PyData, kitB (tyD d) "bool" = some (isBoolD d)
  | .none => (by decide +kernel : kitB "NoneType" "bool" = some false)
  | .bool _ => (by decide +kernel : kitB "bool" "bool" = some true)
  | .int _ => (by decide +kernel : kitB "int" "bool" = some false)
  | .str _ => (by decide +kernel : kitB "str" "bool" = some false)
  | .list _ => (by decide +kernel : kitB "list" "bool" = some false)
  | .tuple _ => (by decide +kernel : kitB "tuple" "bool" = some false)
  | .dict _ => (by decide +kernel : kitB "dict" "bool" = some false)
theorem kitD_str : ∀ d : PyData, kitB (tyD d) "str" = some (isStrD d)
  | .none => (by decide +kernel : kitB "NoneType" "str" = some false)
  | .bool _ => (by decide +kernel : kitB "bool" "str" = some false)
  | .int _ => (by decide +kernel : kitB "int" "str" = some false)
  | .str _ => (by decide +kernel : kitB "str" "str" = some true)
  | .list _ => (by decide +kernel : kitB "list" "str" = some false)
  | .tuple _ => (by decide +kernel : kitB "tuple" "str" = some false)
  | .dict _ => (by decide +kernel : kitB "dict" "str" = some false)
theorem kitD_list : ∀ d : PyData, kitB (tyD d) "list" = some (isListD d)
  | .none => (by decide +kernel : kitB "NoneType" "list" = some false)
  | .bool _ => (by decide +kernel : kitB "bool" "list" = some false)
  | .int _ => (by decide +kernel : kitB "int" "list" = some false)
  | .str _ => (by decide +kernel : kitB "str" "list" = some false)
  | .list _ => (by decide +kernel : kitB "list" "list" = some true)
  | .tuple _ => (by decide +kernel : kitB "tuple" "list" = some false)
  | .dict _ => (by decide +kernel : kitB "dict" "list" = some false)
theorem kitD_tuple : ∀ d : PyData, kitB (tyD d) "tuple" = some (isTupD d)
  | .none => (by decide +kernel : kitB "NoneType" "tuple" = some false)
  | .bool _ => (by decide +kernel : kitB "bool" "tuple" = some false)
  | .int _ => (by decide +kernel : kitB "int" "tuple" = some false)
  | .str _ => (by decide +kernel : kitB "str" "tuple" = some false)
  | .list _ => (by decide +kernel : kitB "list" "tuple" = some false)
  | .tuple _ => (by decide +kernel : kitB "tuple" "tuple" = some true)
  | .dict _ => (by decide +kernel : kitB "dict" "tuple" = some false)
/-! all, any, sum -/
def boolsD : List PyData → Option (List Bool)
  | [] => some []
  | .bool b :: r => (boolsD r).map (b :: ·)
  | _ :: _ => none
theorem bools_db {F : Hp} : ∀ {vs : List V} {ds : List PyData} {bs : List Bool}, DbA K F vs ds → boolsD ds = some bs → vs = bs.map V.bl
  | _, _, _, .nil, h => by cases h; rfl
  | _, _, bs, .cons a b, h => by
    cases a with
    | bl c =>
      obtain ⟨cs, h1, rfl⟩ := Option.map_eq_some_iff.mp h
      rw [bools_db b h1]; rfl
    | _ => cases h
def intsD : List PyData → Option (List Int)
  | [] => some []
  | .int b :: r => (intsD r).map (b :: ·)
  | _ :: _ => none
theorem ints_db {F : Hp} : ∀ {vs : List V} {ds : List PyData} {bs : List Int}, DbA K F vs ds → intsD ds = some bs → vs = bs.map V.int
  | _, _, _, .nil, h => by cases h; rfl
  | _, _, bs, .cons a b, h => by
    cases a with
    | int c =>
      obtain ⟨cs, h1, rfl⟩ := Option.map_eq_some_iff.mp h
      rw [ints_db b h1]; rfl
    | _ => cases h
def o_all : List Sl → Tr PyData
  | [.dat (.list xs)] => match boolsD xs with | some bs => .done (.bool (bs.all id)) | none => .fail
  | _ => .fail
theorem pc_all : PC K (rAll K) o_all := fun a F H n es vs Q ex g0 hv q => by
  unfold o_all at q
  split at q
  · split at q
    · rename_i bs hb
      cases hv with
      | dat h t =>
        cases t
        cases h with
        | lst h1 h2 =>
          rw [bools_db h2 hb] at h1
          exact ⟨_, bs, rfl, sq_of (ex _ _ h1), q _ F H (Step.refl ex) g0 (.bl _)⟩
    · exact q.elim
  · exact q.elim
def o_any : List Sl → Tr PyData
  | [.dat (.list xs)] => match boolsD xs with | some bs => .done (.bool (bs.any id)) | none => .fail
  | _ => .fail
theorem pc_any : PC K (rAny K) o_any := fun a F H n es vs Q ex g0 hv q => by
  unfold o_any at q
  split at q
  · split at q
    · rename_i bs hb
      cases hv with
      | dat h t =>
        cases t
        cases h with
        | lst h1 h2 =>
          rw [bools_db h2 hb] at h1
          exact ⟨_, bs, rfl, sq_of (ex _ _ h1), q _ F H (Step.refl ex) g0 (.bl _)⟩
    · exact q.elim
  · exact q.elim
def o_sum : List Sl → Tr PyData
  | [.dat (.list xs)] => match intsD xs with | some bs => .done (.int bs.sum) | none => .fail
  | _ => .fail
theorem pc_sum : PC K (rSum K) o_sum := fun a F H n es vs Q ex g0 hv q => by
  unfold o_sum at q
  split at q
  · split at q
    · rename_i bs hb
      cases hv with
      | dat h t =>
        cases t
        cases h with
        | lst h1 h2 =>
          rw [ints_db h2 hb] at h1
          exact ⟨_, bs, rfl, sq_of (ex _ _ h1), q _ F H (Step.refl ex) g0 (.int _)⟩
    · exact q.elim
  · exact q.elim
/-! list(..), tuple(..) -/
def o_list : List Sl → Tr PyData
  | [.dat (.list xs)] => .done (.list xs)
  | [.dat (.tuple xs)] => .done (.list xs)
  | _ => .fail
theorem pc_list : PC K (fun xs H Q => ∃ p ys, xs = [.ref p] ∧ (SqL K H p ys ∨ SqT K H p ys) ∧ ∀ l, H l = none → Q (.ref l) (upd H l (.lst ys))) o_list := fun a F H n es vs Q ex g0 hv q => by
  unfold o_list at q
  split at q
  · cases hv with
    | dat h t =>
      cases t
      cases h with
      | lst h1 h2 => exact ⟨_, _, rfl, .inl (sq_of (ex _ _ h1)), fun p hp => q _ _ _ (Step.new ex hp) (g0.new hp) (.lst upd_same (dba_ex (Ex.new (fresh_back ex hp)) _ _ h2))⟩
  · cases hv with
    | dat h t =>
      cases t
      cases h with
      | tup h1 h2 => exact ⟨_, _, rfl, .inr (ex_t ex h1), fun p hp => q _ _ _ (Step.new ex hp) (g0.new hp) (.lst upd_same (dba_ex (Ex.new (fresh_back ex hp)) _ _ h2))⟩
  · exact q.elim
def o_tuple : List Sl → Tr PyData
  | [.dat (.list xs)] => .done (.tuple xs)
  | [.dat (.tuple xs)] => .done (.tuple xs)
  | _ => .fail
theorem pc_tuple : PC K (fun xs H Q => ∃ p ys, xs = [.ref p] ∧ ((SqL K H p ys ∧ ∀ l, H l = none → Q (.ref l) (upd H l (.tup ys))) ∨ (SqT K H p ys ∧ Q (.ref p) H))) o_tuple := fun a F H n es vs Q ex g0 hv q => by
  unfold o_tuple at q
  split at q
  · cases hv with
    | dat h t =>
      cases t
      cases h with
      | lst h1 h2 => exact ⟨_, _, rfl, .inl ⟨sq_of (ex _ _ h1), fun p hp => q _ _ _ (Step.new ex hp) (g0.new hp) (.tup (st_of upd_same) (dba_ex (Ex.new (fresh_back ex hp)) _ _ h2))⟩⟩
  · cases hv with
    | dat h t =>
      cases t
      cases h with
      | tup h1 h2 => exact ⟨_, _, rfl, .inr ⟨ex_t ex h1, q _ F H (Step.refl ex) g0 (.tup h1 h2)⟩⟩
  · exact q.elim
/-! repr -/
mutual
theorem neat_dp {F H : Hp} (ex : Ex F H) : ∀ (d : PyData) (v : V), Db K F v d → neat d = true → Dp K H v d
  | .none, _, h, _ => by cases h; exact .non
  | .bool _, _, h, _ => by cases h; exact .bl _
  | .int _, _, h, _ => by cases h; exact .int _
  | .str _, _, h, _ => by cases h; exact .str _
  | .list ds, _, h, c => by
    cases h with
    | lst a b => exact .lst (sq_of (ex _ _ a)) (neats_dp ex ds _ b c)
  | .tuple ds, _, h, c => by
    cases h with
    | tup a b => exact .tup (ex_t ex a) (neats_dp ex ds _ b c)
  | .dict _, _, h, c => by cases c
theorem neats_dp {F H : Hp} (ex : Ex F H) : ∀ (ds : List PyData) (vs : List V), DbA K F vs ds → neats ds = true → DpAll K H vs ds
  | [], _, h, _ => by cases h; exact .nil
  | d :: ds, _, h, c => by
    cases h with
    | cons a b =>
      have c' : (neat d && neats ds) = true := c
      rw [Bool.and_eq_true] at c'
      exact .cons (neat_dp ex d _ a c'.1) (neats_dp ex ds _ b c'.2)
end
def o_repr : List Sl → Tr PyData
  | [.dat d] => if neat d = true ∧ cost d ≤ 10000000 ∧ d.depth ≤ 50 then .done (.str d.shown) else .fail
  | _ => .fail
theorem pc_repr : PC K (rRepr K) o_repr := fun a F H n es vs Q ex g0 hv q => by
  unfold o_repr at q
  split at q
  · split at q
    · rename_i h
      cases hv with
      | dat hd t =>
        cases t
        exact ⟨_, _, rfl, neat_dp ex _ _ hd h.1, h.1, h.2.1, h.2.2, q _ F H (Step.refl ex) g0 (.str _)⟩
    · exact q.elim
  · exact q.elim
/-! bit_length -/
def o_bits : PyData → Tr PyData
  | .int i => .done (.int (sz i : Nat))
  | _ => .fail
theorem em_bits {te : TE} {me : Env → Tr PyData} (h : EM K te me) : EM K (tBits te) (fun e => (me e).bind o_bits) := fun a H0 F H e σ n Q r q =>
  h a H0 F H e σ n _ r (Tr.all_mono (fun d k hd v F1 H1 x g hv => by
    cases hv with
    | int i => exact ⟨i, rfl, by rw [bits_sz]; exact hd _ F1 H1 x g (.int _)⟩
    | _ => exact hd.elim) (Tr.all_bind.mp q))
def o_neg : PyData → Tr PyData
  | .int i => .done (.int (-i))
  | _ => .fail
theorem p1_neg : P1 K (rU fun i => .int (-i)) o_neg := fun a F H n x dx Q ex g0 hx q => by
  cases hx with
  | int i => exact ⟨i, rfl, q _ F H (Step.refl ex) g0 (.int _)⟩
  | _ => exact q.elim
/-- a chain of two comparisons -/
theorem em_chain {r r' : R2} {g g' : PyData → PyData → Tr PyData} {ta tb tc : TE} {ma mb mc : Env → Tr PyData} (hr : P2 K r g) (hr' : P2 K r' g') (ha : EM K ta ma) (hb : EM K tb mb) (hc : EM K tc mc) :
    EM K (tChain r r' ta tb tc) (fun e => (ma e).bind fun x => (mb e).bind fun y => (g x y).bind fun z => (tobool z).bind fun b => if b = true then (mc e).bind fun w => g' y w else .done (.bool false)) :=
  fun a H0 F H e σ n Q r0 h => ha a H0 F H e σ n _ r0 (Tr.all_mono (fun x k hx v F1 H1 x1 g1 d1 => by
    refine hb a H0 F1 H1 e σ k _ (r0.step x1 g1) (Tr.all_mono (fun y k2 hy u F2 H2 x2 g2 d2 => ?_) (Tr.all_bind.mp hx))
    refine hr a F2 H2 k2 v u x y _ x2.fh g2 (db_ex x2.ff _ _ d1) d2 (Tr.all_mono (fun z k3 hz w F3 H3 x3 g3 d3 => ?_) (Tr.all_bind.mp hy))
    cases d3 with
    | bl b =>
      refine ⟨b, rfl, ?_⟩
      cases b with
      | true =>
        show tc σ H3 _
        refine hc a H0 F3 H3 e σ k3 _ (r0.step ((x1.trans x2).trans x3) g3) (Tr.all_mono (fun w' k4 h4 v4 F4 H4 x4 g4 d4 => ?_) (Tr.all_bind.mp hz))
        exact hr' a F4 H4 k4 u v4 y w' Q x4.fh g4 (db_ex (x3.trans x4).ff _ _ d2) d4 (Tr.all_mono (fun z k3 hz => Pst.go (Pst.go hz ((x1.trans x2).trans x3)) x4) h4)
      | false => exact hz _ F3 H3 ((x1.trans x2).trans x3) g3 (.bl false)
    | _ => exact hz.elim) (Tr.all_bind.mp h))
/-! lists of one's own -/
theorem sm_asgOwn {te : TE} {ml : Env → Tr (List PyData)} (i : Nat) (h : EL K te ml) : SM K (tAsg te (gName i)) (fun e => (ml e).bind fun ds => .done (.nx (e.set i (.own ds)))) := fun a F0 H0 F H e σ n D r s q =>
  h a H0 F H e σ n _ r (Tr.all_mono (fun ds k hd p xs F1 H1 x g hp f1 hp1 hds => by
    have ap : a ≠ some p := fun z => (r.ga p z).there hp
    have h0 : H0 p = none := by
      cases q : H0 p with
      | none => rfl
      | some o => exact absurd hp (s.th p (by rw [q]; exact nofun))
    refine hd F1 H1 _ ((r.step x g).putOwn hp1 f1 h0 ap hds fun j ys hj hy hs => ?_) (s.trans x)
    obtain ⟨p', _, h1, _, _, _, h2, _⟩ := r.own hy
    rw [h1] at hs; cases hs
    rw [hp] at h2; cases h2) (Tr.all_bind.mp q))
/-- two at once, the first one a list of one's own -/
theorem sm_ownPar {i j : Nat} {ta tb : TE} {mb : Env → Tr PyData} {ml : Env → Tr (List PyData)} (ha : EL K ta ml) (hb : EM K tb mb) : SM K (tPar i j (tCons ta (tCons tb tNil))) (fun e => (ml e).bind fun ds => (mb e).bind fun y => .done (.nx ((e.set i (.own ds)).set j (.dat y)))) := fun a F0 H0 F H e σ n D r s q =>
  ha a H0 F H e σ n _ r (Tr.all_mono (fun ds k hd p xs F1 H1 x1 g1 hp f1 hp1 hds => hb a H0 F1 H1 e σ k _ (r.step x1 g1) (Tr.all_mono (fun y k2 hd2 v F2 H2 x2 g2 hv => by
    have r2 := (r.step x1 g1).step x2 g2
    have ap : a ≠ some p := fun z => (r.ga p z).there hp
    have h0 : H0 p = none := by
      cases q : H0 p with
      | none => rfl
      | some o => exact absurd hp (s.th p (by rw [q]; exact nofun))
    have f2 : F2 p = none := by
      cases q : F2 p with
      | none => rfl
      | some o =>
        have z := x2.nw p f1 (by rw [q]; exact nofun)
        rw [hp1] at z; cases z
    refine ⟨_, _, rfl, hd2 F2 H2 _ ((r2.putOwn (i := i) (x2.kp p _ hp1 ap) f2 h0 ap (dba_ex x2.ff _ _ hds) fun j ys hj hy hs => ?_).put (i := j) hv) (s.trans (x1.trans x2))⟩
    obtain ⟨p', _, h1, _, _, _, h2, _⟩ := r.own hy
    rw [h1] at hs; cases hs
    rw [hp] at h2; cases h2) (Tr.all_bind.mp hd))) (Tr.all_bind.mp q))
/-- two at once, the second one a list of one's own -/
theorem sm_parOwn {i j : Nat} {ta tb : TE} {ma : Env → Tr PyData} {ml : Env → Tr (List PyData)} (ha : EM K ta ma) (hb : EL K tb ml) : SM K (tPar i j (tCons ta (tCons tb tNil))) (fun e => (ma e).bind fun x => (ml e).bind fun ds => .done (.nx ((e.set i (.dat x)).set j (.own ds)))) := fun a F0 H0 F H e σ n D r s q =>
  ha a H0 F H e σ n _ r (Tr.all_mono (fun x k hd v F1 H1 x1 g1 hv => hb a H0 F1 H1 e σ k _ (r.step x1 g1) (Tr.all_mono (fun ds k2 hd2 p xs F2 H2 x2 g2 hp f2 hp2 hds => by
    have r1 := (r.step x1 g1).put (i := i) hv
    have r2 := r1.step x2 g2
    have ap : a ≠ some p := fun z => (r1.ga p z).there hp
    have h0 : H0 p = none := by
      cases q : H0 p with
      | none => rfl
      | some o => exact absurd hp ((s.trans x1).th p (by rw [q]; exact nofun))
    refine ⟨_, _, rfl, hd2 F2 H2 _ (r2.putOwn hp2 f2 h0 ap hds fun j ys hj hy hs => ?_) (s.trans (x1.trans x2))⟩
    obtain ⟨p', _, h1, _, _, _, h2, _⟩ := r1.own hy
    rw [h1] at hs; cases hs
    rw [hp] at h2; cases h2) (Tr.all_bind.mp hd))) (Tr.all_bind.mp q))
/-- two by a tuple, the second one a list of one's own -/
theorem sm_tupOwn {i j : Nat} {ta tb : TE} {ma : Env → Tr PyData} {ml : Env → Tr (List PyData)} (ha : EM K ta ma) (hb : EL K tb ml) : SM K (tAsg (tTup (tCons ta (tCons tb tNil))) (gTup K 2 (gCons (gName i) (gCons (gName j) gNil)))) (fun e => (ma e).bind fun x => (ml e).bind fun ds => .done (.nx ((e.set i (.dat x)).set j (.own ds)))) := fun a F0 H0 F H e σ n D r s q =>
  ha a H0 F H e σ n _ r (Tr.all_mono (fun x k hd v F1 H1 x1 g1 hv => hb a H0 F1 H1 e σ k _ (r.step x1 g1) (Tr.all_mono (fun ds k2 hd2 p xs F2 H2 x2 g2 hp f2 hp2 hds => by
    refine ⟨sz_of (by show (2 : Nat) ≤ 100000; decide), fun t ht => ⟨t, _, rfl, st_of upd_same, rfl, v, _, rfl, _, _, rfl, rfl, ?_⟩⟩
    have ft := fresh_back x2.fh ht
    have at_ : a ≠ some t := fun z => (g2 t z).there ht
    have pt : p ≠ t := fun z => by rw [← z, hp2] at ht; cases ht
    have x3 : Step a F2 H2 F2 (upd H2 t (.tup [v, .ref p])) := (Step.refl x2.fh).put ht ft
    have g3 : GenO a F2 (upd H2 t (.tup [v, .ref p])) k2 := g2.put at_
    have r1 := (r.step x1 g1).put (i := i) hv
    have r2 := (r1.step x2 g2).step x3 g3
    have ap : a ≠ some p := fun z => (r1.ga p z).there hp
    have h0 : H0 p = none := by
      cases q : H0 p with
      | none => rfl
      | some o => exact absurd hp ((s.trans x1).th p (by rw [q]; exact nofun))
    refine hd2 F2 _ _ (r2.putOwn (by rw [upd_ne pt]; exact hp2) f2 h0 ap hds fun j ys hj hy hs => ?_) ((s.trans (x1.trans x2)).trans x3)
    obtain ⟨p', _, h1, _, _, _, h2, _⟩ := r1.own hy
    rw [h1] at hs; cases hs
    rw [hp] at h2; cases h2) (Tr.all_bind.mp hd))) (Tr.all_bind.mp q))
/-- the list is let go among what never changes -/
def frz (i : Nat) (e : Env) : Env := match e[i]? with
  | some (.own ds) => e.set i (.dat (.list ds))
  | _ => e
theorem R.frz {a : Option Addr} {H0 F H : Hp} {e : Env} {σ : L2.St} {n i : Nat} {ds : List PyData} {p : Addr} {xs : List V} (r : R K a H0 F H e σ n) (hi : e[i]? = some (.own ds)) (h1 : σ[i]? = some (some (.ref p))) (h2 : F p = none) (h3 : a ≠ some p) (h5 : H p = some (.lst xs)) (h6 : DbA K F xs ds) :
    R K a H0 (upd F p (.lst xs)) H (e.set i (.dat (.list ds))) σ n where
  fh := fun c o e => by
    by_cases z : c = p
    · subst z; rw [upd_same] at e; cases e; exact h5
    · rw [upd_ne z] at e; exact r.fh c o e
  ga := ⟨r.ga.nb, fun q e => by
    obtain ⟨h7, x⟩ := r.ga q e
    exact ⟨by rw [upd_ne (fun z => h3 (by rw [e, z]))]; exact h7, x⟩⟩
  ln := by rw [List.length_set]; exact r.ln
  sl := fun j s hj => by
    rw [List.getElem?_set] at hj
    split at hj
    · rename_i e1; subst e1
      split at hj
      · cases hj
        exact ⟨_, h1, .lst upd_same (dba_ex (Ex.new h2) _ _ h6)⟩
      · cases hj
    · rename_i e1
      obtain ⟨ov, h7, h8⟩ := r.sl j s hj
      refine ⟨ov, h7, ?_⟩
      cases s with
      | no => exact True.intro
      | dat d =>
        cases ov with
        | none => exact h8
        | some v => exact db_ex (Ex.new h2) d v h8
      | own es =>
        cases ov with
        | none => exact h8
        | some v =>
          cases v with
          | ref q =>
            obtain ⟨k1, k2, k3, ys, k4, k5⟩ := h8
            have ne : q ≠ p := fun z => e1 (r.ds i j p ds es hi hj h1 (by rw [h7, z]))
            exact ⟨by rw [upd_ne ne]; exact k1, k2, k3, ys, k4, dba_ex (Ex.new h2) _ _ k5⟩
          | _ => exact h8
      | gen =>
        cases ov with
        | none => exact h8
        | some v => cases v <;> exact h8
      | scr =>
        cases ov with
        | none => exact h8
        | some v => cases v <;> exact h8
  ds := fun j k q ys zs k1 k2 k3 k4 => by
    rw [List.getElem?_set] at k1 k2
    split at k1
    · split at k1 <;> cases k1
    · split at k2
      · split at k2 <;> cases k2
      · exact r.ds j k q ys zs k1 k2 k3 k4
theorem sm_frz {ts : TS} {ms : Env → Tr Out} (i : Nat) (h : SM K ts ms) : SM K ts (fun e => ms (frz i e)) := fun a F0 H0 F H e σ n D r s q => by
  unfold frz at q
  dsimp only at q
  split at q
  · rename_i ds hi
    obtain ⟨p, xs, h1, h2, h3, h4, h5, h6⟩ := r.own hi
    refine h a F0 H0 _ H _ σ n D (r.frz hi h1 h2 h3 h5 h6) ⟨s.kp, s.th, s.ff.trans (Ex.new h2), (r.frz hi h1 h2 h3 h5 h6).fh, fun c e1 e2 => ?_⟩ q
    by_cases z : c = p
    · subst z; exact h4
    · rw [upd_ne z] at e2; exact s.nw c e1 e2
  · exact h a F0 H0 F H e σ n D r s q
def ownAt (i : Nat) (e : Env) : Tr (List PyData) := match e[i]? with
  | some (.own ds) => .done ds
  | _ => .fail
/-- a list of one's own is changed -/
theorem R.chg {a : Option Addr} {F0 H0 F H : Hp} {e : Env} {σ : L2.St} {n i : Nat} {ds es : List PyData} {p : Addr} {ys : List V} (r : R K a H0 F H e σ n) (s : Step a F0 H0 F H) (hi : e[i]? = some (.own ds)) (h1 : σ[i]? = some (some (.ref p))) (h2 : F p = none) (h3 : a ≠ some p) (h4 : H0 p = none) (h6 : DbA K F ys es) :
    R K a H0 F (upd H p (.lst ys)) (e.set i (.own es)) σ n ∧ Step a F0 H0 F (upd H p (.lst ys)) := by
  have st := s.put (o := .lst ys) h4 h2
  refine ⟨{ fh := st.fh, ga := r.ga.put h3, ln := by rw [List.length_set]; exact r.ln, sl := fun j s hj => ?_, ds := fun j k q xs zs k1 k2 k3 k4 => ?_ }, st⟩
  · rw [List.getElem?_set] at hj
    split at hj
    · rename_i e1; subst e1
      split at hj
      · cases hj
        exact ⟨_, h1, h2, h3, h4, ys, upd_same, h6⟩
      · cases hj
    · rename_i e1
      obtain ⟨ov, h7, h8⟩ := r.sl j s hj
      refine ⟨ov, h7, ?_⟩
      cases s with
      | no => exact True.intro
      | dat d => cases ov <;> exact h8
      | own es' =>
        cases ov with
        | none => exact h8
        | some v =>
          cases v with
          | ref q =>
            obtain ⟨k1, k2, k3, ys', k4, k5⟩ := h8
            have ne : q ≠ p := fun z => e1 (r.ds i j p ds es' hi hj h1 (by rw [h7, z]))
            exact ⟨k1, k2, k3, ys', by rw [upd_ne ne]; exact k4, k5⟩
          | _ => exact h8
      | gen =>
        cases ov with
        | none => exact h8
        | some v => cases v <;> exact h8
      | scr =>
        cases ov with
        | none => exact h8
        | some v =>
          cases v with
          | ref q =>
            obtain ⟨ns, k | k⟩ := h8
            · obtain ⟨k1 | ⟨o, k1⟩, k2⟩ := k
              · exact ⟨ns, .inl ⟨.inl (by
                  by_cases z : q = p
                  · subst z; exact absurd h4 k2.2
                  · rw [upd_ne z]; exact k1), k2⟩⟩
              · exact ⟨ns, .inl ⟨.inr ⟨o, by
                  by_cases z : q = p
                  · subst z; exact absurd h4 k2.2
                  · rw [upd_ne z]; exact k1⟩, k2⟩⟩
            · exact ⟨ns, .inr k⟩
          | _ => exact h8
  · have back : ∀ {m : Nat} {zs : List PyData}, (e.set i (.own es))[m]? = some (.own zs) → ∃ ws, e[m]? = some (.own ws) := fun {m zs} k => by
      rw [List.getElem?_set] at k
      split at k
      · rename_i e1; subst e1; exact ⟨ds, hi⟩
      · exact ⟨_, k⟩
    obtain ⟨_, b1⟩ := back k1
    obtain ⟨_, b2⟩ := back k2
    exact r.ds j k q _ _ b1 b2 k3 k4
theorem sm_app {te : TE} {me : Env → Tr PyData} (i : Nat) (h : EM K te me) : SM K (tDrop (tBM K "list" rAppend (tVar i) (tCons te tNil))) (fun e => (ownAt i e).bind fun ds => (me e).bind fun d => if ds.length < 100000 then .done (.nx (e.set i (.own (ds ++ [d])))) else .fail) := fun a F0 H0 F H e σ n D r s q => by
  unfold ownAt at q
  dsimp only at q
  split at q
  · rename_i ds hi
    obtain ⟨p, xs, h1, h2, h3, h4, h5, h6⟩ := r.own hi
    refine ⟨_, h1, .inl ⟨rfl, _, sq_of h5⟩, h a H0 F H e σ n _ r (Tr.all_mono (fun d k hd v F1 H1 x g hv => ?_) (Tr.all_bind.mp q))⟩
    have r1 := r.step x g
    obtain ⟨p', xs1, k1, k2, k3, k4, k5, k6⟩ := r1.own hi
    rw [h1] at k1; cases k1
    split at hd
    · rename_i hl
      refine ⟨p, xs1, v, rfl, rfl, k5, sz_lt (by rw [dba_len k6]; exact hl), ?_⟩
      obtain ⟨r2, s2⟩ := r1.chg (s.trans x) hi h1 k2 k3 k4 (dba_app k6 (.cons hv .nil))
      exact hd _ _ σ r2 s2
    · exact hd.elim
  · exact q.elim
theorem sm_set {te tb : TE} {me mb : Env → Tr PyData} (i : Nat) (h : EM K te me) (hb : EM K tb mb) : SM K (tAsg te (gSub (tVar i) tb rSetL)) (fun e => (ownAt i e).bind fun ds => (me e).bind fun d => (mb e).bind fun j => match j with
    | .int j => (match ixN ds.length j with | some k => .done (.nx (e.set i (.own (ds.set k d)))) | none => .fail)
    | _ => .fail) := fun a F0 H0 F H e σ n D r s q => by
  unfold ownAt at q
  dsimp only at q
  split at q
  · rename_i ds hi
    obtain ⟨p, xs, h1, h2, h3, h4, h5, h6⟩ := r.own hi
    refine h a H0 F H e σ n _ r (Tr.all_mono (fun d k hd v F1 H1 x g hv => ?_) (Tr.all_bind.mp q))
    refine ⟨_, h1, hb a H0 F1 H1 e σ k _ (r.step x g) (Tr.all_mono (fun j k2 hj u F2 H2 x2 g2 hu => ?_) (Tr.all_bind.mp hd))⟩
    have r1 := r.step (x.trans x2) g2
    obtain ⟨p', xs1, k1, k2, k3, k4, k5, k6⟩ := r1.own hi
    rw [h1] at k1; cases k1
    cases hu with
    | int j =>
      dsimp only at hj
      split at hj
      · rename_i k' hk
        refine ⟨p, xs1, j, k', rfl, rfl, k5, by rw [dba_len k6]; exact hk, ?_⟩
        obtain ⟨r2, s2⟩ := r1.chg (s.trans (x.trans x2)) hi h1 k2 k3 k4 (dba_set k' k6 (db_ex x2.ff _ _ hv))
        exact hj _ _ σ r2 s2
      · exact hj.elim
    | _ => exact hj.elim
  · exact q.elim
/-- reading a list of one's own without letting it go, or one that was let go -/
def peekAt (i : Nat) (e : Env) : Tr (List PyData) := match e[i]? with
  | some (.own ds) => .done ds
  | some (.dat (.list ds)) => .done ds
  | _ => .fail
theorem em_lenOwn (i : Nat) : EM K (tCB (fun xs H Q => ∃ x n, xs = [x] ∧ LenV K x H n ∧ Q (.int n) H) (tCons (tVar i) tNil)) (fun e => (peekAt i e).bind fun ds => .done (.int (ds.length : Int))) := fun a H0 F H e σ n Q r q => by
  unfold peekAt at q
  dsimp only at q
  split at q
  · rename_i ds hi
    obtain ⟨p, xs, h1, h2, h3, h4, h5, h6⟩ := r.own hi
    exact ⟨_, h1, _, _, rfl, .inl ⟨_, sq_of h5, rfl⟩, by rw [dba_len h6]; exact q _ F H (Step.refl r.fh) r.ga (.int _)⟩
  · rename_i ds hi
    refine em_cb pc_len (am_cons (em_var i) am_nil) a H0 F H e σ n Q r ?_
    have hr : rd i e = .done (.list ds) := by unfold rd; rw [hi]
    show Tr.all _ (((rd i e).bind fun d => (Tr.done []).bind fun ds => Tr.done (Sl.dat d :: ds)).bind o_len) n
    rw [hr]
    exact q
  · exact q.elim
theorem em_ixOwn {tb : TE} {mb : Env → Tr PyData} (i : Nat) (hb : EM K tb mb) : EM K (tOp (rIx K) (tVar i) tb) (fun e => (peekAt i e).bind fun ds => (mb e).bind fun j => o_ix (.list ds) j) := fun a H0 F H e σ n Q r q => by
  unfold peekAt at q
  dsimp only at q
  split at q
  · rename_i ds hi
    obtain ⟨p, xs, h1, h2, h3, h4, h5, h6⟩ := r.own hi
    refine ⟨_, h1, hb a H0 F H e σ n _ r (Tr.all_mono (fun j k2 hj u F2 H2 x2 g2 hu => ?_) (Tr.all_bind.mp q))⟩
    obtain ⟨p', xs1, k1, k2, k3, k4, k5, k6⟩ := (r.step x2 g2).own hi
    rw [h1] at k1; cases k1
    cases hu with
    | int j =>
      unfold o_ix at hj
      dsimp only at hj
      split at hj
      · rename_i d hd
        obtain ⟨v, h3, h4⟩ := dba_atI k6 hd
        exact .inl ⟨_, _, _, v, rfl, rfl, sq_of k5, h3, hj _ F2 H2 x2 g2 h4⟩
      · exact hj.elim
    | _ => exact hj.elim
  · rename_i ds hi
    refine em_op p2_ix (em_var i) hb a H0 F H e σ n Q r ?_
    have hr : rd i e = .done (.list ds) := by unfold rd; rw [hi]
    show Tr.all _ ((rd i e).bind fun x => (mb e).bind fun y => o_ix x y) n
    rw [hr]
    exact q
  · exact q.elim
end
end Hr
namespace Hr
open PySem PySem.Spec PyProof.Rows L2 Evl
/-! ### the mirror's words -/
abbrev Ex_ := Env → Tr PyData
abbrev As_ := Env → Tr (List Sl)
abbrev Is_ := Env → Tr (List PyData)
abbrev Ts_ := Env → Tr Bool
abbrev Ss_ := Env → Tr Out
abbrev Gs_ := PyData → Env → Tr Env
@[simp, reducible] def xVar (i : Nat) (e : Env) : Tr PyData := rd i e
@[simp, reducible] def xC (d : PyData) (_ : Env) : Tr PyData := .done d
@[simp, reducible] def opK (g : PyData → PyData → Tr PyData) (mb : Ex_) (e : Env) (x : PyData) : Tr PyData := (mb e).bind (g x)
@[simp, reducible] def xOp (g : PyData → PyData → Tr PyData) (ma mb : Ex_) (e : Env) : Tr PyData := (ma e).bind (opK g mb e)
@[simp, reducible] def xUn (g : PyData → Tr PyData) (ma : Ex_) (e : Env) : Tr PyData := (ma e).bind g
@[simp, reducible] def andB (mb : Ex_) (e : Env) (b : Bool) : Tr PyData := if b = true then mb e else .done (.bool false)
@[simp, reducible] def andK (mb : Ex_) (e : Env) (x : PyData) : Tr PyData := (tobool x).bind (andB mb e)
@[simp, reducible] def xAnd (ma mb : Ex_) (e : Env) : Tr PyData := (ma e).bind (andK mb e)
@[simp, reducible] def orB (mb : Ex_) (e : Env) (b : Bool) : Tr PyData := if b = true then .done (.bool true) else mb e
@[simp, reducible] def orK (mb : Ex_) (e : Env) (x : PyData) : Tr PyData := (tobool x).bind (orB mb e)
@[simp, reducible] def xOr (ma mb : Ex_) (e : Env) : Tr PyData := (ma e).bind (orK mb e)
@[simp, reducible] def notK (x : PyData) : Tr PyData := (tobool x).bind fun b => .done (.bool (!b))
@[simp, reducible] def xNot (ma : Ex_) (e : Env) : Tr PyData := (ma e).bind notK
@[simp, reducible] def xIf (t : Ts_) (ma mb : Ex_) (e : Env) : Tr PyData := tmIte t ma mb e
@[simp, reducible] def xCb (g : List Sl → Tr PyData) (mr : As_) (e : Env) : Tr PyData := (mr e).bind g
@[simp, reducible] def xFn (g : List Sl → Tr PyData) (j : Nat) (mr : As_) (e : Env) : Tr PyData := (mr e).bind (lenIs j g)
@[simp, reducible] def tupK (es : List Sl) : Tr PyData := (dats es).bind (few PyData.tuple)
@[simp, reducible] def xTup (mr : As_) (e : Env) : Tr PyData := (mr e).bind tupK
@[simp, reducible] def lstK (es : List Sl) : Tr (List PyData) := (dats es).bind (few id)
@[simp, reducible] def xLst (mr : As_) (e : Env) : Tr (List PyData) := (mr e).bind lstK
@[simp, reducible] def lcK (mg : Gs_) (mt : Ts_) (me : Ex_) (vs : List Nat) (e : Env) (ds : List PyData) : Tr (List PyData) := compL mg mt me vs ds e
@[simp, reducible] def xLc (mi : Is_) (mg : Gs_) (mt : Ts_) (me : Ex_) (vs : List Nat) (e : Env) : Tr (List PyData) := (mi e).bind (lcK mg mt me vs e)
@[simp, reducible] def xEl (ml : Is_) (e : Env) : Tr PyData := (ml e).bind fun ds => .done (.list ds)
@[simp, reducible] def xIsi (f : PyData → Bool) (me : Ex_) (e : Env) : Tr PyData := (me e).bind fun d => .done (.bool (f d))
@[simp, reducible] def xBits (me : Ex_) (e : Env) : Tr PyData := (me e).bind o_bits
@[simp, reducible] def slK2 (mh : Env → Tr (Option Int)) (e : Env) (d : PyData) (lo : Option Int) : Tr PyData := (mh e).bind (o_sl d lo)
@[simp, reducible] def slK (ml mh : Env → Tr (Option Int)) (e : Env) (d : PyData) : Tr PyData := (ml e).bind (slK2 mh e d)
@[simp, reducible] def xSl (me : Ex_) (ml mh : Env → Tr (Option Int)) (e : Env) : Tr PyData := (me e).bind (slK ml mh e)
@[simp, reducible] def pNo (_ : Env) : Tr (Option Int) := .done none
@[simp, reducible] def pSo (me : Ex_) (e : Env) : Tr (Option Int) := (me e).bind toI
@[simp, reducible] def chK4 (g' : PyData → PyData → Tr PyData) (mc : Ex_) (e : Env) (y : PyData) (b : Bool) : Tr PyData := if b = true then (mc e).bind (g' y) else .done (.bool false)
@[simp, reducible] def chK3 (g' : PyData → PyData → Tr PyData) (mc : Ex_) (e : Env) (y z : PyData) : Tr PyData := (tobool z).bind (chK4 g' mc e y)
@[simp, reducible] def chK2 (g g' : PyData → PyData → Tr PyData) (mc : Ex_) (e : Env) (x y : PyData) : Tr PyData := (g x y).bind (chK3 g' mc e y)
@[simp, reducible] def chK (g g' : PyData → PyData → Tr PyData) (mb mc : Ex_) (e : Env) (x : PyData) : Tr PyData := (mb e).bind (chK2 g g' mc e x)
@[simp, reducible] def xChain (g g' : PyData → PyData → Tr PyData) (ma mb mc : Ex_) (e : Env) : Tr PyData := (ma e).bind (chK g g' mb mc e)
@[simp, reducible] def xLenOwn (i : Nat) (e : Env) : Tr PyData := (peekAt i e).bind fun ds => .done (.int (ds.length : Int))
@[simp, reducible] def ixoK (mb : Ex_) (e : Env) (ds : List PyData) : Tr PyData := (mb e).bind (o_ix (.list ds))
@[simp, reducible] def xIxOwn (i : Nat) (mb : Ex_) (e : Env) : Tr PyData := (peekAt i e).bind (ixoK mb e)
@[simp, reducible] def aNil (_ : Env) : Tr (List Sl) := .done []
@[simp, reducible] def consK (mr : As_) (e : Env) (d : PyData) : Tr (List Sl) := (mr e).bind fun ds => .done (.dat d :: ds)
@[simp, reducible] def aCons (me : Ex_) (mr : As_) (e : Env) : Tr (List Sl) := (me e).bind (consK mr e)
@[simp, reducible] def genK (mr : As_) (e : Env) (_ : Unit) : Tr (List Sl) := (mr e).bind fun ds => .done (.gen :: ds)
@[simp, reducible] def aGen (i : Nat) (mr : As_) (e : Env) : Tr (List Sl) := (rdGen i e).bind (genK mr e)
@[simp, reducible] def iSeq (f : PyData → Tr (List PyData)) (me : Ex_) (e : Env) : Tr (List PyData) := (me e).bind f
@[simp, reducible] def iCall (f : List Sl → Tr (List PyData)) (mr : As_) (e : Env) : Tr (List PyData) := (mr e).bind f
@[simp, reducible] def yB (me : Ex_) (e : Env) : Tr Bool := (me e).bind tobool
@[simp, reducible] def yTru (me : Ex_) (e : Env) : Tr Bool := (me e).bind truth
@[simp, reducible] def yYes (_ : Env) : Tr Bool := .done true
@[simp, reducible] def yNot (mt : Ts_) (e : Env) : Tr Bool := (mt e).bind fun b => .done (!b)
@[simp, reducible] def yandK (mu : Ts_) (e : Env) (b : Bool) : Tr Bool := if b = true then mu e else .done false
@[simp, reducible] def yAnd (mt mu : Ts_) (e : Env) : Tr Bool := (mt e).bind (yandK mu e)
@[simp, reducible] def yorK (mu : Ts_) (e : Env) (b : Bool) : Tr Bool := if b = true then .done true else mu e
@[simp, reducible] def yOr (mt mu : Ts_) (e : Env) : Tr Bool := (mt e).bind (yorK mu e)
@[simp, reducible] def tgName (i : Nat) (d : PyData) (e : Env) : Tr Env := .done (e.set i (.dat d))
@[simp, reducible] def tgNil (ds : List PyData) (e : Env) : Tr Env := match ds with | [] => .done e | _ => .fail
@[simp, reducible] def tgCons (mg : Gs_) (mgs : List PyData → Env → Tr Env) (ds : List PyData) (e : Env) : Tr Env := match ds with | [] => .fail | d :: ds => (mg d e).bind (mgs ds)
@[simp, reducible] def tgTup (n : Nat) (m : List PyData → Env → Tr Env) (d : PyData) (e : Env) : Tr Env := untup n m d e
@[simp, reducible] def zNext (e : Env) : Tr Out := .done (.nx e)
@[simp, reducible] def zBreak (e : Env) : Tr Out := .done (.bk e)
@[simp, reducible] def zCont (e : Env) : Tr Out := .done (.ct e)
@[simp, reducible] def zNever (_ : Env) : Tr Out := .fail
@[simp, reducible] def zSeq (ms mu : Ss_) (e : Env) : Tr Out := (ms e).bind (then_ mu)
@[simp, reducible] def asgK (mg : Gs_) (e : Env) (d : PyData) : Tr Out := (mg d e).bind fun e' => .done (.nx e')
@[simp, reducible] def zAsg (me : Ex_) (mg : Gs_) (e : Env) : Tr Out := (me e).bind (asgK mg e)
@[simp, reducible] def zAsgOwn (ml : Is_) (i : Nat) (e : Env) : Tr Out := (ml e).bind fun ds => .done (.nx (e.set i (.own ds)))
@[simp, reducible] def zRet (me : Ex_) (e : Env) : Tr Out := (me e).bind fun d => .done (.rt d)
@[simp, reducible] def zRetN (_ : Env) : Tr Out := .done (.rt .none)
@[simp, reducible] def zDrop (me : Ex_) (e : Env) : Tr Out := (me e).bind fun _ => .done (.nx e)
@[simp, reducible] def zIf (mt : Ts_) (ms mu : Ss_) (e : Env) : Tr Out := tmIte mt ms mu e
@[simp, reducible] def parK (i j : Nat) (e : Env) (es : List Sl) : Tr Out := match es with | [.dat x, .dat y] => .done (.nx ((e.set i (.dat x)).set j (.dat y))) | _ => .fail
@[simp, reducible] def zPar (i j : Nat) (ma : As_) (e : Env) : Tr Out := (ma e).bind (parK i j e)
@[simp, reducible] def poK (i j : Nat) (ml : Is_) (e : Env) (x : PyData) : Tr Out := (ml e).bind fun ds => .done (.nx ((e.set i (.dat x)).set j (.own ds)))
@[simp, reducible] def zParOwn (i j : Nat) (me : Ex_) (ml : Is_) (e : Env) : Tr Out := (me e).bind (poK i j ml e)
@[simp, reducible] def opaK (i j : Nat) (me : Ex_) (e : Env) (ds : List PyData) : Tr Out := (me e).bind fun y => .done (.nx ((e.set i (.own ds)).set j (.dat y)))
@[simp, reducible] def zOwnPar (i j : Nat) (ml : Is_) (me : Ex_) (e : Env) : Tr Out := (ml e).bind (opaK i j me e)
@[simp, reducible] def par3K (i j l : Nat) (e : Env) (es : List Sl) : Tr Out := match es with | [.dat x, .dat y, .dat z] => .done (.nx (((e.set i (.dat x)).set j (.dat y)).set l (.dat z))) | _ => .fail
@[simp, reducible] def zPar3 (i j l : Nat) (ma : As_) (e : Env) : Tr Out := (ma e).bind (par3K i j l e)
@[simp, reducible] def forK (mg : Gs_) (ms : Ss_) (e : Env) (ds : List PyData) : Tr Out := forM (loopBody mg ms) ds e
@[simp, reducible] def zFor (mi : Is_) (mg : Gs_) (ms : Ss_) (e : Env) : Tr Out := (mi e).bind (forK mg ms e)
@[simp, reducible] def zWhile (f : Nat) (mt : Ts_) (ms : Ss_) (e : Env) : Tr Out := whileM mt ms f e
@[simp, reducible] def zFrz (i : Nat) (ms : Ss_) (e : Env) : Tr Out := ms (frz i e)
@[simp, reducible] def appK2 (i : Nat) (e : Env) (ds : List PyData) (d : PyData) : Tr Out := if ds.length < 100000 then .done (.nx (e.set i (.own (ds ++ [d])))) else .fail
@[simp, reducible] def appK (i : Nat) (me : Ex_) (e : Env) (ds : List PyData) : Tr Out := (me e).bind (appK2 i e ds)
@[simp, reducible] def zApp (i : Nat) (me : Ex_) (e : Env) : Tr Out := (ownAt i e).bind (appK i me e)
@[simp, reducible] def setK3 (i : Nat) (e : Env) (ds : List PyData) (d j : PyData) : Tr Out := match j with
    | .int j => (match ixN ds.length j with | some k => .done (.nx (e.set i (.own (ds.set k d)))) | none => .fail)
    | _ => .fail
@[simp, reducible] def setK2 (i : Nat) (mb : Ex_) (e : Env) (ds : List PyData) (d : PyData) : Tr Out := (mb e).bind (setK3 i e ds d)
@[simp, reducible] def setK (i : Nat) (me mb : Ex_) (e : Env) (ds : List PyData) : Tr Out := (me e).bind (setK2 i mb e ds)
@[simp, reducible] def zSet (i : Nat) (me mb : Ex_) (e : Env) : Tr Out := (ownAt i e).bind (setK i me mb e)
/-! ### the built-ins' relations by name -/
section
variable {X : Cx}
abbrev rLenA (K : PySem.W.Frag) : List V → Hp → VK → Prop := fun xs H Q => ∃ x n, xs = [x] ∧ LenV K x H n ∧ Q (.int n) H
theorem cA_len : CallR X (.builtin "len") (rLenA X.K) := call_len
abbrev rIntA : List V → Hp → VK → Prop := fun xs H Q => (∃ i, xs = [.int i] ∧ Q (.int i) H) ∨ ∃ k, xs = [.bl k] ∧ Q (.int (if k then 1 else 0)) H
theorem cA_int : CallR X (.type "int") rIntA := call_int1
abbrev rBoolA : List V → Hp → VK → Prop := fun xs H Q => (∃ i, xs = [.int i] ∧ Q (.bl (i != 0)) H) ∨ ∃ k, xs = [.bl k] ∧ Q (.bl k) H
theorem cA_bool : CallR X (.type "bool") rBoolA := call_bool1
abbrev rAbsA : List V → Hp → VK → Prop := fun xs H Q => ∃ i, xs = [.int i] ∧ Q (.int (if i < 0 then -i else i)) H
theorem cA_abs : CallR X (.builtin "abs") rAbsA := call_abs
abbrev rMaxA : List V → Hp → VK → Prop := fun xs H Q => ∃ i j, xs = [.int i, .int j] ∧ Q (.int (if j > i then j else i)) H
theorem cA_max (hc : X.calm = true) : CallR X (.builtin "max") rMaxA := call_max2 hc
abbrev rMinA : List V → Hp → VK → Prop := fun xs H Q => ∃ i j, xs = [.int i, .int j] ∧ Q (.int (if j < i then j else i)) H
theorem cA_min (hc : X.calm = true) : CallR X (.builtin "min") rMinA := call_min2 hc
abbrev rListA (K : PySem.W.Frag) : List V → Hp → VK → Prop := fun xs H Q => ∃ p ys, xs = [.ref p] ∧ (SqL K H p ys ∨ SqT K H p ys) ∧ ∀ l, H l = none → Q (.ref l) (upd H l (.lst ys))
theorem cA_list : CallR X (.type "list") (rListA X.K) := call_list_of
abbrev rTupleA (K : PySem.W.Frag) : List V → Hp → VK → Prop := fun xs H Q => ∃ p ys, xs = [.ref p] ∧ ((SqL K H p ys ∧ ∀ l, H l = none → Q (.ref l) (upd H l (.tup ys))) ∨ (SqT K H p ys ∧ Q (.ref p) H))
theorem cA_tuple : CallR X (.type "tuple") (rTupleA X.K) := call_tuple_of
end
/-! ### promises of one kind from those of another -/
theorem ex_th {H H' : Hp} (e : Evl.Ex H H') : ∀ c, H c ≠ none → H' c ≠ none := fun c h z => by
  cases q : H c with
  | none => exact h q
  | some o => rw [e c o q] at z; cases z
/-- a promise by a value that hangs on the arguments alone -/
theorem Has.ofP {P : Program} {w : World} {K : PySem.W.Frag} {mg : Str → Option Value} {base : Heap} {k : Nat} {x : Str} {ps : List Str} {α : Type} {f : α → List V} {pre : α → Prop} {res : α → V} {j : Nat} {g : List Sl → Tr PyData}
    (h : Has P w K mg base k x ps (spP f pre res)) (hj : ps.length = j) (hg : ∀ a F es vs, RA K a F es vs → g es = .fail ∨ ∃ z d, g es = .done d ∧ vs = f z ∧ pre z ∧ ∀ F', Db K F' (res z) d) : Has P w K mg base k x ps (spM K g j) := by
  obtain ⟨a, fd, h1, h2, h3, h4⟩ := h.ex
  refine ⟨a, fd, h1, h2, h3, { len := fun vs H Q E q => by rw [hj]; exact q.1, go := (h4.imp ?_).go }⟩
  rintro vs H Q E ⟨hl, a, F, n, es, ex, ga, ra, q⟩
  rcases hg a F es vs ra with z | ⟨z, d, e1, e2, e3, e4⟩
  · rw [z] at q; exact q.elim
  · rw [e1] at q
    refine ⟨z, e2, e3, fun H' e => ?_⟩
    have q' : Pst K a F H Q d n := q
    exact q' (res z) F H' ⟨fun c o h _ => e c o h, ex_th e, Ex.refl F, ex.trans e, fun c e1 e2 => absurd e1 e2⟩ ⟨ga.nb, fun p hp => by
        obtain ⟨k1, m, k2, k3⟩ := ga p hp
        exact ⟨k1, m, k2.ex_of e, k3⟩⟩ (e4 F)
/-- by a new tuple -/
theorem Has.ofU {P : Program} {w : World} {K : PySem.W.Frag} {mg : Str → Option Value} {base : Heap} {k : Nat} {x : Str} {ps : List Str} {α : Type} {f : α → List V} {pre : α → Prop} {res : α → List V} {j : Nat} {g : List Sl → Tr PyData}
    (h : Has P w K mg base k x ps (spU f pre res)) (hj : ps.length = j) (hg : ∀ a F es vs, RA K a F es vs → g es = .fail ∨ ∃ z ds, g es = .done (.tuple ds) ∧ vs = f z ∧ pre z ∧ ∀ F', DbA K F' (res z) ds) : Has P w K mg base k x ps (spM K g j) := by
  obtain ⟨a, fd, h1, h2, h3, h4⟩ := h.ex
  refine ⟨a, fd, h1, h2, h3, { len := fun vs H Q E q => by rw [hj]; exact q.1, go := (h4.imp ?_).go }⟩
  rintro vs H Q E ⟨hl, a, F, n, es, ex, ga, ra, q⟩
  rcases hg a F es vs ra with z | ⟨z, d, e1, e2, e3, e4⟩
  · rw [z] at q; exact q.elim
  · rw [e1] at q
    refine ⟨z, e2, e3, fun p H' hp e hp' => ?_⟩
    have q' : Pst K a F H Q (.tuple d) n := q
    have fp := fresh_back ex hp
    refine q' (.ref p) (upd F p (.tup (res z))) H' ⟨fun c o h _ => e c o h, ex_th e, Ex.new fp, fun c o h => ?_, fun c e1 e2 => ?_⟩ ⟨ga.nb, fun r hr => ?_⟩ (.tup (st_of upd_same) (e4 _))
    · by_cases z : c = p
      · subst z; rw [upd_same] at h; cases h; exact hp'
      · rw [upd_ne z] at h; exact e _ _ (ex _ _ h)
    · by_cases z : c = p
      · subst z; exact hp
      · rw [upd_ne z] at e2; exact absurd e1 e2
    · obtain ⟨k1, m, k2, k3⟩ := ga r hr
      refine ⟨?_, m, k2.ex_of e, k3⟩
      rw [upd_ne (fun z => (ga r hr).there (by rw [z]; exact hp))]; exact k1
/-- the draw -/
def f_law_random : List Sl → Tr PyData
  | [.gen, .dat (.int b)] => .draw b fun z => .done (.int z)
  | _ => .fail
theorem Has.ofDraw {P : Program} {w : World} {K : PySem.W.Frag} {mg : Str → Option Value} {base : Heap} {k : Nat} {x : Str} {ps : List Str} (h : Has P w K mg base k x ps spRandom) (hj : ps.length = 2) : Has P w K mg base k x ps (spM K f_law_random 2) := by
  obtain ⟨a, fd, h1, h2, h3, h4⟩ := h.ex
  refine ⟨a, fd, h1, h2, h3, { len := fun vs H Q E q => by rw [hj]; exact q.1, go := (h4.imp ?_).go }⟩
  rintro vs H Q E ⟨hl, a, F, n, es, ex, ga, ra, q⟩
  unfold f_law_random at q
  split at q
  · cases ra with
    | gen e0 t =>
      cases t with
      | dat hd t =>
        cases t; cases hd
        rename_i b p
        obtain ⟨k1, m, k2, k3⟩ := ga p e0
        obtain ⟨q1, q2, q3, q4⟩ := q
        refine ⟨p, b, m, rfl, k2, q1, q2, by omega, fun z H' z0 zb g kp => ?_⟩
        have ne : ∀ c o, H c = some o → a ≠ some c → H' c = some o := fun c o e n => kp c o e fun z => n (by rw [e0, z])
        refine q4 z z0 zb (.int z) F H' ⟨ne, fun c h => ?_, Ex.refl F, fun c o e => ne c o (ex c o e) fun z => ?_, fun c e1 e2 => absurd e1 e2⟩ ⟨by have := ga.nb; omega, fun r hr => ?_⟩ (.int z)
        · by_cases z : c = p
          · subst z; obtain ⟨_, _, _, h', _⟩ := g.ex; rw [h']; exact nofun
          · cases q : H c with
            | none => exact absurd q h
            | some o => rw [kp c o q z]; exact nofun
        · rw [(ga c z).1] at e; cases e
        · rw [e0] at hr; cases hr
          exact ⟨k1, m + 100, g, by omega⟩
  · exact q.elim
/-- what calls a def by its mirror, from outside -/
theorem spM_use {K : PySem.W.Frag} {g : List Sl → Tr PyData} {j : Nat} {vs : List V} {H : Hp} {Q : VK} {E : XK} {a : Option Addr} {F : Hp} {n : Nat} {es : List Sl} (hl : vs.length = j) (ex : Evl.Ex F H) (ga : GenO a F H n) (ra : RA K a F es vs) (h : (g es).all (Pst K a F H Q) n) : spM K g j vs H Q E :=
  ⟨hl, a, F, n, es, ex, ga, ra, h⟩
end Hr
noncomputable section
namespace Hr
open PySem PySem.Spec PyProof.Rows L2 Evl
section
variable {K : PySem.W.Frag}
def o_divmod : List Sl → Tr PyData
  | [.dat (.int i), .dat (.int j)] => if j ≠ 0 ∧ sz j < 9000 then .done (.tuple [.int (i.fdiv j), .int (i.fmod j)]) else .fail
  | _ => .fail
theorem pc_divmod : PC K rDivmod o_divmod := fun a F H n es vs Q ex g0 hv q => by
  unfold o_divmod at q
  split at q
  · split at q
    · rename_i h
      cases hv with
      | dat h1 t =>
        cases t with
        | dat h2 t =>
          cases t; cases h1; cases h2
          exact ⟨_, _, rfl, ⟨h.1, nolong h.2⟩, fun p hp => q _ _ _ (Step.new ex hp) (g0.new hp) (.tup (st_of upd_same) (.cons (.int _) (.cons (.int _) .nil)))⟩
    · exact q.elim
  · exact q.elim
def o_gcd : List Sl → Tr PyData
  | [.dat (.int i), .dat (.int j)] => .done (.int ((Nat.gcd i.natAbs j.natAbs : Nat) : Int))
  | _ => .fail
theorem pc_gcd : PC K rGcd o_gcd := fun a F H n es vs Q ex g0 hv q => by
  unfold o_gcd at q
  split at q
  · cases hv with
    | dat h1 t =>
      cases t with
      | dat h2 t =>
        cases t; cases h1; cases h2
        exact ⟨_, _, rfl, q _ F H (Step.refl ex) g0 (.int _)⟩
  · exact q.elim
/-! list(range(..)) -/
noncomputable def o_rg : PyData → PyData → Tr (List PyData)
  | .int i, .int j => if InB i ∧ InB j ∧ (j - i).toNat ≤ 2 ^ 24 then .done (spanD i (j - i).toNat) else .fail
  | _, _ => .fail
theorem span_db {F : Hp} (i j : Int) : DbA K F (rgV i j) (spanD i (j - i).toNat) := by
  unfold rgV spanD
  generalize (j - i).toNat = n
  have : ∀ l : List Nat, DbA K F (l.map fun k : Nat => V.int (i + (k : Int) * 1)) (l.map fun (k : Nat) => PyData.int (i + (k : Int))) := by
    intro l
    induction l with
    | nil => exact .nil
    | cons a l ih => exact .cons (by show Db K F (.int (i + (a : Int) * 1)) (.int (i + (a : Int))); rw [Int.mul_one]; exact .int _) ih
  first
    | exact this _
    | (have h := this (List.range n); simpa using h)
theorem el_rg2 {ta tb : TE} {ma mb : Env → Tr PyData} (ha : EM K ta ma) (hb : EM K tb mb) : EL K (tLstRg (tRg2 ta tb)) (fun e => (ma e).bind fun x => (mb e).bind fun y => o_rg x y) :=
  fun a H0 F H e σ n Q r q => ha a H0 F H e σ n _ r (Tr.all_mono (fun x k hx v F1 H1 x1 g1 d1 => by
    refine hb a H0 F1 H1 e σ k _ (r.step x1 g1) (Tr.all_mono (fun y k2 hy u F2 H2 x2 g2 d2 => ?_) (Tr.all_bind.mp hx))
    have x12 := x1.trans x2
    unfold o_rg at hy
    split at hy
    · cases d1; cases d2
      split at hy
      · rename_i h
        simp only [inB] at h; refine ⟨_, _, rfl, rfl, ⟨by omega, by omega, by omega, by omega, h.2.2⟩, fun p hp => ?_⟩
        have f2 := fresh_back x2.fh hp
        have h0 : H p = none := by
          cases q : H p with
          | none => rfl
          | some o => exact absurd hp (x12.th p (by rw [q]; exact nofun))
        exact hy p _ F2 _ (x12.trans (Step.own x2.fh hp)) (g2.own hp) h0 f2 upd_same (span_db _ _)
      · exact hy.elim
    · exact hy.elim) (Tr.all_bind.mp q))
theorem el_rg1 {ta : TE} {ma : Env → Tr PyData} (ha : EM K ta ma) : EL K (tLstRg (tRg1 ta)) (fun e => (ma e).bind fun x => o_rg (.int 0) x) :=
  fun a H0 F H e σ n Q r q => ha a H0 F H e σ n _ r (Tr.all_mono (fun y k2 hy u F2 H2 x2 g2 d2 => by
    cases d2 with
    | int j =>
      have hy : Tr.all _ (if _ then _ else _) k2 := hy
      split at hy
      · rename_i h
        simp only [inB] at h; refine ⟨j, rfl, ⟨by omega, by omega, by omega, by omega, h.2.2⟩, fun p hp => ?_⟩
        have f2 := fresh_back x2.fh hp
        have h0 : H p = none := by
          cases q : H p with
          | none => rfl
          | some o => exact absurd hp (x2.th p (by rw [q]; exact nofun))
        exact hy p _ F2 _ (x2.trans (Step.own x2.fh hp)) (g2.own hp) h0 f2 upd_same (span_db 0 j)
      · exact hy.elim
    | _ => exact hy.elim) (Tr.all_bind.mp q))
end
@[simp, reducible] def xRg2 (ma mb : Ex_) : Is_ := fun e => (ma e).bind fun x => (mb e).bind fun y => o_rg x y
@[simp, reducible] def xRg1 (ma : Ex_) : Is_ := fun e => (ma e).bind fun x => o_rg (.int 0) x
/-- nothing is promised of a def -/
theorem Def.ofFail {P : Program} {w : World} {K : PySem.W.Frag} {mg : Str → Option Value} {base : Heap} {x : Str} {ps N : List Str} {st : Stmt} (D : Def K mg x st ps) (S : FnScope N ps (defScope st)) (j : Nat) (hj : ps.length = j) : Has P w K mg base 1 x ps (spM K (fun _ => .fail) j) :=
  D.hasS S (fun vs H Q E h => h.1.trans hj.symm) fun g cdv A out s H vs Q E hr h => by
    obtain ⟨_, a, F, n, es, _, _, _, q⟩ := h
    exact q.elim
end Hr
end
namespace Hr
open PySem PySem.Spec PyProof.Rows L2 Evl
/-- nothing is said of words that are folded -/
def f_folded : List Sl → Tr PyData := fun _ => .fail
end Hr
namespace Hr
open PySem PySem.Spec PyProof.Rows L2 Evl
/-! ### a generator that is made for one call; the law itself -/
def spGen {K : PySem.W.Frag} : Sp := fun vs H Q _ => ∃ (a : Addr) (ns : List Int) (i : Nat), vs = [.ref a, .int (i : Int)] ∧ SqL K H a (ns.map V.int) ∧ i ≤ 63 ∧ ∀ (p : Addr) (H' : Hp), H p = none → Evl.Ex H H' → GenAt H' p 100000 → Q (.ref p) H'
def spLaw (K : PySem.W.Frag) : Sp := fun vs H Q _ => ∃ (a : Addr) (ns : List Int), vs = [.ref a] ∧ SqL K H a (ns.map V.int) ∧ ns.length ≤ 63 ∧ ∀ H', Q (.bl true) H'
theorem Tr.all_le {α : Type} {P : α → Nat → Prop} : ∀ {t : Tr α} {n : Nat}, t.all P n → t.all (fun a m => P a m ∧ m ≤ n) n
  | .done _, n, h => ⟨h, Nat.le_refl n⟩
  | .fail, _, h => h
  | .draw _ _, n, ⟨h1, h2, h3, h4⟩ => ⟨h1, h2, h3, fun z z0 zb => Tr.all_mono (fun a m x => ⟨x.1, by have := x.2; omega⟩) (Tr.all_le (h4 z z0 zb))⟩
def rdScr (i : Nat) (e : Env) : Tr Unit := match e[i]? with | some .scr => .done () | _ => .fail
@[simp] theorem rdScr_0 (e : Env) : rdScr 0 (.scr :: e) = .done () := rfl
def cellI : PyData → Tr Unit
  | .int k => if decide (0 ≤ k ∧ k ≤ 63) = true then .done () else .fail
  | _ => .fail
@[simp] theorem cellI_i {k : Int} (h : 0 ≤ k ∧ k ≤ 63) : cellI (.int k) = .done () := if_pos (decide_eq_true h)
@[simp, reducible] def gcK5 (g : List Sl → Tr PyData) (j : Nat) (ds : List PyData) : Tr PyData := lenIs j g (.gen :: ds.map .dat)
@[simp, reducible] def gcK4 (g : List Sl → Tr PyData) (j : Nat) (es : List Sl) : Tr PyData := (dats es).bind (gcK5 g j)
@[simp, reducible] def gcK3 (g : List Sl → Tr PyData) (j : Nat) (mr : As_) (e : Env) (_ : Unit) : Tr PyData := (mr e).bind (gcK4 g j)
@[simp, reducible] def gcK2 (g : List Sl → Tr PyData) (j : Nat) (mr : As_) (e : Env) (d : PyData) : Tr PyData := (cellI d).bind (gcK3 g j mr e)
@[simp, reducible] def gcK (g : List Sl → Tr PyData) (j : Nat) (mi : Ex_) (mr : As_) (e : Env) (_ : Unit) : Tr PyData := (mi e).bind (gcK2 g j mr e)
@[simp, reducible] def xGen (g : List Sl → Tr PyData) (j i : Nat) (mi : Ex_) (mr : As_) (e : Env) : Tr PyData := (rdScr i e).bind (gcK g j mi mr e)
def o_catL : PyData → PyData → Tr (List PyData)
  | .list xs, .list ys => if xs.length + ys.length ≤ 100000 then .done (xs ++ ys) else .fail
  | _, _ => .fail
@[simp, reducible] def catK (mb : Ex_) (e : Env) (x : PyData) : Tr (List PyData) := (mb e).bind (o_catL x)
@[simp, reducible] def xCat (ma mb : Ex_) (e : Env) : Tr (List PyData) := (ma e).bind (catK mb e)
@[simp] theorem catL_ll {xs ys : List PyData} (h : xs.length + ys.length ≤ 100000) : o_catL (.list xs) (.list ys) = .done (xs ++ ys) := if_pos h
theorem el_cat {K : PySem.W.Frag} {ta tb : TE} {ma mb : Ex_} (ha : EM K ta ma) (hb : EM K tb mb) : EL K (tOp (rAddX K) ta tb) (xCat ma mb) :=
  fun a H0 F H e σ n Q r0 h => ha a H0 F H e σ n _ r0 (Tr.all_mono (fun x k hx v F1 H1 x1 g1 d1 => by
    refine hb a H0 F1 H1 e σ k _ (r0.step x1 g1) (Tr.all_mono (fun y k2 hy u F2 H2 x2 g2 d2 => ?_) (Tr.all_bind.mp hx))
    have d1 := db_ex x2.ff _ _ d1
    cases d1 with
    | lst h1 h2 =>
      cases d2 with
      | lst h3 h4 =>
        have hy' : Tr.all _ (if _ then _ else _) k2 := hy
        split at hy'
        · rename_i hl
          refine .inr (.inr (.inl ⟨_, _, _, _, rfl, rfl, x2.fh _ _ h1, x2.fh _ _ h3, sz_of (by rw [dba_len h2, dba_len h4]; exact hl), fun p hp => ?_⟩))
          have X := x1.trans x2
          refine hy' p _ F2 (upd H2 p _) (X.trans (Step.own x2.fh hp)) (g2.own hp) ?_ (fresh_back x2.fh hp) upd_same (dba_app h2 h4)
          cases w : H p with
          | none => rfl
          | some o => exact absurd hp (X.th p (by rw [w]; exact nofun))
        · exact hy'.elim
      | _ => exact hy.elim
    | _ => cases d2 <;> exact hy.elim) (Tr.all_bind.mp h))
theorem ra_dat {K : PySem.W.Frag} {a : Option Addr} {F : Hp} : ∀ {vs : List V} {ds : List PyData}, DbA K F vs ds → RA K a F (ds.map .dat) vs
  | _, _, .nil => .nil
  | _, _, .cons h t => .dat h (ra_dat t)
section
variable {K : PySem.W.Frag}
theorem em_gen {g : List Sl → Tr PyData} {j i : Nat} {E E' : XK} {ti : TE} {tr : TA} {mi : Ex_} {mr : As_} (hi : EM K ti mi) (hr : AM K tr mr) :
    EM K (tCall (spM K g j) [] E (tCons (tCall (spGen (K := K)) [] E' (tCons (tVar i) (tCons ti tNil))) tr)) (xGen g j i mi mr) :=
  fun a H0 F H e σ n Q r0 q => by
    have q' : ((rdScr i e).bind fun _ => (mi e).bind fun d => (cellI d).bind fun _ => (mr e).bind fun es => (dats es).bind fun ds => lenIs j g (.gen :: ds.map .dat)).all (Pst K a F H Q) n := q
    unfold rdScr at q'
    cases z : e[i]? with
    | none => rw [z] at q'; exact q'.elim
    | some s =>
      cases s with
      | scr =>
        rw [z] at q'
        obtain ⟨ov, h1, h2⟩ := r0.sl i _ z
        cases ov with
        | none => exact h2.elim
        | some v0 =>
          cases v0 with
          | ref p0 =>
            have h2 : ScrP K a H0 H p0 := h2
            refine ⟨_, h1, hi a H0 F H e σ n _ r0 (Tr.all_mono (fun d k hd v F1 H1 x1 g1 hv => ?_) (Tr.all_bind.mp q'))⟩
            cases hv with
            | int kk =>
              unfold cellI at hd
              simp only at hd
              split at hd
              · rename_i hk
                have hk := of_decide_eq_true hk
                obtain ⟨kn, rfl⟩ := Int.eq_ofNat_of_zero_le hk.1
                obtain ⟨ns, hsq⟩ := (h2.step x1).sq
                refine ⟨p0, ns, kn, rfl, hsq, by omega, fun p H2 hp ex gen => ?_⟩
                have ap : a ≠ some p := fun w => (g1 p w).there hp
                have x2 : Step a F1 H1 F1 H2 := ⟨fun c o h _ => ex c o h, ex_th ex, Ex.refl F1, x1.fh.trans ex, fun c e1 e2 => absurd e1 e2⟩
                have g2 : GenO a F1 H2 k := ⟨g1.nb, fun q hq => by
                  obtain ⟨k1, m, k2, k3⟩ := g1 q hq
                  exact ⟨k1, m, k2.ex_of ex, k3⟩⟩
                refine hr a H0 F1 H2 e σ k _ (r0.step (x1.trans x2) g2) (Tr.all_mono (fun es k3 hes vs F3 H3 x3 g3 hvs => ?_) (Tr.all_bind.mp hd))
                rcases dats_draw es with w | ⟨ds, w⟩
                · rw [w] at hes; exact hes.elim
                · rw [w] at hes
                  have hda := dats_ra hvs w
                  have hes' : (lenIs j g (.gen :: ds.map .dat)).all (Pst K a F H Q) k3 := hes
                  unfold lenIs at hes'
                  split at hes'
                  · rename_i hl
                    have f1 : F1 p = none := fresh_back x1.fh hp
                    obtain ⟨s0, s1, s2, hg, hrest⟩ := gen.ex
                    have f3 : F3 p = none := by
                      cases w2 : F3 p with
                      | none => rfl
                      | some o =>
                        have := x3.nw p f1 (by rw [w2]; exact nofun)
                        rw [hg] at this; cases this
                    have hp0 : H p = none := by
                      cases w2 : H p with
                      | none => rfl
                      | some o => exact absurd hp (x1.th p (by rw [w2]; exact nofun))
                    have X := x1.trans (x2.trans x3)
                    refine ⟨?_, some p, F3, k3, .gen :: ds.map .dat, x3.fh, ⟨g3.nb, fun r hr => ?_⟩, ?_, Tr.all_mono (fun d m hd v F' H' y gy hv => ?_) (Tr.all_le hes')⟩
                    · rw [List.append_nil, List.length_cons, dba_len hda, ← hl, List.length_cons, List.length_map]
                    · cases hr
                      have := g3.nb
                      exact ⟨f3, 100000, ⟨s0, s1, s2, x3.kp _ _ hg ap, hrest⟩, by omega⟩
                    · rw [List.append_nil]
                      exact .gen rfl (ra_dat hda)
                    · obtain ⟨hd, hm⟩ := hd
                      refine hd v F' H' ⟨fun c o h n => ?_, fun c h => y.th c (X.th c h), X.ff.trans y.ff, y.fh, fun c e1 e2 => ?_⟩ ⟨gy.nb, fun r hr => ?_⟩ hv
                      · exact y.kp c o (X.kp c o h n) (fun w => by cases w; rw [hp0] at h; cases h)
                      · cases w2 : F3 c with
                        | none =>
                          have h3 := y.nw c w2 e2
                          cases w3 : H c with
                          | none => rfl
                          | some o => exact absurd h3 (X.th c (by rw [w3]; exact nofun))
                        | some o => exact X.nw c e1 (by rw [w2]; exact nofun)
                      · obtain ⟨k1, m0, k2, k4⟩ := g3 r hr
                        have rp : r ≠ p := fun w => ap (by rw [hr, w])
                        have k5 : F' r = none := by
                          cases w2 : F' r with
                          | none => rfl
                          | some o => exact absurd (y.nw r k1 (by rw [w2]; exact nofun)) (g3 r hr).there
                        obtain ⟨t0, t1, t2, hg2, hr2⟩ := k2.ex
                        exact ⟨k5, m0, ⟨t0, t1, t2, y.kp _ _ hg2 (fun w => by cases w; exact rp rfl), hr2⟩, by omega⟩
                  · exact hes'.elim
              · exact hd.elim
            | _ => exact hd.elim
          | _ => exact h2.elim
      | _ => rw [z] at q'; exact q'.elim
end
end Hr
namespace Hr
open PySem PySem.Spec PyProof.Rows L2 Evl
/-! ### statements where no generator is about yet, and blocks behind one that is made -/
def SMn (K : PySem.W.Frag) (ts : TS) (m : Env → Tr Out) : Prop := ∀ F0 H0 F H e σ n (D : Ends), R K none H0 F H e σ n → Step none F0 H0 F H → (m e).all (Psm K none F0 H0 D) n → ts D σ H
section
variable {is : List Nat} {K : PySem.W.Frag} {te : TE} {tt : TT} {ts tu : TS} {me : Env → Tr PyData} {mt : Env → Tr Bool} {ms mu : Env → Tr Out} {g : TG} {mg : PyData → Env → Tr Env}
theorem n_of (h : SM K ts ms) : SMn K ts ms := fun F0 H0 F H e σ n D r s q => h none F0 H0 F H e σ n D r s q
theorem n_seq (h : SMn K ts ms) (h2 : SMn K tu mu) : SMn K (tSeq ts tu) (fun e => (ms e).bind (then_ mu)) := fun F0 H0 F H e σ n D r s q =>
  h F0 H0 F H e σ n _ r s (Tr.all_mono (fun o k ho => by
    cases o with
    | nx e' => exact fun F' H' σ' r' s' => h2 F0 H0 F' H' e' σ' k D r' s' ho
    | bk e' => exact ho
    | ct e' => exact ho
    | rt d => exact ho) (Tr.all_bind.mp q))
theorem n_if (h : TM K tt mt) (h1 : SMn K ts ms) (h2 : SMn K tu mu) : SMn K (tIfS tt ts tu) (tmIte mt ms mu) := fun F0 H0 F H e σ n D r s q =>
  h none H0 F H e σ n _ r (Tr.all_mono (fun b k hb F1 H1 x g1 => by
    cases b with
    | true => exact h1 F0 H0 F1 H1 e σ k D (r.step x g1) (s.trans x) hb
    | false => exact h2 F0 H0 F1 H1 e σ k D (r.step x g1) (s.trans x) hb) (Tr.all_bind.mp q))
theorem turnN {F0 H0 F H : Hp} {e : Env} {σ : L2.St} {n : Nat} {D : Ends} {d : PyData} {ds : List PyData} {v : V} (hg : GM K is g mg) (hc : Calm mg) (hb : SMn K ts ms) (r : R K none H0 F H e σ n) (s : Step none F0 H0 F H) (hv : Db K F v d)
    (q : (forM (loopBody mg ms) (d :: ds) e).all (Psm K none F0 H0 D) n) (N : L2.St → Hp → Prop)
    (hN : ∀ F' H' e' σ' n', R K none H0 F' H' e' σ' n' → Step none F0 H0 F' H' → (forM (loopBody mg ms) ds e').all (Psm K none F0 H0 D) n' → N σ' H') :
    g v σ H fun σ2 H2 => ts { D with nx := N, ct := N, bk := D.nx } σ2 H2 := by
  have q' := Tr.all_bind.mp q
  unfold loopBody at q'
  refine hg none H0 F H e σ n v d _ r hv ?_
  rcases hc d e with z | ⟨e', z⟩
  · rw [z] at q'; exact q'.elim
  · rw [z] at q' ⊢
    intro _ σ' r' _
    refine hb F0 H0 F H e' σ' n _ r' s (Tr.all_mono (fun o k ho => ?_) q')
    cases o with
    | nx e2 => exact fun F' H' σ2 r2 s2 => hN F' H' e2 σ2 k r2 s2 ho
    | ct e2 => exact fun F' H' σ2 r2 s2 => hN F' H' e2 σ2 k r2 s2 ho
    | bk e2 => exact ho
    | rt d => exact ho
theorem n_for {wi : TI} {mi : Env → Tr (List PyData)} (h : IM K wi mi) (hg : GM K is g mg) (hc : Calm mg) (hb : SMn K ts ms) : SMn K (tFor wi g ts) (fun e => (mi e).bind fun ds => forM (loopBody mg ms) ds e) := fun F0 H0 F H e σ n D r s q =>
  h none H0 F H e σ n _ r (Tr.all_mono (fun ds k hd J F1 H1 x g1 hi => by
    have s1 := s.trans x
    refine ⟨fun i m σ' H' => m = ds.length - i ∧ i ≤ ds.length ∧ ∃ F' e' n', R K none H0 F' H' e' σ' n' ∧ Step none F1 H0 F' H' ∧ (forM (loopBody mg ms) (ds.drop i) e').all (Psm K none F1 H0 D) n',
      ⟨ds.length, by simp, Nat.zero_le _, F1, e, k, r.step x g1, s1.rebase, Tr.all_mono (fun _ _ z => z.base s1) hd⟩, ?_⟩
    rintro i m σ' H' ⟨rfl, hil, F', e', n', r', s', q'⟩
    obtain ⟨hs, hy⟩ := hi none F' H' s'.ff r'.fh
    by_cases hlt : i < ds.length
    · obtain ⟨hgo, hyl⟩ := hy i ds[i] (List.getElem?_eq_getElem hlt)
      refine .inr ⟨hgo, fun σ2 H2 => ∃ F2 e2 n2, R K none H0 F2 H2 e2 σ2 n2 ∧ Step none F1 H0 F2 H2 ∧ (forM (loopBody mg ms) (ds.drop (i + 1)) e2).all (Psm K none F1 H0 D) n2, fun σ2 H2 w => ⟨ds.length - (i + 1), by omega, rfl, hlt, w⟩, fun y H2 yl => ?_⟩
      obtain ⟨F2, x2, g2, hyd⟩ := hyl y H2 yl
      rw [List.drop_eq_getElem_cons hlt] at q'
      exact turnN hg hc hb (r'.step x2 (g2 _ r'.ga)) (s'.trans x2) hyd q' _ fun F3 H3 e3 σ3 n3 r3 s3 q3 => ⟨F3, e3, n3, r3, s3, q3⟩
    · have e0 : i = ds.length := by omega
      refine .inl ⟨hs i e0, ?_⟩
      rw [e0, List.drop_length] at q'
      exact q' F' H' σ' r' s') (Tr.all_bind.mp q))
/-! a block behind a generator -/
def unG : Sl → Sl
  | .gen => .no
  | s => s
def noG (e : Env) : Env := e.map unG
def unO : Out → Out
  | .nx e => .nx (noG e)
  | .bk e => .bk (noG e)
  | .ct e => .ct (noG e)
  | .rt d => .rt d
@[simp] theorem noG_nil : noG [] = [] := rfl
@[simp] theorem noG_cons (s : Sl) (e : Env) : noG (s :: e) = unG s :: noG e := rfl
@[simp] theorem unG_gen : unG .gen = .no := rfl
@[simp] theorem unG_no : unG .no = .no := rfl
@[simp] theorem unG_dat (d : PyData) : unG (.dat d) = .dat d := rfl
@[simp] theorem unG_own (d : List PyData) : unG (.own d) = .own d := rfl
@[simp] theorem unG_scr : unG .scr = .scr := rfl
@[simp] theorem unO_nx (e : Env) : unO (.nx e) = .nx (noG e) := rfl
@[simp] theorem unO_rt (d : PyData) : unO (.rt d) = .rt d := rfl
theorem rs_in {a : Option Addr} {H0 F H : Hp} {p : Addr} {s : Sl} {ov : Option V} (h : RS K none H0 F H s ov) (hp : H p = none) : RS K (some p) H0 F H s ov := by
  cases s with
  | no => exact True.intro
  | dat d => cases ov <;> exact h
  | own ds =>
    cases ov with
    | none => exact h
    | some v =>
      cases v with
      | ref q =>
        obtain ⟨h1, h2, h3, xs, h4, h5⟩ := h
        refine ⟨h1, ?_, h3, xs, h4, h5⟩
        intro z
        cases z
        rw [hp] at h4
        cases h4
      | _ => exact h
  | gen =>
    cases ov with
    | none => exact h
    | some v =>
      cases v with
      | ref q =>
        have h : (none : Option Addr) = some q := h
        cases h
      | _ => exact h
  | scr =>
    cases ov with
    | none => exact h
    | some v =>
      cases v with
      | ref q =>
        obtain ⟨ns, h | h⟩ := h
        · obtain ⟨h1, h2, h3⟩ := h
          refine ⟨ns, .inl ⟨h1, fun z => ?_, h3⟩⟩
          cases z
          rcases h1 with h1 | ⟨o, h1⟩ <;> (rw [hp] at h1; cases h1)
        · exact ⟨ns, .inr h⟩
      | _ => exact h
theorem rs_out {H0 F H : Hp} {p : Addr} {s : Sl} {ov : Option V} (h : RS K (some p) H0 F H s ov) : RS K none H0 F H (unG s) ov := by
  cases s with
  | no => exact True.intro
  | dat d => cases ov <;> exact h
  | own ds =>
    cases ov with
    | none => exact h
    | some v =>
      cases v with
      | ref q =>
        obtain ⟨h1, h2, h3, xs, h4, h5⟩ := h
        exact ⟨h1, nofun, h3, xs, h4, h5⟩
      | _ => exact h
  | gen => exact True.intro
  | scr =>
    cases ov with
    | none => exact h
    | some v =>
      cases v with
      | ref q =>
        obtain ⟨ns, h | h⟩ := h
        · obtain ⟨h1, h2, h3⟩ := h
          exact ⟨ns, .inl ⟨h1, nofun, h3⟩⟩
        · exact ⟨ns, .inr h⟩
      | _ => exact h
theorem R.out {H0 F H : Hp} {p : Addr} {e : Env} {σ : L2.St} {n : Nat} (r : R K (some p) H0 F H e σ n) : R K none H0 F H (noG e) σ n where
  fh := r.fh
  ga := ⟨r.ga.nb, fun _ h => by cases h⟩
  ln := by unfold noG; rw [List.length_map]; exact r.ln
  sl := fun i s h => by
    unfold noG at h
    rw [List.getElem?_map] at h
    obtain ⟨s', h1, rfl⟩ := Option.map_eq_some_iff.mp h
    obtain ⟨ov, h2, h3⟩ := r.sl i s' h1
    exact ⟨ov, h2, rs_out h3⟩
  ds := fun i j q xs ys h1 h2 h3 h4 => by
    have back : ∀ {i : Nat} {xs : List PyData}, (noG e)[i]? = some (.own xs) → e[i]? = some (.own xs) := fun {i xs} h => by
      unfold noG at h
      rw [List.getElem?_map] at h
      obtain ⟨s', h1, h2⟩ := Option.map_eq_some_iff.mp h
      cases s' <;> first | (cases h2; exact h1) | cases h2
    exact r.ds i j q xs ys (back h1) (back h2) h3 h4
@[simp, reducible] def wiK2 (i : Nat) (ms : Env → Tr Out) (e : Env) (_ : Unit) : Tr Out := (ms (e.set i .gen)).bind fun o => .done (unO o)
@[simp, reducible] def wiK1 (i : Nat) (ms : Env → Tr Out) (e : Env) (d : PyData) : Tr Out := (cellI d).bind (wiK2 i ms e)
@[simp, reducible] def wiK (i : Nat) (mi : Ex_) (ms : Env → Tr Out) (e : Env) (_ : Unit) : Tr Out := (mi e).bind (wiK1 i ms e)
@[simp, reducible] def zWith (i s : Nat) (mi : Ex_) (ms : Env → Tr Out) (e : Env) : Tr Out := (rdScr s e).bind (wiK i mi ms e)
theorem n_with {i s : Nat} {E' : XK} {ti : TE} {mi : Ex_} (hi : EM K ti mi) (h : SM K ts ms) :
    SMn K (tSeq (tAsg (tCall (spGen (K := K)) [] E' (tCons (tVar s) (tCons ti tNil))) (gName i)) ts) (zWith i s mi ms) :=
  fun F0 H0 F H e σ n D r st q => by
    have q' : ((rdScr s e).bind (wiK i mi ms e)).all (Psm K none F0 H0 D) n := q
    unfold rdScr at q'
    cases z : e[s]? with
    | none => rw [z] at q'; exact q'.elim
    | some sl =>
      cases sl with
      | scr =>
        rw [z] at q'
        obtain ⟨ov, h1, h2⟩ := r.sl s _ z
        cases ov with
        | none => exact h2.elim
        | some v0 =>
          cases v0 with
          | ref p0 =>
            have h2 : ScrP K none H0 H p0 := h2
            have q2 : ((mi e).bind (wiK1 i ms e)).all (Psm K none F0 H0 D) n := q'
            refine ⟨_, h1, hi none H0 F H e σ n _ r (Tr.all_mono (fun d k hd v F1 H1 x1 g1 hv => ?_) (Tr.all_bind.mp q2))⟩
            cases hv with
            | int kk =>
              have hd : ((cellI (.int kk)).bind (wiK2 i ms e)).all (Psm K none F0 H0 D) k := hd
              by_cases hk0 : decide (0 ≤ kk ∧ kk ≤ 63) = true
              · have hk := of_decide_eq_true hk0
                have hd3 : ((ms (e.set i .gen)).bind fun o => .done (unO o)).all (Psm K none F0 H0 D) k := by
                  have e0 : cellI (.int kk) = .done () := if_pos hk0
                  rw [e0] at hd
                  exact hd
                obtain ⟨kn, rfl⟩ := Int.eq_ofNat_of_zero_le hk.1
                obtain ⟨ns, hsq⟩ := (h2.step x1).sq
                refine ⟨p0, ns, kn, rfl, hsq, by omega, fun p H2 hp ex gen => ?_⟩
                have x2 : Step none F1 H1 F1 H2 := ⟨fun c o h _ => ex c o h, ex_th ex, Ex.refl F1, x1.fh.trans ex, fun c e1 e2 => absurd e1 e2⟩
                have g2 : GenO none F1 H2 k := ⟨g1.nb, fun _ h => by cases h⟩
                have r2 := r.step (x1.trans x2) g2
                have X := st.trans (x1.trans x2)
                have st1 := st.trans x1
                obtain ⟨s0, s1, s2, hg, hrest⟩ := gen.ex
                have hH0 : H0 p = none := by
                  cases w : H0 p with
                  | none => rfl
                  | some o => exact absurd hp (st1.th p (by rw [w]; exact nofun))
                have f1 : F1 p = none := fresh_back x1.fh hp
                have hd2 : ((ms (e.set i .gen)).bind fun o => .done (unO o)).all (Psm K none F0 H0 D) k := hd3
                have r3 : R K (some p) H0 F1 H2 (e.set i .gen) (σ.set i (some (.ref p))) k := {
                  fh := r2.fh
                  ga := ⟨g1.nb, fun q hq => by
                    cases hq
                    have := g1.nb
                    exact ⟨f1, 100000, gen, by omega⟩⟩
                  ln := by rw [List.length_set, List.length_set]; exact r.ln
                  sl := fun j s' hj => by
                    rw [List.getElem?_set] at hj ⊢
                    by_cases e1 : i = j
                    · subst e1
                      rw [if_pos rfl] at hj ⊢
                      by_cases l : i < e.length
                      · rw [if_pos l] at hj
                        rw [if_pos (by rw [← r.ln]; exact l)]
                        cases hj
                        exact ⟨_, rfl, rfl⟩
                      · rw [if_neg l] at hj; cases hj
                    · rw [if_neg e1] at hj ⊢
                      obtain ⟨ov, k1, k2⟩ := r.sl j s' hj
                      refine ⟨ov, k1, ?_⟩
                      have k3 := rs_in (a := none) (k2.step x1) hp
                      refine RS.step (a := some p) ⟨fun c o h _ => ex c o h, ex_th ex, Ex.refl F1, x1.fh.trans ex, fun c e1 e2 => absurd e1 e2⟩ k3
                  ds := fun j l q xs ys k1 k2 k3 k4 => by
                    rw [List.getElem?_set] at k1 k2 k3 k4
                    by_cases e1 : i = j
                    · subst e1
                      rw [if_pos rfl] at k1
                      split at k1 <;> cases k1
                    · by_cases e2 : i = l
                      · subst e2
                        rw [if_pos rfl] at k2
                        split at k2 <;> cases k2
                      · rw [if_neg e1] at k1 k3; rw [if_neg e2] at k2 k4
                        exact r.ds j l q xs ys k1 k2 k3 k4 }
                have sp : Step (some p) F0 H0 F1 H2 := ⟨fun c o h _ => X.kp c o h nofun, X.th, X.ff, X.fh, X.nw⟩
                have back : ∀ {F' H' : Hp}, Step (some p) F0 H0 F' H' → Step none F0 H0 F' H' := fun {F' H'} y => ⟨fun c o h _ => y.kp c o h (fun w => by cases w; rw [hH0] at h; cases h), y.th, y.ff, y.fh, y.nw⟩
                refine h (some p) F0 H0 F1 H2 (e.set i .gen) (σ.set i (some (.ref p))) k D r3 sp (Tr.all_mono (fun o m ho => ?_) (Tr.all_bind.mp hd2))
                cases o with
                | nx e' => exact fun F' H' σ' r' s' => ho F' H' σ' r'.out (back s')
                | bk e' => exact fun F' H' σ' r' s' => ho F' H' σ' r'.out (back s')
                | ct e' => exact fun F' H' σ' r' s' => ho F' H' σ' r'.out (back s')
                | rt d => exact fun v F' H' s' g' hv => ho v F' H' (back s') ⟨g'.nb, fun _ h => by cases h⟩ hv
              · have e0 : cellI (.int kk) = .fail := if_neg hk0
                rw [e0] at hd
                exact hd.elim
            | _ => exact hd.elim
          | _ => exact h2.elim
      | _ => rw [z] at q'; exact q'.elim
end
section
variable {P : Program} {w : World} {K : PySem.W.Frag} {mg : Str → Option Value} {base : Heap}
theorem law_fq {k : Nat} {f : Addr} {fd : FuncData} {st : Stmt} {N : List Str} (F : Fun K "law" "law" st f fd) (S : FnScope N ["_law_script"] (defScope st)) (body : Ss_)
    (hbody : ∀ (cdv : Value) (A : Around) (out : List PySem.Env) (s : Shared) (H : Hp) (E : XK), Rm k (A.deeper (envOfC "law" (defScope st) s.heap.objs.size f cdv)) →
      ∃ t, PSs (cxOf CX0 P w K mg base N "law" (defScope st) f cdv A out s H E).nox (defBody st) t ∧ SMn K t body)
    (h : (runF (N.length - 1) body [.scr]).all (fun d _ => d = .bool true) 9000000) : Fq P w K mg base CX0 (k + 1) f fd ["_law_script"] (spLaw K) := by
  refine okq F S (by rintro _ _ _ _ ⟨a, ns, rfl, _⟩; rfl) (fun cdv A out s H vs Q E hr hh => ?_)
  obtain ⟨p, ns, rfl, hS, hlen, q⟩ := hh
  obtain ⟨t, ht, hm⟩ := hbody cdv A out s H E hr
  refine ⟨t, ht, ?_⟩
  have ga : GenO none (fun _ => none) H 9000000 := ⟨by decide, fun _ h => by cases h⟩
  have r0 : R K none H (fun _ => none) H ([.scr] ++ List.replicate (N.length - 1) .no) (L2.start N [.ref p]) 9000000 := {
    fh := fun _ _ h => by cases h
    ga := ga
    ln := by unfold L2.start; simp
    sl := fun i s h => by
      cases i with
      | zero =>
        cases (Option.some.inj h)
        refine ⟨some (.ref p), rfl, ?_⟩
        show ScrP K none H H p
        rcases hS with hS | hS
        · refine ⟨ns, .inl ⟨hS, nofun, ?_⟩⟩
          rcases hS with hS | ⟨o, hS⟩ <;> (rw [hS]; exact nofun)
        · exact ⟨ns, .inr hS⟩
      | succ i =>
        have h : (List.replicate (N.length - 1) Sl.no)[i]? = some s := h
        obtain ⟨h3, h4⟩ := List.getElem?_eq_some_iff.mp h
        rw [List.getElem_replicate] at h4
        subst h4
        rw [List.length_replicate] at h3
        refine ⟨none, ?_, True.intro⟩
        show (L2.start N [.ref p])[i + 1]? = some none
        unfold L2.start
        rw [List.getElem?_append_right (by simp)]
        simp only [List.length_map, List.length_singleton, Nat.add_sub_cancel]
        rw [List.getElem?_replicate, if_pos h3]
    ds := fun i j p xs ys h1 _ _ _ => by
      cases i with
      | zero => cases (Option.some.inj h1)
      | succ i =>
        have h1 : (List.replicate (N.length - 1) Sl.no)[i]? = some (.own xs) := h1
        obtain ⟨h3, h4⟩ := List.getElem?_eq_some_iff.mp h1
        rw [List.getElem_replicate] at h4; cases h4 }
  have h' : ((body ([.scr] ++ List.replicate (N.length - 1) .no)).bind fin).all (fun d _ => d = .bool true) 9000000 := h
  refine hm (fun _ => none) H (fun _ => none) H _ _ 9000000 _ r0 (Step.refl (fun _ _ h => by cases h)) (Tr.all_mono (fun o k2 ho => ?_) (Tr.all_bind.mp h'))
  cases o with
  | rt d =>
    have ho : d = .bool true := ho
    subst ho
    intro v F' H' s g hv
    cases hv
    exact q H'
  | nx e =>
    have ho : PyData.none = .bool true := ho
    cases ho
  | bk e => exact ho.elim
  | ct e => exact ho.elim
end
end Hr
namespace Hr
open PySem PySem.Spec PyProof.Rows L2 Evl
/-! ### an item of a list of one's own is changed by what it was -/
theorem get_lst {X : Cx} : PGet X (rIxL X.K) := by
  intro pins s σ H x y v u Q I rx ry h
  obtain ⟨p, xs, i, z, rfl, rfl, hq, he, q⟩ := h
  cases rx
  obtain ⟨t, rfl⟩ := ry
  obtain ⟨its, r, pl, hz⟩ := I.list hq
  obtain ⟨j, h1, h2, h3, h4, h5⟩ := atI_get he
  obtain ⟨w, ew, rw'⟩ := r.get h2
  have hl := r.length
  have hn := line63
  have fin : EP X pins σ Q w s := ⟨z, H, I, rw', q⟩
  by_cases h0 : 0 ≤ i
  · have hj : i.toNat = j := by
      rw [seqIndex_of h0 h5] at h1
      exact Option.some.inj h1
    exact wpAny_getItem_list (Q := EP X pins σ Q) pl.isList h0 (by omega) (by rw [hj]; simpa using ew) fin
  · have hj : (i + (its.toArray.size : Int)).toNat = j := by
      rw [seqIndex_neg (by omega) h4] at h1
      rw [List.size_toArray, ← hl]
      exact Option.some.inj h1
    exact wpAny_getItem_list_neg (Q := EP X pins σ Q) pl.isList (by omega) (by rw [List.size_toArray] <;> omega) (by omega) (by rw [hj]; simpa using ew) fin
@[simp, reducible] def augK4 (i : Nat) (e : Env) (ds : List PyData) (j : Int) (d : PyData) : Tr Out := match ixN ds.length j with | some k => .done (.nx (e.set i (.own (ds.set k d)))) | none => .fail
@[simp, reducible] def augK3 (g : PyData → PyData → Tr PyData) (i : Nat) (e : Env) (ds : List PyData) (j : Int) (x y : PyData) : Tr Out := (g x y).bind (augK4 i e ds j)
@[simp, reducible] def augK2 (g : PyData → PyData → Tr PyData) (i : Nat) (me : Ex_) (e : Env) (ds : List PyData) (j : PyData) : Tr Out := match j with
  | .int j => (match atI ds j with | some x => (me e).bind (augK3 g i e ds j x) | none => .fail)
  | _ => .fail
@[simp, reducible] def augK (g : PyData → PyData → Tr PyData) (i : Nat) (mj me : Ex_) (e : Env) (ds : List PyData) : Tr Out := (mj e).bind (augK2 g i me e ds)
@[simp, reducible] def zAug (g : PyData → PyData → Tr PyData) (i : Nat) (mj me : Ex_) (e : Env) : Tr Out := (ownAt i e).bind (augK g i mj me e)
section
variable {K : PySem.W.Frag}
/-- += and -= of ints -/
def IpOk (tip : TIp) (g : PyData → PyData → Tr PyData) : Prop := ∃ f : Int → Int → Int, tip = ipI f ∧ ∀ x y, g x y = .fail ∨ ∃ i j, x = .int i ∧ y = .int j ∧ g x y = .done (.int (f i j))
theorem ip_addOk : IpOk (ipI fun i j => i + j) (oI0 fun i j => .int (i + j)) := ⟨_, rfl, fun x y => by
  cases x <;> cases y <;> first | exact .inl rfl | exact .inr ⟨_, _, rfl, rfl, rfl⟩⟩
theorem ip_subOk : IpOk (ipI fun i j => i - j) o_sub := ⟨_, rfl, fun x y => by
  cases x <;> cases y <;> first | exact .inl rfl | exact .inr ⟨_, _, rfl, rfl, rfl⟩⟩
theorem sm_aug {tip : TIp} {g : PyData → PyData → Tr PyData} {tj te : TE} {mj me : Ex_} (i : Nat) (hg : IpOk tip g) (hj : EM K tj mj) (h : EM K te me) : SM K (tAugS (tVar i) tj te (rIxL K) tip rSetL) (zAug g i mj me) := fun a F0 H0 F H e σ n D r s q => by
  have q' : ((ownAt i e).bind (augK g i mj me e)).all (Psm K a F0 H0 D) n := q
  unfold ownAt at q'
  split at q'
  · rename_i ds hi
    obtain ⟨p, xs, h1, h2, h3, h4, h5, h6⟩ := r.own hi
    have q2 : ((mj e).bind (augK2 g i me e ds)).all (Psm K a F0 H0 D) n := q'
    refine ⟨_, h1, hj a H0 F H e σ n _ r (Tr.all_mono (fun d k hd v F1 H1 x g1 hv => ?_) (Tr.all_bind.mp q2))⟩
    cases hv with
    | int j =>
      have hd : (match atI ds j with | some x => (me e).bind (augK3 g i e ds j x) | none => Tr.fail).all (Psm K a F0 H0 D) k := hd
      cases hat : atI ds j with
      | none => rw [hat] at hd; exact hd.elim
      | some y =>
        rw [hat] at hd
        have hd : ((me e).bind (augK3 g i e ds j y)).all (Psm K a F0 H0 D) k := hd
        have r1 := r.step x g1
        obtain ⟨p', xs1, k1, k2, k3, k4, k5, k6⟩ := r1.own hi
        rw [h1] at k1; cases k1
        obtain ⟨yv, e1, e2⟩ := dba_atI k6 hat
        refine ⟨p, xs1, j, yv, rfl, rfl, sq_of k5, e1, h a H0 F1 H1 e σ k _ r1 (Tr.all_mono (fun z kz hz u F2 H2 x2 g2 hu => ?_) (Tr.all_bind.mp hd))⟩
        obtain ⟨f, rfl, hf⟩ := hg
        rcases hf y z with w | ⟨iy, iz, rfl, rfl, w⟩
        · have hz : ((g y z).bind (augK4 i e ds j)).all (Psm K a F0 H0 D) kz := hz
          rw [w] at hz; exact hz.elim
        · have hz : ((g (.int iy) (.int iz)).bind (augK4 i e ds j)).all (Psm K a F0 H0 D) kz := hz
          rw [w] at hz
          have hz : (match ixN ds.length j with | some k => Tr.done (Out.nx (e.set i (.own (ds.set k (.int (f iy iz)))))) | none => Tr.fail).all (Psm K a F0 H0 D) kz := hz
          cases e2
          cases hu
          refine ⟨iy, iz, rfl, rfl, ?_⟩
          have r2 := r1.step x2 g2
          obtain ⟨p', xs2, l1, l2, l3, l4, l5, l6⟩ := r2.own hi
          rw [h1] at l1; cases l1
          cases hk : ixN ds.length j with
          | none => rw [hk] at hz; exact hz.elim
          | some k' =>
            rw [hk] at hz
            refine ⟨p, xs2, j, k', rfl, rfl, l5, by rw [dba_len l6]; exact hk, ?_⟩
            obtain ⟨r3, s3⟩ := r2.chg (s.trans (x.trans x2)) hi h1 l2 l3 l4 (dba_set k' l6 (.int _))
            exact hz _ _ σ r3 s3
    | _ => exact hd.elim
  · exact q'.elim
/-! ### lists of one's own by repetition, by list(..) -/
theorem el_rep {ta tb : TE} {ma mb : Ex_} (ha : EM K ta ma) (hb : EM K tb mb) : EL K (tOp rMulX ta tb) (fun e => (ma e).bind fun x => (mb e).bind fun y => match x, y with
    | .list xs, .int k => if InB k ∧ xs.length * k.toNat ≤ 100000 then .done (List.replicate k.toNat xs).flatten else .fail
    | _, _ => .fail) :=
  fun a H0 F H e σ n Q r0 h => ha a H0 F H e σ n _ r0 (Tr.all_mono (fun x k hx v F1 H1 x1 g1 d1 => by
    refine hb a H0 F1 H1 e σ k _ (r0.step x1 g1) (Tr.all_mono (fun y k2 hy u F2 H2 x2 g2 d2 => ?_) (Tr.all_bind.mp hx))
    have d1 := db_ex x2.ff _ _ d1
    cases d1 with
    | lst h1 h2 =>
      cases d2 with
      | int j =>
        have hy' : Tr.all _ (if _ then _ else _) k2 := hy
        split at hy'
        · rename_i hl
          simp only [inB] at hl
          refine .inr ⟨_, j, _, rfl, rfl, x2.fh _ _ h1, by omega, by omega, sz_of (by rw [dba_len h2]; exact hl.2), fun p hp => ?_⟩
          have X := x1.trans x2
          refine hy' p _ F2 (upd H2 p _) (X.trans (Step.own x2.fh hp)) (g2.own hp) ?_ (fresh_back x2.fh hp) upd_same (dba_rep h2 _)
          cases w : H p with
          | none => rfl
          | some o => exact absurd hp (X.th p (by rw [w]; exact nofun))
        · exact hy'.elim
      | _ => exact hy.elim
    | _ => cases d2 <;> exact hy.elim) (Tr.all_bind.mp h))
@[simp, reducible] def o_repL (x y : PyData) : Tr (List PyData) := match x, y with
    | .list xs, .int k => if InB k ∧ xs.length * k.toNat ≤ 100000 then .done (List.replicate k.toNat xs).flatten else .fail
    | _, _ => .fail
@[simp, reducible] def repK (mb : Ex_) (e : Env) (x : PyData) : Tr (List PyData) := (mb e).bind (o_repL x)
@[simp, reducible] def xRep (ma mb : Ex_) (e : Env) : Tr (List PyData) := (ma e).bind (repK mb e)
theorem el_rep' {ta tb : TE} {ma mb : Ex_} (ha : EM K ta ma) (hb : EM K tb mb) : EL K (tOp rMulX ta tb) (xRep ma mb) := el_rep ha hb
def o_listL : List Sl → Tr (List PyData)
  | [.dat (.list xs)] => .done xs
  | [.dat (.tuple xs)] => .done xs
  | _ => .fail
@[simp] theorem listL_l (xs : List PyData) : o_listL [.dat (.list xs)] = .done xs := rfl
@[simp] theorem listL_t (xs : List PyData) : o_listL [.dat (.tuple xs)] = .done xs := rfl
@[simp, reducible] def xList (mr : As_) (e : Env) : Tr (List PyData) := (mr e).bind o_listL
theorem el_list {tr : TA} {mr : As_} (ha : AM K tr mr) : EL K (tCB (rListA K) tr) (xList mr) :=
  fun a H0 F H e σ n Q r0 q => ha a H0 F H e σ n _ r0 (Tr.all_mono (fun es k hes vs F1 H1 x1 g1 hv => by
    have hes' : (o_listL es).all (fun ds k => ∀ p xs F' H', Step a F H F' H' → GenO a F' H' k → H p = none → F' p = none → H' p = some (.lst xs) → DbA K F' xs ds → Q (.ref p) H') k := hes
    have go : ∀ (p : Addr) (xs : List V) (ds : List PyData), DbA K F1 xs ds → H1 p = none → (∀ p xs F' H', Step a F H F' H' → GenO a F' H' k → H p = none → F' p = none → H' p = some (.lst xs) → DbA K F' xs ds → Q (.ref p) H') → Q (.ref p) (upd H1 p (.lst xs)) := fun p xs ds hd hp hq => by
      refine hq p xs F1 (upd H1 p _) (x1.trans (Step.own x1.fh hp)) (g1.own hp) ?_ (fresh_back x1.fh hp) upd_same hd
      cases w : H p with
      | none => rfl
      | some o => exact absurd hp (x1.th p (by rw [w]; exact nofun))
    unfold o_listL at hes'
    split at hes'
    · cases hv with
      | dat h t =>
        cases t
        cases h with
        | lst h1 h2 => exact ⟨_, _, rfl, .inl (sq_of (x1.fh _ _ h1)), fun p hp => go p _ _ h2 hp hes'⟩
    · cases hv with
      | dat h t =>
        cases t
        cases h with
        | tup h1 h2 => exact ⟨_, _, rfl, .inr (ex_t x1.fh h1), fun p hp => go p _ _ h2 hp hes'⟩
    · exact hes'.elim) (Tr.all_bind.mp q))
/-! ### defs that return a list of their own -/
def spMO (K : PySem.W.Frag) (g : List Sl → Tr (List PyData)) (k : Nat) : Sp := fun vs H Q _ => vs.length = k ∧ ∃ a F n es, Evl.Ex F H ∧ GenO a F H n ∧ RA K a F es vs ∧
  (g es).all (fun ds m => ∀ p xs F' H', Step a F H F' H' → GenO a F' H' m → H p = none → F' p = none → H' p = some (.lst xs) → DbA K F' xs ds → Q (.ref p) H') n
def lenIsO (j : Nat) (g : List Sl → Tr (List PyData)) (es : List Sl) : Tr (List PyData) := if es.length = j then g es else .fail
@[simp] theorem lenIsO_n (j : Nat) (g : List Sl → Tr (List PyData)) (es : List Sl) (h : es.length = j) : lenIsO j g es = g es := if_pos h
@[simp, reducible] def xFnO (g : List Sl → Tr (List PyData)) (j : Nat) (mr : As_) (e : Env) : Tr (List PyData) := (mr e).bind (lenIsO j g)
theorem el_fn {g : List Sl → Tr (List PyData)} {j : Nat} {E : XK} {tr : TA} {mr : As_} (ha : AM K tr mr) : EL K (tCall (spMO K g j) [] E tr) (xFnO g j mr) :=
  fun a H0 F H e σ n Q r0 q => ha a H0 F H e σ n _ r0 (Tr.all_mono (fun ds k hds vs F1 H1 x g1 hvs => by
    have hds' : (lenIsO j g ds).all (fun ds k => ∀ p xs F' H', Step a F H F' H' → GenO a F' H' k → H p = none → F' p = none → H' p = some (.lst xs) → DbA K F' xs ds → Q (.ref p) H') k := hds
    unfold lenIsO at hds'
    split at hds'
    · rename_i hl
      refine ⟨?_, a, F1, k, ds, x.fh, g1, ?_, Tr.all_mono (fun z k3 hz p xs F' H' y gy hp fp hp' hd => ?_) hds'⟩
      · rw [List.append_nil, ← hvs.len]; exact hl
      · rw [List.append_nil]; exact hvs
      · refine hz p xs F' H' (x.trans y) gy ?_ fp hp' hd
        cases w : H p with
        | none => rfl
        | some o => exact absurd hp (x.th p (by rw [w]; exact nofun))
    · exact hds'.elim) (Tr.all_bind.mp q))
/-- statements that end by returning a list of one's own -/
def SMO (K : PySem.W.Frag) (ts : TS) (m : Env → Tr (List PyData)) : Prop := ∀ a F0 H0 F H e σ n (D : Ends), R K a H0 F H e σ n → Step a F0 H0 F H →
  (m e).all (fun ds k => ∀ p xs F' H', Step a F0 H0 F' H' → GenO a F' H' k → H0 p = none → F' p = none → H' p = some (.lst xs) → DbA K F' xs ds → D.rt (.ref p) H') n → ts D σ H
theorem o_ret {te : TE} {ml : Env → Tr (List PyData)} (h : EL K te ml) : SMO K (tRet te) ml := fun a F0 H0 F H e σ n D r s q =>
  h a H0 F H e σ n _ r (Tr.all_mono (fun ds k hd p xs F1 H1 x g hp fp hp1 hdb => hd p xs F1 H1 (s.trans x) g (by
    cases w : H0 p with
    | none => rfl
    | some o => exact absurd hp (s.th p (by rw [w]; exact nofun))) fp hp1 hdb) q)
theorem o_retVar (i : Nat) : SMO K (tRet (tVar i)) (ownAt i) := fun a F0 H0 F H e σ n D r s q => by
  unfold ownAt at q
  split at q
  · rename_i ds hi
    obtain ⟨p, xs, h1, h2, h3, h4, h5, h6⟩ := r.own hi
    exact ⟨_, h1, q p xs F H s r.ga h4 h2 h5 h6⟩
  · exact q.elim
@[simp, reducible] def thenO (m : Env → Tr (List PyData)) : Out → Tr (List PyData)
  | .nx e => m e
  | _ => .fail
@[simp, reducible] def zSeqO (ms : Ss_) (mu : Env → Tr (List PyData)) (e : Env) : Tr (List PyData) := (ms e).bind (thenO mu)
theorem o_seq {ts tu : TS} {ms : Ss_} {mu : Env → Tr (List PyData)} (h : SM K ts ms) (h2 : SMO K tu mu) : SMO K (tSeq ts tu) (zSeqO ms mu) := fun a F0 H0 F H e σ n D r s q =>
  h a F0 H0 F H e σ n _ r s (Tr.all_mono (fun o k ho => by
    cases o with
    | nx e' => exact fun F' H' σ' r' s' => h2 a F0 H0 F' H' e' σ' k D r' s' ho
    | bk e' => exact ho.elim
    | ct e' => exact ho.elim
    | rt d => exact ho.elim) (Tr.all_bind.mp q))
def runO (j : Nat) (body : Env → Tr (List PyData)) (es : List Sl) : Tr (List PyData) := body (es ++ List.replicate j .no)
end
section
variable {P : Program} {w : World} {K : PySem.W.Frag} {mg : Str → Option Value} {base : Heap} {k j : Nat} {x : Str} {ps N : List Str} {st : Stmt}
theorem Def.hasMO (D : Def K mg x st ps) (S : FnScope N ps (defScope st)) (body : Env → Tr (List PyData))
    (hbody : ∀ (g : Addr) (cdv : Value) (A : Around) (out : List PySem.Env) (s : Shared) (H : Hp) (E : XK), Rm k (A.deeper (envOfC x (defScope st) s.heap.objs.size g cdv)) →
      ∃ t, PSs (cxOf CX0 P w K mg base N x (defScope st) g cdv A out s H E).nox (defBody st) t ∧ SMO K t body) :
    Has P w K mg base (k + 1) x ps (spMO K (runO (N.length - ps.length) body) ps.length) := by
  refine D.hasS S (fun vs H Q E h => h.1) (fun g cdv A out s H vs Q E hr h => ?_)
  obtain ⟨hl, a, F, n, es, fh, ga, ra, q⟩ := h
  obtain ⟨t, ht, hm⟩ := hbody g cdv A out s H E hr
  refine ⟨t, ht, ?_⟩
  have r0 := R.start N fh ga ra
  rw [hl] at r0
  exact hm a F H F H _ _ n _ r0 (Step.refl fh) q
end
/-! ### range with a step -/
/-- the numbers down from lo, n of them -/
def spanDn (lo : Int) (n : Nat) : List PyData := (List.range n).map fun (i : Nat) => .int (lo - (i : Int))
def rng3 : List Sl → Tr (List PyData)
  | [.dat (.int i), .dat (.int j), .dat (.int c)] => if c = -1 ∧ InB i ∧ InB j then .done (spanDn i (i - j).toNat) else .fail
  | _ => .fail
theorem iter_dn {K : PySem.W.Frag} {lo : Int} {n : Nat} {F1 : Hp} : Iter K (Itc lo (-1) n) F1 (spanDn lo n) := fun a F H e1 e2 => ⟨fun i hi => by
    have : (spanDn lo n).length = n := by unfold spanDn; simp
    show n ≤ i
    omega, fun i d hi => by
    unfold spanDn at hi
    rw [List.getElem?_map] at hi
    obtain ⟨j, h1, h2⟩ := Option.map_eq_some_iff.mp hi
    obtain ⟨h3, h4⟩ := List.getElem?_eq_some_iff.mp h1
    rw [List.length_range] at h3
    rw [List.getElem_range] at h4
    subst h4
    subst h2
    refine ⟨h3, fun x H' hx => ?_⟩
    obtain ⟨e3, e4⟩ := hx
    subst e3 e4
    refine ⟨F, Step.refl e2, fun _ g => g, ?_⟩
    have : lo + (i : Int) * -1 = lo - (i : Int) := by omega
    rw [this]; exact .int _⟩
theorem im_rng3 {K : PySem.W.Frag} {ta : TA} {ma : Env → Tr (List Sl)} (h : AM K ta ma) : IM K (iRng3 ta) (fun e => (ma e).bind rng3) := fun a H0 F H e σ n Q r q =>
  h a H0 F H e σ n _ r (Tr.all_mono (fun es k hd vs F1 H1 x g1 hv => by
    unfold rng3 at hd
    split at hd
    · split at hd
      · rename_i i j c hj
        cases hv with
        | dat h1 t =>
          cases t with
          | dat h2 t =>
            cases t with
            | dat h3 t =>
              cases h1; cases h2; cases h3; cases t
              obtain ⟨rfl, hi, hj⟩ := hj
              have b1 := (inB i).mp hi
              have b2 := (inB j).mp hj
              exact ⟨i, j, -1, (i - j).toNat, rfl, RgC.neg (by omega) (by omega) (by omega) (by omega), hd _ F1 H1 x g1 iter_dn⟩
      · exact hd.elim
    · exact hd.elim) (Tr.all_bind.mp q))
end Hr
namespace Hr
open PySem PySem.Spec PyProof.Rows L2 Evl
/-! ### a list of one's own that is lent to a test -/
def unP (F : Hp) (p : Addr) : Hp := fun c => if c = p then none else F c
theorem unP_p {F : Hp} {p : Addr} : unP F p p = none := if_pos rfl
theorem unP_ne {F : Hp} {p c : Addr} (h : c ≠ p) : unP F p c = F c := if_neg h
section
variable {K : PySem.W.Frag} {a : Option Addr} {F H F2 H2 : Hp} {p : Addr} {xs : List V}
theorem Step.lend (h1 : F p = none) (hp : H p = some (.lst xs)) (x : Step a (upd F p (.lst xs)) H F2 H2) : Step a F H (unP F2 p) H2 where
  kp := x.kp
  th := x.th
  ff := fun c o e => by
    have ne : c ≠ p := fun z => by rw [z, h1] at e; cases e
    rw [unP_ne ne]
    exact x.ff c o (by rw [upd_ne ne]; exact e)
  fh := fun c o e => by
    by_cases z : c = p
    · rw [z, unP_p] at e; cases e
    · rw [unP_ne z] at e; exact x.fh c o e
  nw := fun c e n => by
    by_cases z : c = p
    · rw [z, unP_p] at n; exact absurd rfl n
    · rw [unP_ne z] at n
      exact x.nw c (by rw [upd_ne z]; exact e) n
theorem R.lend {H0 : Hp} {e : Env} {σ : L2.St} {n m i : Nat} {ds : List PyData} (r : R K a H0 F H e σ n) (hi : e[i]? = some (.own ds)) (h1 : σ[i]? = some (some (.ref p))) (h2 : F p = none) (h5 : H p = some (.lst xs)) (x : Step a (upd F p (.lst xs)) H F2 H2) (g : GenO a F2 H2 m) :
    R K a H0 (unP F2 p) H2 e σ m where
  fh := (x.lend h2 h5).fh
  ga := ⟨g.nb, fun q hq => by
    obtain ⟨k1, k2⟩ := g q hq
    refine ⟨?_, k2⟩
    by_cases z : q = p
    · rw [z, unP_p]
    · rw [unP_ne z]; exact k1⟩
  ln := r.ln
  sl := fun j s hj => by
    obtain ⟨ov, k1, k2⟩ := r.sl j s hj
    refine ⟨ov, k1, ?_⟩
    have st := x.lend h2 h5
    cases s with
    | own es =>
      cases ov with
      | none => exact k2
      | some v =>
        cases v with
        | ref q =>
          obtain ⟨l1, l2, l3, ys, l4, l5⟩ := k2
          refine ⟨?_, l2, l3, ys, st.kp _ _ l4 l2, dba_ex st.ff _ _ l5⟩
          by_cases z : q = p
          · rw [z, unP_p]
          · rw [unP_ne z]
            cases w : F2 q with
            | none => rfl
            | some o =>
              have := x.nw q (by rw [upd_ne z]; exact l1) (by rw [w]; exact nofun)
              rw [l4] at this; cases this
        | _ => exact k2
    | no => exact True.intro
    | dat d => exact RS.step st k2
    | gen => exact RS.step st k2
    | scr => exact RS.step st k2
  ds := r.ds
/-- slots lent: the state in which they are data -/
def lent : List Nat → Env → Env
  | [], e => e
  | i :: is, e => lent is (frz i e)
/-- a test behind which the lists are one's own again -/
theorem tm_lend (i : Nat) {tt : TT} {mt : Env → Tr Bool} (h : TM K tt mt) : TM K tt (fun e => mt (frz i e)) := fun a H0 F H e σ n Q r q => by
  unfold frz at q
  dsimp only at q
  split at q
  · rename_i ds hi
    obtain ⟨p, xs, h1, h2, h3, h4, h5, h6⟩ := r.own hi
    refine h a H0 (upd F p (.lst xs)) H (e.set i (.dat (.list ds))) σ n Q (r.frz hi h1 h2 h3 h5 h6) (Tr.all_mono (fun b k hb F1 H1 x g => ?_) q)
    refine hb (unP F1 p) H1 (x.lend h2 h5) ⟨g.nb, fun q hq => ?_⟩
    obtain ⟨k1, k2⟩ := g q hq
    refine ⟨?_, k2⟩
    by_cases z : q = p
    · rw [z, unP_p]
    · rw [unP_ne z]; exact k1
  · exact h a H0 F H e σ n Q r q
/-- a value that stands for itself: what was lent comes back -/
def flatR (d : PyData) : Tr PyData := match d with
  | .none => .done .none
  | .bool b => .done (.bool b)
  | .int i => .done (.int i)
  | .str s => .done (.str s)
  | _ => .fail
@[simp] theorem flatR_n : flatR .none = .done .none := rfl
@[simp] theorem flatR_b (b : Bool) : flatR (.bool b) = .done (.bool b) := rfl
@[simp] theorem flatR_i (i : Int) : flatR (.int i) = .done (.int i) := rfl
@[simp] theorem flatR_s (s : Str) : flatR (.str s) = .done (.str s) := rfl
theorem em_lend (i : Nat) {te : TE} {me : Ex_} (h : EM K te me) : EM K te (fun e => (me (frz i e)).bind flatR) := fun a H0 F H e σ n Q r q => by
  have fl : ∀ {F1 F2 : Hp} {v : V} {d : PyData} {P : PyData → Nat → Prop} {k : Nat}, Db K F1 v d → (flatR d).all P k → P d k ∧ Db K F2 v d := fun {F1 F2 v d P k} hv hq => by
    cases hv with
    | non => exact ⟨hq, .non⟩
    | bl b => exact ⟨hq, .bl b⟩
    | int j => exact ⟨hq, .int j⟩
    | str s => exact ⟨hq, .str s⟩
    | _ => exact hq.elim
  have q' := Tr.all_bind.mp q
  unfold frz at q'
  split at q'
  · rename_i ds hi
    obtain ⟨p, xs, h1, h2, h3, h4, h5, h6⟩ := r.own hi
    refine h a H0 (upd F p (.lst xs)) H (e.set i (.dat (.list ds))) σ n Q (r.frz hi h1 h2 h3 h5 h6) (Tr.all_mono (fun d k hd v F1 H1 x g hv => ?_) q')
    obtain ⟨hd, hv'⟩ := fl (F2 := unP F1 p) hv hd
    refine hd v (unP F1 p) H1 (x.lend h2 h5) ⟨g.nb, fun q hq => ?_⟩ hv'
    obtain ⟨k1, k2⟩ := g q hq
    refine ⟨?_, k2⟩
    by_cases z : q = p
    · rw [z, unP_p]
    · rw [unP_ne z]; exact k1
  · exact h a H0 F H e σ n Q r (Tr.all_mono (fun d k hd v F1 H1 x g hv => (by obtain ⟨hd', _⟩ := fl (F2 := F1) (P := Pst K a F H Q) hv hd; exact hd' v F1 H1 x g hv)) q')
end
@[simp, reducible] def yLend (i : Nat) (mt : Ts_) (e : Env) : Tr Bool := mt (frz i e)
@[simp, reducible] def xLend (i : Nat) (me : Ex_) (e : Env) : Tr PyData := (me (frz i e)).bind flatR
theorem tm_lend' {K : PySem.W.Frag} (i : Nat) {tt : TT} {mt : Ts_} (h : TM K tt mt) : TM K tt (yLend i mt) := tm_lend i h
theorem em_lend' {K : PySem.W.Frag} (i : Nat) {te : TE} {me : Ex_} (h : EM K te me) : EM K te (xLend i me) := em_lend i h
end Hr
namespace Hr
open PySem PySem.Spec PyProof.Rows L2 Evl
/-! ### names stored from a list -/
section
variable {K : PySem.W.Frag} {is : List Nat}
def unlst (n : Nat) (m : List PyData → Env → Tr Env) : PyData → Env → Tr Env := fun d e => match d with
  | .list ds => if ds.length = n then m ds e else .fail
  | _ => .fail
@[simp, reducible] def tgLst (n : Nat) (m : List PyData → Env → Tr Env) (d : PyData) (e : Env) : Tr Env := unlst n m d e
theorem gm_lst {n : Nat} {gs : TGs} {mgs : List PyData → Env → Tr Env} (h : GMs K is gs mgs) : GM K is (gLst K n gs) (unlst n mgs) := fun a H0 F H e σ k v d Q r hv q => by
  cases hv with
  | lst a b =>
    have q' : Tr.all _ (if _ then _ else _) k := q
    split at q'
    · rename_i hl
      exact ⟨_, _, rfl, sq_of (r.fh _ _ a), by rw [dba_len b]; exact hl, h _ H0 F H e σ k _ _ Q r b q'⟩
    · exact q'.elim
  | _ => exact q.elim
theorem calm_lst {n : Nat} {mgs : List PyData → Env → Tr Env} (h : Calms mgs) : Calm (unlst n mgs) := fun d e => by
  cases d <;> first | exact .inl rfl | skip
  rename_i ds
  show (if ds.length = n then mgs ds e else .fail) = .fail ∨ ∃ e', (if ds.length = n then mgs ds e else .fail) = .done e'
  split
  · exact h ds e
  · exact .inl rfl
@[simp] theorem unlst_2 (m : List PyData → Env → Tr Env) (a b : PyData) (e : Env) : unlst 2 m (.list [a, b]) e = m [a, b] e := rfl
end
end Hr
namespace Hr
open PySem PySem.Spec PyProof.Rows L2 Evl
/-! ### the empty dict, its repr; the greatest of a list -/
section
variable {K : PySem.W.Frag}
@[simp, reducible] def xD0 (_ : Env) : Tr PyData := .done (.dict [])
theorem em_d0 : EM K tDNewK xD0 := fun a H0 F H e σ n Q r q p np =>
  q (.ref p) (upd F p (.dK [])) (upd H p (.dK [])) (Step.new r.fh np) (r.ga.new np) (.dic upd_same .nil)
def rReprX (K : PySem.W.Frag) : List V → Hp → VK → Prop := fun xs H Q => ∃ (x : V) (d : PyData), xs = [x] ∧ ((Dp K H x d ∧ neat d = true ∧ cost d ≤ 10000000 ∧ d.depth ≤ 50) ∨ (d = .dict [] ∧ ∃ p, x = .ref p ∧ (H p = some (.dK []) ∨ H p = some (.dT [])))) ∧ Q (.str d.shown) H
theorem cr_reprX {X : Cx} {k : Nat} (hr : Rm k X.A) : CallR X (.builtin "repr") (rReprX X.K) := by
  intro pins s σ H xs us Q I r h
  obtain ⟨x, d, rfl, hd | ⟨rfl, p, rfl, hp⟩, q⟩ := h
  · exact cr_repr hr pins s σ H _ us Q I r ⟨x, d, rfl, hd.1, hd.2.1, hd.2.2.1, hd.2.2.2, q⟩
  · obtain ⟨u, rfl, rv⟩ := vals1 r
    obtain rfl : u = Value.ref p := rv
    obtain ⟨o, es, ep, hS, h1, h2, h3, he⟩ : ∃ o es ep, (p == sysModules) = false ∧ s.heap.get? p = some o ∧ o.ExactDict ∧ o.data = .dict es ep ∧ es.toList = [] := by
      rcases hp with hp | hp
      · obtain ⟨hz, hS, vs, kv, m⟩ := dk_of I.hok hp
        cases kv
        obtain ⟨o, es, ep, h1, h2, h3, _, h5, _⟩ := m
        refine ⟨o, es, ep, hS, h1, h2, h3, ?_⟩
        cases h5' : es.toList with
        | nil => rfl
        | cons a b => rw [h5'] at h5; cases h5
      · obtain ⟨hz, hS, xs, kt, o, es, ep, h1, h2, h3, h4, _⟩ := dt_of I.hok hp
        cases kt
        exact ⟨o, es, ep, hS, h1, h2, h3, h4⟩
    have rd : Reads s.heap (.ref p) (.dict []) (p :: [] ++ []) := .dict h1 h2.1 h3 (by rw [he]; exact .nil) (by rw [he]; exact .nil)
    refine repr_of_reads' rd (by decide +kernel) (fun _ => ?_) hr.quiet (by have := hr.room.units; show _ + (1 + 1) < _; omega) (fun _ _ e => e) (fun h' v tk kk => ⟨.str _, H, I.kept (t' := tk) kk, ⟨v, rfl⟩, q⟩) (by decide +kernel)
    intro hm
    rcases List.mem_cons.mp hm with e | e
    · rw [← e] at hS; simp at hS
    · simp at e
def isE : PyData → Bool
  | .dict [] => true
  | _ => false
def o_reprX : List Sl → Tr PyData
  | [.dat d] => if isE d = true then .done (.str d.shown) else o_repr [.dat d]
  | _ => .fail
theorem isE_eq {d : PyData} (h : isE d = true) : d = .dict [] := by
  match d, h with
  | .dict [], _ => rfl
theorem pc_reprX : PC K (rReprX K) o_reprX := fun a F H n es vs Q ex g0 hv q => by
  unfold o_reprX at q
  split at q
  · split at q
    · rename_i h
      cases hv with
      | dat hd t =>
        cases t
        have := isE_eq h
        subst this
        cases hd with
        | dic he hd => cases hd; exact ⟨_, _, rfl, .inr ⟨rfl, _, rfl, .inl (ex _ _ he)⟩, q _ F H (Step.refl ex) g0 (.str _)⟩
        | dit he hd => cases hd; exact ⟨_, _, rfl, .inr ⟨rfl, _, rfl, .inr (ex _ _ he)⟩, q _ F H (Step.refl ex) g0 (.str _)⟩
    · obtain ⟨x, d, h1, h2, h3, h4, h5, h6⟩ := pc_repr a F H n _ vs Q ex g0 hv q
      exact ⟨x, d, h1, .inl ⟨h2, h3, h4, h5⟩, h6⟩
  · exact q.elim
/-- the greatest one -/
def topI : List Int → Int
  | [] => 0
  | [x] => x
  | x :: y :: xs => max x (topI (y :: xs))
theorem top_mem : ∀ {xs : List Int}, xs ≠ [] → topI xs ∈ xs
  | [x], _ => List.mem_cons_self ..
  | x :: y :: xs, _ => by
    have ih := top_mem (xs := y :: xs) (by simp)
    show max x (topI (y :: xs)) ∈ _
    rcases Int.le_total x (topI (y :: xs)) with h | h
    · rw [Int.max_eq_right h]; exact List.mem_cons_of_mem _ ih
    · rw [Int.max_eq_left h]; exact List.mem_cons_self ..
theorem top_le : ∀ {xs : List Int} {z : Int}, z ∈ xs → z ≤ topI xs
  | [x], z, h => by
    rw [List.mem_singleton] at h
    exact Int.le_of_eq h
  | x :: y :: xs, z, h => by
    show z ≤ max x (topI (y :: xs))
    rcases List.mem_cons.mp h with rfl | h
    · exact Int.le_max_left _ _
    · exact Int.le_trans (top_le h) (Int.le_max_right _ _)
def o_maxL : List Sl → Tr PyData
  | [.dat (.list xs)] => match intsD xs with | some (b :: bs) => .done (.int (topI (b :: bs))) | _ => .fail
  | _ => .fail
theorem pc_maxL : PC K (rMax K) o_maxL := fun a F H n es vs Q ex g0 hv q => by
  unfold o_maxL at q
  split at q
  · split at q
    · rename_i b bs hb
      cases hv with
      | dat h t =>
        cases t
        cases h with
        | lst h1 h2 =>
          rw [ints_db h2 hb] at h1
          refine ⟨_, b :: bs, rfl, sq_of (ex _ _ h1), by simp, fun m hm hle => ?_⟩
          have e : m = topI (b :: bs) := Int.le_antisymm (top_le hm) (hle _ (top_mem (by simp)))
          rw [e]
          exact q _ F H (Step.refl ex) g0 (.int _)
    · exact q.elim
  · exact q.elim
end
end Hr
namespace Hr
open PySem PySem.Spec PyProof.Rows L2
/-! ### comprehensions of any kind, with any number of clauses -/
/-- one clause: its source, its target, its tests, the slots of the target -/
structure Cl where
  wi : TI
  g : TG
  tt : TT
  vs : List Nat
abbrev TEm := L2.St → Hp → (Hp → Prop) → Prop
/-- one loop -/
def tLoop (c : Cl) (em : TEm) (J : It) (σ : L2.St) (H1 : Hp) (N : Hp → Prop) : Prop := ∃ W : Nat → Nat → Hp → Prop, (∃ m, W 0 m H1) ∧ ∀ i m H, W i m H →
  (J.stop i H ∧ N H) ∨ (J.go i H ∧ ∃ Nx : Hp → Prop, (∀ H', Nx H' → ∃ k, k < m ∧ W (i + 1) k H') ∧ ∀ x H', J.yld i H x H' → c.g x (wipe σ c.vs) H' fun σ2 H2 => wipe σ2 c.vs = wipe σ c.vs ∧ c.tt σ2 H2 fun b H3 => if b = true then em σ2 H3 Nx else Nx H3)
/-- the clauses behind the first one -/
def tIn : List Cl → TEm → TEm
  | [], em => em
  | c :: cs, em => fun σ H N => c.wi σ H fun J H1 => tLoop c (tIn cs em) J σ H1 N
/-- what is done with an item -/
structure PEm (X : Cx) (act : Sem Unit) (em : TEm) : Prop where
  run : ∀ (pins : List (Addr × Obj)) (s : Shared) (σ : L2.St) (H : Hp) (N : Hp → Prop), Inv X pins σ H s → em σ H N → wpAny (model X.prog X.w) X.A act (fun _ s' => ∃ H', Inv X pins σ H' s' ∧ N H') (fun _ _ => False) s
def roundZ (t i : Expr) (ifs : List Expr) (act : Sem Fin → Sem Fin) (nx : Sem Fin) (it : Value) (env : PySem.Env) : Sem Fin := do
  standAt i.pos
  match ← pyNext it with
  | none => pure (.done .next)
  | some v =>
    letOwnedTupleGo t it v
    assign t env v
    let mut z := true
    for c in ifs do
      if z then z ← isTrue c env (eval c env)
    if z then act nx else nx
/-- what is known of an expression that is a comprehension -/
structure IsCo (e : Expr) (gens : List Comprehension) (emit : Value → PySem.Env → Sem Unit) : Prop where
  cl : clausesOf e = gens
  den : ∀ (P : Program) (w : World) d it acc env, (model P w).den (.compLoop e d it acc env) = (compTurn e d it acc env).onRaise (fun x => do noteFrame x env; theTreesLotGoes x)
  denS : ∀ (P : Program) (w : World) d it acc env, (model P w).den (.compStart e d it acc env) = (compStart e d it acc env).onRaise (fun x => do noteFrame x env; standAt theWindowsPlace)
  quL : ∀ d it acc env, (Code.compLoop e d it acc env).quiet = true
  quS : ∀ d it acc env, (Code.compStart e d it acc env).quiet = true
  unL : ∀ (A : Around) d it acc env, A.under (.compLoop e d it acc env) = A
  unS : ∀ (A : Around) d it acc env, A.under (.compStart e d it acc env) = A
  last : ∀ d t i ifs it acc env, gens[d]? = some ⟨t, i, ifs, 0⟩ → gens[d + 1]? = none → compTurn e d it acc env = roundZ t i ifs (fun nx => do emit acc env; nx) (again (.compLoop e d it acc env)) it env
  more : ∀ d t i ifs it acc env t' i' ifs', gens[d]? = some ⟨t, i, ifs, 0⟩ → gens[d + 1]? = some ⟨t', i', ifs', 0⟩ → compTurn e d it acc env = roundZ t i ifs (fun nx => do
      let x ← eval i' env
      standAt i'.pos
      let x ← foldedSetIterable i' env x
      let _ ← runOwn (.compStart e (d + 1) (← holding [x] (pyIter x)) acc env) env
      nx) (again (.compLoop e d it acc env)) it env
theorem isCo_set {elt : Expr} {gens : List Comprehension} {scope : Scope} {pos : Pos} : IsCo (.SetComp elt gens scope pos) gens (fun acc env => do let v ← eval elt env; standAt elt.pos; let _ ← call (.builtin "set.add") [acc, v]) where
  cl := rfl
  den := fun _ _ _ _ _ _ => rfl
  denS := fun _ _ _ _ _ _ => rfl
  quL := fun _ _ _ _ => rfl
  quS := fun _ _ _ _ => rfl
  unL := fun _ _ _ _ _ => rfl
  unS := fun _ _ _ _ _ => rfl
  last := fun d t i ifs it acc env h1 h2 => by
    unfold compTurn
    simp only [h1, h2]
    rfl
  more := fun d t i ifs it acc env t' i' ifs' h1 h2 => by
    unfold compTurn
    simp only [h1, h2]
    rfl
theorem isCo_list {elt : Expr} {gens : List Comprehension} {scope : Scope} {pos : Pos} : IsCo (.ListComp elt gens scope pos) gens (fun acc env => do let _ ← call (.builtin "list.append") [acc, ← eval elt env]) where
  cl := rfl
  den := fun _ _ _ _ _ _ => rfl
  denS := fun _ _ _ _ _ _ => rfl
  quL := fun _ _ _ _ => rfl
  quS := fun _ _ _ _ => rfl
  unL := fun _ _ _ _ _ => rfl
  unS := fun _ _ _ _ _ => rfl
  last := fun d t i ifs it acc env h1 h2 => by
    unfold compTurn
    simp only [h1, h2]
    rfl
  more := fun d t i ifs it acc env t' i' ifs' h1 h2 => by
    unfold compTurn
    simp only [h1, h2]
    rfl
section
variable {X : Cx} {e : Expr} {gens : List Comprehension} {emit : Value → PySem.Env → Sem Unit}
/-- the action of a round: behind it comes nx -/
def Acts (X : Cx) (ws : List Nat) (act : Sem Fin → Sem Fin) (em : TEm) : Prop := ∀ (pins : List (Addr × Obj)) (s : Shared) (σ : L2.St) (H : Hp) (N : Hp → Prop) (nx : Sem Fin) (Q : Fin → Shared → Prop) (E : Value → Shared → Prop),
  Inv X pins σ H s → em σ H N → (∀ s' H', Inv X pins (wipe σ ws) H' s' → N H' → wpAny (model X.prog X.w) X.A nx Q E s') → wpAny (model X.prog X.w) X.A (act nx) Q E s
theorem thnX {α : Type} {t : Sem α} {Q Q' : α → Shared → Prop} {M : Model} {A : Around} {E E' : Value → Shared → Prop} {s : Shared} (hx : ∀ e s, E e s → False) (h : wpAny M A t Q E s) (hQ : ∀ a s, Q a s → Q' a s) : wpAny M A t Q' E' s := wpAny_mono h hQ fun _ _ z => (hx _ _ z).elim
theorem co_loop (hc : X.calm = true) (hx : ∀ e s, X.xe e s → False) (C : IsCo e gens emit) {d : Nat} {t i : Expr} {ifs : List Expr} {it : Addr} {acc : Value} {act : Sem Fin → Sem Fin} {c : Cl} {em : TEm} {J : It} {fp : List Addr} {tn : Nat → Heap → Prop}
    {pins : List (Addr × Obj)} {σ : L2.St} {H : Hp} {s : Shared} {N : Hp → Prop} {R : Result → Shared → Prop}
    (hT : compTurn e d (.ref it) acc X.env = roundZ t i ifs act (again (.compLoop e d (.ref it) acc X.env)) (.ref it) X.env) {ws : List Nat} (ha : Acts X ws act em) (hws : ∀ i ∈ ws, i ∈ c.vs) (pg : PG X t c.g) (pt : PTs X ifs c.tt)
    (T : Turn X.prog X.w X.K t J fp it tn) (hf : ∀ H', (∀ b ∈ fp, H' b = none) → ∀ b ∈ fp, FpOk X pins H' b) (I : Inv X pins σ H s) (st : tn 0 s.heap) (hn : ∀ b ∈ fp, H b = none) (h : tLoop c em J σ H N)
    (hR : ∀ s' H', Inv X pins (wipe σ c.vs) H' s' → N H' → R (.ok .next) s') : codeAny (model X.prog X.w) X.A (.compLoop e d (.ref it) acc X.env) R s := by
  obtain ⟨W, ⟨m0, w0⟩, turn⟩ := h
  refine codeAny_loop (C.quL d _ acc _) (fun n s' => ∃ j H', Inv X pins (wipe σ c.vs) H' s' ∧ tn j s'.heap ∧ (∀ b ∈ fp, H' b = none) ∧ W j n H') (fun n s1 hI => ?_) m0
    ⟨0, H, I.weak (wipe_length _ _) (fun j v q => (wipe_some q).1), st, hn, w0⟩
  obtain ⟨j, H1, I1, st1, n1, w1⟩ := hI
  rw [C.unL, C.den]
  refine wpAny_noted ?_
  rw [hT]
  refine wpAny_bind (wpAny_standAt (wpAny_bind ?_))
  rcases turn j n H1 w1 with ⟨stop, q⟩ | ⟨go, Nx, hNx, step⟩
  · refine thnF (T.done X rfl rfl rfl hc j pins s1 _ H1 (fun _ _ => False) I1 (hf H1 n1) st1 stop) fun r s2 hr => ?_
    obtain ⟨rfl, I2⟩ := hr
    exact wpAny_pure (hR s2 H1 I2 q)
  · refine thnF (T.item X rfl rfl rfl hc j pins s1 _ H1 (fun _ _ => False) I1 (hf H1 n1) st1 go) fun r s2 hr => ?_
    obtain ⟨u, rfl, h2⟩ := hr
    refine wpAny_bind (thnF h2 fun _ s3 h3 => ?_)
    obtain ⟨x, H3, I3, r3, y3, st3, n3⟩ := h3
    have I3' := I3.pinned (hf H3 n3) (T.obj _ _ st3)
    have pn : ∀ {σ' : L2.St} {H' : Hp} {s' : Shared}, Inv X (pins ++ pinsAt fp s3.heap) σ' H' s' → ∀ b ∈ fp, ∀ o, s3.heap.get? b = some o → s'.heap.get? b = some o ∧ H' b = none := fun {σ' H' s'} I' b hb o q =>
      let z := I'.pin (b, o) (List.mem_append_right _ (List.mem_append_right _ (mem_pinsAt hb q)))
      ⟨z.1, z.2.1⟩
    refine wpAny_bind (thnX hx (pg.run _ s3 _ H3 x u _ I3' r3 (step x H3 y3)) fun _ s4 h4 => ?_)
    obtain ⟨σ4, H4, I4, hw, h4⟩ := h4
    refine wpAny_bind (thnX hx (pt.run _ s4 σ4 H4 _ I4 h4) fun b s5 h5 => ?_)
    obtain ⟨H5, I5, q5⟩ := h5
    have back : ∀ {ws' : List Nat} {s' : Shared} {H' : Hp}, (∀ i ∈ ws', i ∈ c.vs) → Inv X (pins ++ pinsAt fp s3.heap) (wipe σ4 ws') H' s' → Nx H' → ∃ m, m < n ∧ ∃ j H', Inv X pins (wipe σ c.vs) H' s' ∧ tn j s'.heap ∧ (∀ b ∈ fp, H' b = none) ∧ W j m H' := fun {ws' s' H'} hw' I' nx => by
      obtain ⟨k, hk, w'⟩ := hNx H' nx
      refine ⟨k, hk, j + 1, H', (I'.unpinned (pins := pins)).weak ?_ ?_, ?_, ?_, w'⟩
      · rw [← hw, wipe_length, wipe_length]
      · intro j v q
        rw [← hw] at q
        obtain ⟨q1, q2⟩ := wipe_some q
        rw [wipe_out fun z => q2 (hw' j z)]
        exact q1
      · exact T.keep _ _ _ st3 fun b hb o q => (pn I' b hb o q).1
      · intro b hb
        obtain ⟨o, q, _⟩ := T.obj _ _ st3 b hb
        exact (pn I' b hb o q).2
    cases b with
    | false => exact wpAny_pure ⟨rfl, back (ws' := []) (fun _ z => by cases z) I5 q5⟩
    | true => exact ha _ s5 σ4 H5 Nx _ _ _ I5 q5 fun s6 H6 I6 n6 => wpAny_pure ⟨rfl, back hws I6 n6⟩
/-- a start is a loop -/
theorem co_start (C : IsCo e gens emit) {d : Nat} {t i : Expr} {ifs : List Expr} {it acc : Value} {env : PySem.Env} {A : Around} {P : Program} {w : World} {R : Result → Shared → Prop} {s : Shared} (hg : gens[d]? = some ⟨t, i, ifs, 0⟩)
    (h0 : codeAny (model P w) A (.compLoop e d it acc env) R s) (h1 : wpAny (model P w) A (pyIter it) (fun it' s' => codeAny (model P w) A (.compLoop e d it' acc env) R s') (fun _ _ => False) s) :
    codeAny (model P w) A (.compStart e d it acc env) R s := by
  refine codeAny_of_tree ?_
  rw [C.unS, C.denS]
  refine wpAny_notedAt ?_
  unfold compStart
  rw [C.cl, hg]
  show wpAny _ _ (ask >>= _) _ _ s
  refine wpAny_bind (wpAny_askSetting (wpAny_ite ?_))
  split
  · first
      | exact wpAny_bind (wpAny_pure (wpAny_pure (And.intro (C.quL ..) h0)))
      | exact wpAny_pure (And.intro (C.quL ..) h0)
  · refine wpAny_bind (wpAny_rule ?_)
    show wpAny _ _ (standAt i.pos >>= _) _ _ s
    exact wpAny_bind (wpAny_standAt (wpAny_bind (thnF h1 fun it' s' h' => wpAny_pure (And.intro (C.quL ..) h'))))
/-- the clauses are read, each within those ahead of it -/
inductive CoCl (X : Cx) : List Nat → List Comprehension → List Cl → Prop
  | nil {us : List Nat} : CoCl X us [] []
  | cons {us : List Nat} {t i : Expr} {ifs : List Expr} {c : Cl} {gs : List Comprehension} {cs : List Cl} : PI X t i c.wi → PG X t c.g → PTs X ifs c.tt → (∀ x, foldedSetIterable i X.env x = pure x) → (∀ j ∈ c.vs, j ∈ us) → CoCl X c.vs gs cs → CoCl X us (⟨t, i, ifs, 0⟩ :: gs) (c :: cs)
def inner : List Cl → List Nat
  | [] => []
  | c :: _ => c.vs
theorem co_acts (hc : X.calm = true) (hx : ∀ e s, X.xe e s → False) (C : IsCo e gens emit) {acc : Value} {em : TEm} (he : PEm X (emit acc X.env) em) : ∀ (gs : List Comprehension) (cs : List Cl) (us : List Nat) (d : Nat) (t i : Expr) (ifs : List Expr),
    gens.drop d = ⟨t, i, ifs, 0⟩ :: gs → CoCl X us gs cs → ∃ act, (∀ it, compTurn e d it acc X.env = roundZ t i ifs act (again (.compLoop e d it acc X.env)) it X.env) ∧ Acts X (inner cs) act (tIn cs em) ∧ ∀ j ∈ inner cs, j ∈ us := by
  intro gs
  induction gs with
  | nil =>
    intro cs us d t i ifs hd hcl
    cases hcl
    have h1 : gens[d]? = some ⟨t, i, ifs, 0⟩ := by rw [← List.head?_drop, hd]; rfl
    have h2 : gens[d + 1]? = none := by
      have := congrArg List.length hd
      rw [List.length_drop, List.length_singleton] at this
      exact List.getElem?_eq_none (by omega)
    refine ⟨_, fun it => C.last d t i ifs it acc X.env h1 h2, ?_, fun j z => by cases z⟩
    intro pins s σ H N nx Q E I h q
    exact wpAny_bind (wpAny_mono (he.run pins s σ H N I h) (fun _ s' h' => by
      obtain ⟨H', I', n'⟩ := h'
      exact q s' H' I' n') fun _ _ z => z.elim)
  | cons g gs ih =>
    intro cs us d t i ifs hd hcl
    cases hcl with
    | cons pi pg pt hs hu hr =>
      rename_i t' i' ifs' c cs
      have h1 : gens[d]? = some ⟨t, i, ifs, 0⟩ := by rw [← List.head?_drop, hd]; rfl
      have hd' : gens.drop (d + 1) = ⟨t', i', ifs', 0⟩ :: gs := by rw [← List.tail_drop, hd]; rfl
      have h2 : gens[d + 1]? = some ⟨t', i', ifs', 0⟩ := by rw [← List.head?_drop, hd']; rfl
      obtain ⟨act, ha, hb, hw⟩ := ih cs c.vs (d + 1) t' i' ifs' hd' hr
      refine ⟨_, fun it => C.more d t i ifs it acc X.env t' i' ifs' h1 h2, ?_, hu⟩
      intro pins s σ H N nx Q E I h q
      refine wpAny_bind (thnX hx (pi.run pins s σ H _ I h) fun xv s1 h1' => ?_)
      refine wpAny_bind (wpAny_standAt (wpAny_bind (wpAny_of_eq (hs xv) (wpAny_bind (wpAny_holding (thnX hx h1' fun itv s2 h2' => ?_))))))
      obtain ⟨it, fp, tn, J, H2, rfl, I2, T, st, f, lp⟩ := h2'
      refine wpAny_bind (wpAny_runOwn ?_)
      rw [Around.mark_none]
      have loop := co_loop (R := fun r s' => match r with | .ok _ => ∃ H', Inv X pins (wipe σ c.vs) H' s' ∧ N H' | .error _ => False) hc hx C (ha (.ref it)) hb hw pg pt T (fun H' hn b hb => ⟨hn b hb, (f b hb).2⟩) I2 st (fun b hb => (f b hb).1) lp fun s' H' I' n' => ⟨H', I', n'⟩
      refine codeAny_mono (co_start C h2 loop (T.self X.A 0 _ _ _ st loop)) fun r s' hr => ?_
      cases r with
      | ok f =>
        obtain ⟨H', I', n'⟩ := hr
        exact q s' H' I' n'
      | error z => exact hr.elim
end
theorem wipe_look (σ : L2.St) : ∀ (vs : List Nat) (i : Nat), (wipe σ vs)[i]? = if i ∈ vs then (if i < σ.length then some none else none) else σ[i]?
  | [], i => by simp [wipe]
  | v :: vs, i => by
    unfold wipe
    rw [List.getElem?_set, wipe_look σ vs i, wipe_length]
    by_cases h : v = i
    · simp [h]
    · have : i ∈ v :: vs ↔ i ∈ vs := by rw [List.mem_cons]; exact ⟨fun z => z.resolve_left fun w => h w.symm, .inr⟩
      simp only [if_neg h, this]
theorem wipe_twice (σ : L2.St) (vs : List Nat) : wipe (wipe σ vs) vs = wipe σ vs := by
  apply List.ext_getElem?
  intro i
  rw [wipe_look, wipe_look, wipe_length]
  split <;> rfl
theorem tLoop_wipe {c : Cl} {em : TEm} {J : It} {σ : L2.St} {H : Hp} {N : Hp → Prop} (h : tLoop c em J σ H N) : tLoop c em J (wipe σ c.vs) H N := by
  unfold tLoop at h ⊢
  rw [wipe_twice]
  exact h
section
variable {X : Cx}
/-- the whole: a new thing at D, changed by each item -/
def tCo (new : Addr → HO) (c : Cl) (cs : List Cl) (em : Addr → TEm) : TE := fun σ H Q => c.wi σ H fun J H1 => ∀ D, H1 D = none → tLoop c (tIn cs (em D)) J σ (upd H1 D (new D)) (fun H' => Q (.ref D) H')
/-- a thing is made -/
structure Makes (P : Program) (w : World) (mk : Sem Value) (o : Obj) (new : Addr → HO) : Prop where
  go : ∀ (A : Around) (E : Value → Shared → Prop) (s : Shared) (Q : Value → Shared → Prop), Q (.ref s.heap.objs.size) { s with heap := s.heap.push o } → wpAny (model P w) A mk Q E s
  ok : ∀ (H : Hp) (h : Heap), sysModules < h.objs.size → ObjOk P w H (h.push o) h.objs.size (new h.objs.size)
abbrev Bk (X : Cx) (scope : Scope) (s : Shared) (H : Hp) (C : Addr) (cl : List (Str × Addr)) (fp : List Addr) : Cx := X.blk s H scope (compEnvC scope cl C X.env) fp
theorem pe_co {e : Expr} {t i : Expr} {ifs : List Expr} {gs : List Comprehension} {emit : Value → PySem.Env → Sem Unit} {scope : Scope} {own : List (Str × Nat)} {c : Cl} {cs : List Cl} {em : Addr → TEm} {mk : Sem Value} {o : Obj} {new : Addr → HO} {pos : Pos}
    (C : IsCo e (⟨t, i, ifs, 0⟩ :: gs) emit) (hev : eval e X.env = comprehension e scope X.env pos mk false (eval i X.env) none) (M : Makes X.prog X.w mk o new) (hvs : c.vs = own.map (·.2))
    (hc : X.calm = true) (hN : X.N.Nodup) (hi : PI X t i c.wi) (ok : BlkOk X.N X.env.scope scope own)
    (hb : ∀ (s : Shared) (H : Hp) (C : Addr) (cl : List (Str × Addr)) (fp : List Addr), PG (Bk X scope s H C cl fp) t c.g ∧ PTs (Bk X scope s H C cl fp) ifs c.tt ∧ CoCl (Bk X scope s H C cl fp) c.vs gs cs ∧ ∀ D, PEm (Bk X scope s H C cl fp) (emit (.ref D) (Bk X scope s H C cl fp).env) (em D))
    (hs : ∀ x, foldedSetIterable i X.env x = pure x) : PE X e (tCo new c cs em) := by
  refine ⟨fun pins s σ H Q I h => ?_⟩
  rw [hev]
  have hfree : ∀ y ∈ scope.names, y.2 = .free → ∃ c, X.env.cells.lookup y.1 = some c := fun y hy q => (ok.free y hy q).elim (fun k => I.ok.has _ (.inl k)) fun k => I.ok.has _ (.inr k)
  refine wpAny_comprehension_free (use := none) C.cl hs (closure_ok hfree) ok.kind (fun y hy q => by rw [ok.uniq y hy, q]) (thn (hi.run pins s σ H _ I h) fun xv s1 h1 => thn h1 fun itv s2 h2 => ?_)
  obtain ⟨it, fp, tn, J, H2, rfl, I2, T, st2, f2, q⟩ := h2
  refine M.go _ _ _ _ (newEnv_comp ?_)
  generalize hD : s2.heap.objs.size = D
  have hDn : H2 D = none := I2.hok.fresh (Nat.le_of_eq hD)
  have lp := q D hDn
  generalize hs3 : ({ s2 with heap := s2.heap.push o } : Shared) = s3
  have h3 : s3.heap = s2.heap.push o := by rw [← hs3]
  have I3 : Inv X pins σ (upd H2 D (new D)) s3 := by
    rw [← hs3]
    refine I2.laid (t' := s2.toks) (fun b u z => Heap.get?_push_of_some _ z) (Nat.le_of_eq hD) ?_
    rw [← hD]
    exact M.ok _ _ I2.big
  have sz : ∀ b ∈ fp, b < s2.heap.objs.size := fun b hb => (T.obj _ _ st2 b hb).elim fun _ z => Heap.lt_size z.1
  have f3 : ∀ b ∈ fp, FpOk X pins (upd H2 D (new D)) b ∧ b < s3.heap.objs.size := fun b hb => by
    have l := sz b hb
    refine ⟨⟨?_, (f2 b hb).2⟩, by rw [h3, Heap.size_push]; exact Nat.lt_succ_of_lt l⟩
    rw [upd_ne (fun z => by rw [z, ← hD] at l; exact Nat.lt_irrefl _ l)]
    exact (f2 b hb).1
  have st3 : tn 0 s3.heap := T.keep _ _ _ st2 fun b _ u z => by rw [h3]; exact Heap.get?_push_of_some _ z
  have I4 := block_start I3 ok hN f3
  have hB := hb s3 (upd H2 D (new D)) s3.heap.objs.size (cellsFrom (s3.heap.objs.size + 1) scope.names (cloFrom X.env.cells scope.names [])) fp
  show codeAny _ _ (.compStart e 0 (.ref it) (.ref D) (compEnvC scope (cellsFrom (s3.heap.objs.size + 1) scope.names (cloFrom X.env.cells scope.names [])) s3.heap.objs.size X.env)) (compPost (model X.prog X.w) X.A X.xe none (EP X pins σ Q) (.ref D) s3.heap.objs.size) { s3 with heap := pushCells (s3.heap.push { cls := .type "dict", data := .dict #[] }) scope.names }
  have nfp : ∀ b ∈ fp, (upd H2 D (new D)) b = none := fun b hb => (f3 b hb).1.1
  unfold Bk at hB
  generalize hce : compEnvC scope (cellsFrom (s3.heap.objs.size + 1) scope.names (cloFrom X.env.cells scope.names [])) s3.heap.objs.size X.env = ce at I4 hB ⊢
  have cL : ce.locals = s3.heap.objs.size := by subst hce; rfl
  generalize hH3 : upd H2 D (new D) = H3 at I3 I4 hB lp nfp f3
  generalize hs4 : ({ s3 with heap := pushCells (s3.heap.push { cls := .type "dict", data := .dict #[] }) scope.names } : Shared) = s4 at I4 ⊢
  have st4 : tn 0 s4.heap := T.keep _ _ _ st3 fun b _ u z => by rw [← hs4]; exact pushCells_keeps _ _ _ _ (Heap.get?_push_of_some _ z)
  obtain ⟨pg, pt, cc, pe⟩ := hB
  obtain ⟨act, ha, hact, hw⟩ := co_acts (X := X.blk s3 H3 scope ce fp) hc (fun _ _ z => z) C (pe D) gs cs c.vs 0 t i ifs rfl cc
  have loop : codeAny (model X.prog X.w) X.A (.compLoop e 0 (.ref it) (.ref D) ce) (compPost (model X.prog X.w) X.A X.xe none (EP X pins σ Q) (.ref D) s3.heap.objs.size) s4 := by
    refine co_loop (X := X.blk s3 H3 scope ce fp) hc (fun _ _ z => z) C (ha (.ref it)) hact hw pg pt T (fun H' hn b hb => ?_) I4 st4 nfp (by rw [← hvs]; exact tLoop_wipe lp) fun s6 H6 I6 n6 => ?_
    · exact ⟨hn b hb, (I4.ok.exf b hb).1, I4.ok.exfs b hb, .inl hb, fun x c z => (I4.ok.exf b hb).2 x c z, fun p hp => absurd (show p ∈ ([] : List (Addr × Obj)) ++ [] from hp) (by simp)⟩
    · have I7 : Inv X pins σ H6 s6 := I3.call' (ch := fp) I6.os I6.base I6.hok I6.bare fun b hb => ⟨(f3 b hb).1.2.2.2.1, (f3 b hb).1.2.1, (f3 b hb).1.2.2.2.2.1, (f3 b hb).1.2.2.2.2.2⟩
      have nC : H6 s3.heap.objs.size = none := by
        have z : H6 ce.locals = none := I6.free
        rw [cL] at z
        exact z
      obtain ⟨m, hn, _⟩ := I6.loc
      have hn : s6.heap.Ns ce.locals m := hn
      rw [cL] at hn
      refine ⟨m, hn, fun h'' sb => ?_⟩
      obtain ⟨f0, f1, f2, f3, f4, f5⟩ := I3.fpOk (Nat.le_refl _) nC
      exact ⟨.ref D, H6, I7.turned (t' := s6.toks) (fun b u hb z => (sb.2 b hb).trans z) f0 f1 f3 f4 f5, rfl, n6⟩
  exact co_start C (d := 0) rfl loop (T.self X.A 0 _ _ _ st4 loop)
end
end Hr
namespace Hr
open PySem PySem.Spec PyProof.Rows L2
/-! ### sets of ints and texts, with what stands in them -/
instance keyMem (k : Key) (ks : List Key) : Decidable (k ∈ ks) := decidable_of_iff (ks.any (fun j => decide (j = k)) = true) (by
  rw [List.any_eq_true]
  constructor
  · rintro ⟨j, h1, h2⟩
    rw [← of_decide_eq_true h2]; exact h1
  · exact fun h => ⟨k, h, decide_eq_true rfl⟩)
def kOf : Value → Key
  | .int i _ => .inl i
  | .str x _ => .inr x
  | _ => .inl 0
theorem kOf_of {k : Key} {v : Value} (r : RelV (kV k) v) : kOf v = k := by
  cases k with
  | inl i => obtain ⟨t, rfl⟩ := r; rfl
  | inr x => obtain ⟨t, rfl⟩ := r; rfl
/-- an entry of the table -/
def Ent (w : World) (e : Int × Value) : Prop := RelV (kV (kOf e.2)) e.2 ∧ e.1 = keyH w (kOf e.2)
theorem Ent.mk' {w : World} {k : Key} {v : Value} (r : RelV (kV k) v) : Ent w (keyH w k, v) := by
  show RelV (kV (kOf v)) v ∧ _ = keyH w (kOf v)
  rw [kOf_of r]; exact ⟨r, rfl⟩
structure SetD (w : World) (es : Array (Int × Value)) (t : SetTable) (ks : List Key) : Prop where
  ent : ∀ e ∈ es.toList, Ent w e
  perm : (es.toList.map fun e => kOf e.2).Perm ks
  nd : ks.Nodup
  lt : ks.length < scanBound
  fits : t.fits es.size = true
  ris : Ris t.place.toList
  led : w.params.followText "set-order" = true ∨ t.led = true
theorem SetD.size {w : World} {es : Array (Int × Value)} {t : SetTable} {ks : List Key} (D : SetD w es t ks) : es.size = ks.length := by
  rw [← D.perm.length_eq, List.length_map, Array.length_toList]
theorem SetD.small {w : World} {es : Array (Int × Value)} {t : SetTable} {ks : List Key} (D : SetD w es t ks) : es.size < scanBound := by rw [D.size]; exact D.lt
theorem SetD.elems {w : World} {es : Array (Int × Value)} {t : SetTable} {ks : List Key} (P : Program) (D : SetD w es t ks) : ElemsOf (mixKind P w) es.toList := fun e he => by
  obtain ⟨r, h⟩ := D.ent e he
  exact ⟨⟨kOf e.2, kV_is r, h⟩, key_scan r⟩
theorem SetD.at_ {w : World} {es : Array (Int × Value)} {t : SetTable} {ks : List Key} (P : Program) (D : SetD w es t ks) (k : Key) : k ∈ ks ↔ ∃ e ∈ es.toList, (mixKind P w).is k e.2 = true := by
  rw [← D.perm.mem_iff, List.mem_map]
  constructor
  · rintro ⟨e, he, rfl⟩
    exact ⟨e, he, kV_is (D.ent e he).1⟩
  · rintro ⟨e, he, q⟩
    exact ⟨e, he, (mixKind P w).inj e.2 _ _ (kV_is (D.ent e he).1) q⟩
def SetX (w : World) (h : Heap) (a : Addr) (ks : List Key) : Prop := ∃ o es ep t, h.get? a = some o ∧ o.ExactSet ∧ o.data = .set es ep t ∧ SetD w es t ks
section
variable {P : Program} {w : World} {h h' : Heap} {a : Addr} {ks : List Key}
theorem SetX.keeps (R : SetX w h a ks) (k : ∀ o, h.get? a = some o → h'.get? a = some o) : SetX w h' a ks := by
  obtain ⟨o, es, ep, t, ho, r⟩ := R
  exact ⟨o, es, ep, t, k o ho, r⟩
theorem SetX.there (R : SetX w h a ks) : ∃ o, h.get? a = some o := by
  obtain ⟨o, es, ep, t, ho, r⟩ := R
  exact ⟨o, ho⟩
theorem SetX.setOf (R : SetX w h a ks) : h.SetOf (mixKind P w) a (fun k => decide (k ∈ ks)) ks.length := by
  obtain ⟨o, es, ep, t, ho, hx, hd, D⟩ := R
  exact ⟨o, es, ep, t, ho, hx, hd, D.elems P, fun k => by rw [decide_eq_true_eq]; exact D.at_ P k, D.small, D.fits, D.size⟩
/-- a key more -/
def addK (ks : List Key) (k : Key) : List Key := if k ∈ ks then ks else ks ++ [k]
variable {A : Around} {E : Value → Shared → Prop} {s : Shared}
theorem setX_put {o : Obj} {es es1 : Array (Int × Value)} {ep : Nat} {t t1 : SetTable} {ks1 : List Key} (ho : s.heap.get? a = some o) (hd : o.data = .set es ep t) (hx : o.ExactSet) (D : SetD w es1 t1 ks1) {Q : Unit → Shared → Prop}
    (q : ∀ o', o'.ExactSet → o'.data = .set es1 (ep + 1) t1 → (s.heap.update a (Obj.putSet es1 t1)).get? a = some o' → Q () { s with heap := s.heap.update a (Obj.putSet es1 t1) }) : wpAny (model P w) A (storeSet a es1 t1) Q E s := by
  refine wpAny_storeSet_of ho hd ?_ (fits_of_scanBound D.small)
  refine q { o with data := .set es1 (ep + 1) t1 } hx rfl ?_
  have z := Heap.get?_update_self (Obj.putSet es1 t1) ho (by rw [putSet_of es1 t1 hd]; rfl)
  rw [putSet_of es1 t1 hd] at z
  exact z
/-- what is done behind a new entry -/
theorem setX_tail {g : Bool → Sem Unit} (hg : ∀ (b : Bool) (s1 : Shared) (Q : Unit → Shared → Prop), Q () s1 → wpAny (model P w) A (g b) Q E s1) {o : Obj} {es es1 : Array (Int × Value)} {ep : Nat} {t t1 : SetTable} {ks1 : List Key} {wd : Bool} {R : Option Bool → Shared → Prop}
    (ho : s.heap.get? a = some o) (hd : o.data = .set es ep t) (hx : o.ExactSet) (D : SetD w es1 t1 ks1) (hR : ∀ h', Heap.SameBut a s.heap h' → SetX w h' a ks1 → R (some true) { s with heap := h' }) :
    wpAny (model P w) A (do
        storeSet a es1 t1
        if (!wd && t1.tooFull) = true then do
            g (relayAll t1 es1 (SetTable.grown es1.size)).2.2
            storeSet a (relayAll t1 es1 (SetTable.grown es1.size)).1 (relayAll t1 es1 (SetTable.grown es1.size)).2.1
            pure (some true)
          else pure (some true)) R E s := by
  refine wpAny_bind (setX_put ho hd hx D fun o1 x1 d1 g1 => ?_)
  have b1 := Heap.SameBut.update s.heap a (Obj.putSet es1 t1)
  split
  · have hp := relayAll_perm t1 es1 (SetTable.grown es1.size)
    have D2 : SetD w (relayAll t1 es1 (SetTable.grown es1.size)).1 (relayAll t1 es1 (SetTable.grown es1.size)).2.1 ks1 := {
      ent := fun e he => D.ent e (hp.mem_iff.mp he)
      perm := (hp.map _).trans D.perm
      nd := D.nd
      lt := D.lt
      fits := relayAll_fits t1 es1 _
      ris := relayAll_ris t1 es1 _
      led := D.led.imp id fun z => by rw [relayAll_led]; exact z }
    refine wpAny_bind (hg _ _ _ (wpAny_bind (setX_put (s := { s with heap := s.heap.update a (Obj.putSet es1 t1) }) g1 d1 x1 D2 fun o2 x2 d2 g2 => wpAny_pure (hR _ (b1.trans (Heap.SameBut.update _ a _)) ⟨o2, _, _, _, g2, x2, d2, D2⟩))))
  · exact wpAny_pure (hR _ b1 ⟨o1, es1, _, t1, g1, x1, d1, D⟩)
theorem setX_new {v : Value} {k : Key} {Q : Bool → Shared → Prop} (R : SetX w s.heap a ks) (r : RelV (kV k) v) (room : ks.length + 1 < scanBound)
    (hQ : ∀ h', Heap.SameBut a s.heap h' → SetX w h' a (addK ks k) → Q (!decide (k ∈ ks)) { s with heap := h' }) : wpAny (model P w) A (setAddHashed a v ((mixKind P w).hash k)) Q E s := by
  obtain ⟨o, es, ep, t, ho, hx, hd, D⟩ := R
  have hk : (mixKind P w).is k v = true := kV_is r
  have hs := key_scan r
  unfold setAddHashed setAddHashedIn
  refine wpAny_holding (wpAny_bind (wpAny_setState_of ho hd D.fits ?_))
  dsimp only
  rw [byScan_of hs D.small (D.elems P)]
  simp only [↓reduceIte]
  unfold setAddByScan
  refine wpAny_bind (wpAny_bind (wpAny_rule (wpAny_bind (wpAny_setScan_of hk ho hd D.fits (D.elems P) ?_))))
  have hf := D.at_ P k
  cases hfi : List.findIdx? (fun e => (mixKind P w).is k e.2) es.toList with
  | some j =>
    obtain ⟨hj, pj, _⟩ := List.findIdx?_eq_some_iff_getElem.mp hfi
    have hin : k ∈ ks := hf.mpr ⟨_, List.getElem_mem hj, pj⟩
    dsimp only
    refine wpAny_pure (wpAny_pure ?_)
    have q := hQ s.heap (Heap.SameBut.refl a s.heap) ⟨o, es, ep, t, ho, hx, hd, by unfold addK; rw [if_pos hin]; exact D⟩
    rw [decide_eq_true hin] at q
    exact q
  | none =>
    have hno : k ∉ ks := fun z => by
      obtain ⟨e, he, q⟩ := hf.mp z
      rw [List.findIdx?_eq_none_iff.mp hfi e he] at q
      cases q
    dsimp only
    have gw : ∀ (b : Bool) {s1 : Shared} {Q' : Unit → Shared → Prop}, Q' () s1 → wpAny (model P w) A (match b with | true => rule "set.scan.the-table-gave-way" | false => pure ()) Q' E s1 := fun b s1 Q' q => by
      cases b <;> first | exact wpAny_pure q | exact wpAny_rule q
    have hp := layNew_perm t es ((mixKind P w).hash k) v
    have h1 := layNew_fits t es ((mixKind P w).hash k) v
    have h2 := layNew_ris t es ((mixKind P w).hash k) v D.ris
    have h3 := layNew_led t es ((mixKind P w).hash k) v
    generalize layNew t es ((mixKind P w).hash k) v = Z at hp h1 h2 h3 ⊢
    obtain ⟨es1, t1, wd, gave⟩ := Z
    dsimp only at hp h1 h2 h3 ⊢
    rw [Array.toList_push] at hp
    have e0 : addK ks k = ks ++ [k] := by unfold addK; rw [if_neg hno]
    have mk : ∀ t2 : SetTable, t2.fits es1.size = true → Ris t2.place.toList → t2.led = t1.led → SetD w es1 t2 (addK ks k) := fun t2 f2 r2 l2 => {
      ent := fun e he => by
        rcases List.mem_append.mp (hp.mem_iff.mp he) with z | z
        · exact D.ent e z
        · rw [List.mem_singleton.mp z]; exact Ent.mk' r
      perm := by
        rw [e0]
        refine (hp.map _).trans ?_
        rw [List.map_append, List.map_singleton]
        show (_ ++ [kOf v]).Perm _
        rw [kOf_of r]
        exact List.Perm.append_right _ D.perm
      nd := by
        rw [e0]
        exact List.nodup_append.mpr ⟨D.nd, by simp, fun x hx y hy z => hno (by rw [List.mem_singleton.mp hy] at z; rw [← z]; exact hx)⟩
      lt := by rw [e0, List.length_append]; exact room
      fits := f2
      ris := r2
      led := D.led.imp id fun z => by rw [l2, h3]; exact z }
    have fin : ∀ h', Heap.SameBut a s.heap h' → SetX w h' a (addK ks k) → Q true { s with heap := h' } := fun h' sb x => by
      have q := hQ h' sb x
      rw [decide_eq_false hno] at q
      exact q
    refine wpAny_bind (gw _ ?_)
    split
    · refine wpAny_bind ?_
      rw [hashByValue_scannable 8 hs]
      refine wpAny_pure (setX_tail (fun b s1 Q' q => ?_) ho hd hx (mk _ ?_ ?_ ?_) fun h' sb x => ?_)
      · cases b <;> first | exact wpAny_pure q | exact wpAny_rule q
      · first | (split <;> first | exact h1 | exact SetTable.fits_plain_off h1) | exact h1
      · first | (split <;> exact h2) | exact h2
      · first | (split <;> rfl) | rfl
      · dsimp only; exact wpAny_pure (fin h' sb x)
    · refine wpAny_bind (wpAny_pure ?_)
      simp only [↓reduceIte]
      refine setX_tail (fun b s1 Q' q => ?_) ho hd hx (mk _ h1 h2 rfl) fun h' sb x => ?_
      · cases b <;> first | exact wpAny_pure q | exact wpAny_rule q
      · dsimp only; exact wpAny_pure (fin h' sb x)
/-- s.add(k) -/
theorem setX_add {v : Value} {k : Key} {Q : Value → Shared → Prop} (R : SetX w s.heap a ks) (r : RelV (kV k) v) (room : ks.length + 1 < scanBound)
    (hQ : ∀ h', Heap.SameBut a s.heap h' → SetX w h' a (addK ks k) → Q .none { s with heap := h', toks := s.toks + 1 }) : wpAny (model P w) A (call (.builtin "set.add") [.ref a, v]) Q E s := by
  have hS : s.heap.SetOf (mixKind P w) a _ _ := R.setOf
  refine wpAny_call_entry F.slot_set_add hS.typeIs F.entry_set_add ?_ (F.args_set_add_2 _ _)
  unfold Builtin.«set.add» Builtin.Frozenset.oneOther
  simp only [List.isEmpty_nil, bind_assoc]
  unfold Builtin.Frozenset.addrOf setAdd
  refine wpAny_bind (wpAny_pure ?_)
  try dsimp only
  refine wpAny_bind (wpAny_pure ?_)
  try dsimp only
  refine wpAny_bind (wpAny_holding (wpAny_bind ((mixKind P w).pyHash (kV_is r) ?_)))
  exact setX_new (s := { s with toks := s.toks + 1 }) R r room fun h' sb x => wpAny_pure ⟨_, rfl, hQ h' sb x⟩
end
/-- the set at a, as a tracked thing -/
def SetXO (w : World) (a : Addr) (ks : List Key) : HO := .ext fun h => SetX w h a ks
section
variable {X : Cx}
theorem setXO_ok {P : Program} {w : World} {H : Hp} {h : Heap} {a : Addr} {ks : List Key} (R : SetX w h a ks) : ObjOk P w H h a (SetXO w a ks) := ⟨R, R.there, fun h1 h2 p k => SetX.keeps p k⟩
theorem setXO_at {pins : List (Addr × Obj)} {σ : L2.St} {H : Hp} {s : Shared} {a : Addr} {ks : List Key} (I : Inv X pins σ H s) (ha : H a = some (SetXO X.w a ks)) : SetX X.w s.heap a ks := (I.hok a _ ha).1
abbrev setObj (w : World) : Obj := { cls := .type "set", dict := none, data := .set #[] 0 (.fresh 0 0 (!w.params.followText "set-order")) }
theorem setX_fresh {w : World} {h : Heap} : SetX w (h.push (setObj w)) h.objs.size [] := ⟨_, #[], 0, _, Heap.get?_push_size _ rfl, ⟨rfl, rfl, rfl⟩, rfl, {
  ent := fun e he => by simp at he
  perm := by simp
  nd := by simp
  lt := by decide
  fits := by rfl
  ris := List.Pairwise.nil
  led := by
    show _ ∨ (!w.params.followText "set-order") = true
    cases w.params.followText "set-order" <;> simp }⟩
theorem makes_set {P : Program} {w : World} : Makes P w (newSet (.type "set")) (setObj w) (fun a => SetXO w a []) where
  go := fun A E s Q h => by
    unfold newSet
    refine wpAny_bind (wpAny_byText ?_)
    dsimp only
    simp only [newObj]
    exact wpAny_bind (wpAny_alloc (wpAny_pure h))
  ok := fun H h _ => setXO_ok setX_fresh
/-- what a set's item does -/
def emSet (w : World) (te : TE) (D : Addr) : TEm := fun σ H N => te σ H fun y H1 => ∃ (k : Key) (ks : List Key), y = kV k ∧ H1 D = some (SetXO w D ks) ∧ ks.length + 1 < scanBound ∧ N (upd H1 D (SetXO w D (addK ks k)))
theorem pem_set {elt : Expr} {te : TE} (hx : ∀ e s, X.xe e s → False) (he : PE X elt te) (D : Addr) : PEm X (do let v ← eval elt X.env; standAt elt.pos; let _ ← call (.builtin "set.add") [Value.ref D, v]) (emSet X.w te D) := ⟨fun pins s σ H N I h => by
  refine wpAny_bind (thnX hx (he.run pins s σ H _ I h) fun v s1 h1 => ?_)
  obtain ⟨y, H1, I1, r, k, ks, rfl, hD, room, n⟩ := h1
  refine wpAny_bind (wpAny_standAt (wpAny_bind (setX_add (setXO_at I1 hD) r room fun h' sb x => wpAny_pure ⟨_, ?_, n⟩)))
  exact I1.write (e := D) (t' := s1.toks + 1) (by rw [hD]; trivial) (.inl rfl) (fun b u hb hu => (sb.2 b hb).trans hu) x.there (setXO_ok x)⟩
end
end Hr
namespace Hr
open PySem PySem.Spec PyProof.Rows L2 Evl
/-! ### sorted, min, max of data -/
open PySem.W (EachIs AllAlike Sortable)
abbrev leD (d e : PyData) : Bool := PySem.W.dataLe false (fun x : PyData => x) d e
abbrev sortD (ds : List PyData) : List PyData := ds.mergeSort (PySem.W.dataLe false fun x : PyData => x)
def isTupNE : PyData → Bool
  | .tuple (_ :: _) => true
  | _ => false
def noTup : PyData → Bool
  | .none => false
  | .tuple _ => false
  | _ => true
/-- a list that can be sorted here -/
def okSort (ds : List PyData) : Bool := (ds.all fun d => ds.all fun e => PySem.W.alike d e) && (ds.all isTupNE || ds.all noTup) && ds.all fun d => decide (d.depth ≤ 50)
theorem okSort_al {ds : List PyData} (h : okSort ds = true) : AllAlike ds := fun d hd e he => by
  unfold okSort at h
  simp only [Bool.and_eq_true] at h
  exact List.all_eq_true.mp (List.all_eq_true.mp h.1.1 d hd) e he
theorem okSort_ne {ds : List PyData} (h : okSort ds = true) : ds = [] ∨ ∀ d ∈ ds, d ≠ .none := by
  unfold okSort at h
  simp only [Bool.and_eq_true, Bool.or_eq_true] at h
  right
  intro d hd z
  subst z
  rcases h.1.2 with h | h <;> cases List.all_eq_true.mp h _ hd
theorem okSort_so {ds : List PyData} (h : okSort ds = true) : Sortable ds := by
  unfold okSort at h
  simp only [Bool.and_eq_true, Bool.or_eq_true] at h
  rcases h.1.2 with h | h
  · refine .inl fun d hd => ?_
    have := List.all_eq_true.mp h d hd
    match d, this with
    | .tuple (x :: r), _ => exact ⟨x, r, rfl⟩
  · refine .inr fun d hd => ?_
    have := List.all_eq_true.mp h d hd
    match d, this with
    | .bool _, _ => exact ⟨nofun, nofun⟩
    | .int _, _ => exact ⟨nofun, nofun⟩
    | .str _, _ => exact ⟨nofun, nofun⟩
    | .list _, _ => exact ⟨nofun, nofun⟩
    | .dict _, _ => exact ⟨nofun, nofun⟩
theorem okSort_dp {ds : List PyData} (h : okSort ds = true) : ∀ d ∈ ds, d.depth ≤ 50 := fun d hd => by
  unfold okSort at h
  simp only [Bool.and_eq_true] at h
  exact of_decide_eq_true (List.all_eq_true.mp h.2 d hd)
section
variable {K : PySem.W.Frag} {F H : Hp}
theorem dba_each : ∀ {vs : List V} {ds : List PyData}, DbA K F vs ds → EachIs (Db K F) vs ds
  | _, _, .nil => .nil
  | _, _, .cons a b => .cons a (dba_each b)
theorem each_dba : ∀ {vs : List V} {ds : List PyData}, EachIs (Db K F) vs ds → DbA K F vs ds
  | _, _, .nil => .nil
  | _, _, .cons a b => .cons a (each_dba b)
/-- values and what they stand for -/
theorem each_val {R : V → PyData → Prop} : ∀ {vs : List V} {us : List Value} {ds : List PyData}, Vals vs us → EachIs R vs ds → EachIs (fun u d => ∃ x, RelV x u ∧ R x d) us ds
  | _, _, _, .nil, .nil => .nil
  | _, _, _, .cons r t, .cons a b => .cons ⟨_, r, a⟩ (each_val t b)
theorem val_each {R : V → PyData → Prop} : ∀ {us : List Value} {ds : List PyData}, EachIs (fun u d => ∃ x, RelV x u ∧ R x d) us ds → ∃ vs, Vals vs us ∧ EachIs R vs ds
  | _, _, .nil => ⟨[], .nil, .nil⟩
  | _, _, .cons ⟨x, r, a⟩ t => by
    obtain ⟨vs, h1, h2⟩ := val_each t
    exact ⟨x :: vs, .cons r h1, .cons a h2⟩
end
section
variable {X : Cx}
theorem dpa_reads {pins : List (Addr × Obj)} {σ : L2.St} {H : Hp} {s : Shared} (I : Inv X pins σ H s) : ∀ {vs : List V} {us : List Value} {ds : List PyData}, Vals vs us → DpAll X.K H vs ds → EachIs (fun u d => ∃ as, Reads s.heap u d as) us ds
  | _, _, _, .nil, .nil => .nil
  | _, _, _, .cons r t, .cons a b => .cons (Dp.reads I _ _ _ a r) (dpa_reads I t b)
def rSortD (K : PySem.W.Frag) : List V → Hp → VK → Prop := fun vs H Q => ∃ (a : Addr) (xs : List V) (ds : List PyData) (R : V → PyData → Prop), vs = [.ref a] ∧ SqL K H a xs ∧ DpAll K H xs ds ∧ EachIs R xs ds ∧ okSort ds = true ∧
  ∀ ys p, EachIs R ys (sortD ds) → H p = none → Q (.ref p) (upd H p (.lst ys))
theorem cr_sortD {k : Nat} (hr : Rm k X.A) : CallR X (.builtin "sorted") (rSortD X.K) := by
  intro pins s σ H vs us Q I r h
  obtain ⟨a, xs, ds, R, rfl, hs, hd, hR, hok, q⟩ := h
  obtain ⟨its, rv, hl, hz⟩ := I.list hs
  rw [Vals.ref1 r]
  have hlen : ds.length ≤ sizeLine := by
    have h1 := (each_val rv hR).length
    rw [← h1, ← rv.length]; exact hz
  have hu := hr.room.units
  refine PySem.W.sorted_data (enc := fun x : PyData => x) (R := fun u d => ∃ x, RelV x u ∧ R x d) hl.isList (each_val rv hR) (dpa_reads I rv hd) (by rw [List.map_id']; exact okSort_al hok) (by rw [List.map_id']; exact okSort_so hok) hlen (fun b hb => ?_) fun out hn ho => ?_
  · have := okSort_dp hok b hb
    show _ + 2 + b.depth < _
    omega
  · obtain ⟨ys, h1, h2⟩ := val_each ho
    obtain ⟨ep, he⟩ := PyProof.Rows.sortedAll_at s.heap its out.toArray
    have hyl : ys.length ≤ sizeLine := by rw [h1.length, hn]; exact hlen
    exact ⟨.ref _, upd H (s.heap.objs.size + 1) (.lst ys), I.laid (t' := s.toks) (fun _ _ => PyProof.Rows.sortedAll_old) (Nat.le_succ _) ⟨hyl, out, ep, h1, he⟩, rfl, q _ _ h2 (I.hok.fresh (Nat.le_succ _))⟩
theorem kD_db {K : PySem.W.Frag} {F : Hp} (k : Key) : Db K F (kV k) (kD k) := by cases k <;> constructor
theorem kD_reads {h : Heap} {k : Key} {v : Value} (r : RelV (kV k) v) : ∃ as, Reads h v (kD k) as := by
  cases k with
  | inl i => obtain ⟨t, rfl⟩ := r; exact ⟨[], .int _ _⟩
  | inr x => obtain ⟨t, rfl⟩ := r; exact ⟨[], .str _ _⟩
def rSortX (K : PySem.W.Frag) (w : World) : List V → Hp → VK → Prop := fun vs H Q => ∃ (a : Addr) (ks : List Key), vs = [.ref a] ∧ H a = some (SetXO w a ks) ∧ okSort (ks.map kD) = true ∧
  ∀ (ys : List V) (ms : List Key) p, ms.Perm ks → EachIs (fun v d => ∃ k, v = kV k ∧ d = kD k) ys (sortD (ms.map kD)) → H p = none → Q (.ref p) (upd H p (.lst ys))
end
theorem leD_int (x y : Int) : leD (.int x) (.int y) = decide (x ≤ y) := by
  show PySem.W.dataLe false (fun x : PyData => x) (.int x) (.int y) = _
  rw [PySem.W.dataLe_eq]
  show (!PySem.W.dataLt (.int y) (.int x)) = _
  rw [PySem.W.dataLt_int]
  exact PySem.W.not_lt_int x y
theorem leD_str (x y : Str) : leD (.str x) (.str y) = decide (x.cps.toList ≤ y.cps.toList) := by
  show PySem.W.dataLe false (fun x : PyData => x) (.str x) (.str y) = _
  rw [PySem.W.dataLe_eq]
  show (!PySem.W.dataLt (.str y) (.str x)) = _
  rw [PySem.W.dataLt_str]
  exact PySem.W.not_lt_str _ _
theorem leD_anti {j k : Key} (ha : PySem.W.alike (kD j) (kD k) = true) (h1 : leD (kD j) (kD k) = true) (h2 : leD (kD k) (kD j) = true) : kD j = kD k := by
  cases j with
  | inl i =>
    cases k with
    | inl j =>
      have h1 : leD (.int i) (.int j) = true := h1
      have h2 : leD (.int j) (.int i) = true := h2
      rw [leD_int, decide_eq_true_eq] at h1 h2
      rw [Int.le_antisymm h1 h2]
    | inr y => cases ha
  | inr x =>
    cases k with
    | inl j => cases ha
    | inr y =>
      have h1 : leD (.str x) (.str y) = true := h1
      have h2 : leD (.str y) (.str x) = true := h2
      rw [leD_str, decide_eq_true_eq] at h1 h2
      have := List.le_antisymm h1 h2
      obtain ⟨x⟩ := x
      obtain ⟨y⟩ := y
      have : x = y := Array.toList_inj.mp this
      rw [this]
theorem sortD_sorted (ds : List PyData) : (sortD ds).Pairwise (fun a b => leD a b = true) := PySem.W.sort_pairwise (PySem.W.sortLe_total _ _ _) ds
theorem sortD_perm (ds : List PyData) : (sortD ds).Perm ds := List.mergeSort_perm ds _
theorem sortD_keys {ks ms : List Key} (hp : ms.Perm ks) (ha : AllAlike (ks.map kD)) : sortD (ms.map kD) = sortD (ks.map kD) := by
  have p : (sortD (ms.map kD)).Perm (sortD (ks.map kD)) := (sortD_perm _).trans ((hp.map kD).trans (sortD_perm _).symm)
  refine List.Perm.eq_of_pairwise (fun a b h1 h2 => ?_) (sortD_sorted _) (sortD_sorted _) p
  have q1 := (sortD_perm _).mem_iff.mp (p.mem_iff.mp h1)
  have q2 := (sortD_perm _).mem_iff.mp h2
  obtain ⟨j, hj, rfl⟩ := List.mem_map.mp q1
  obtain ⟨k, hk, rfl⟩ := List.mem_map.mp q2
  exact leD_anti (ha _ q1 _ q2)
section
variable {X : Cx}
theorem cr_sortX (hc : X.calm = true) {k : Nat} (hr : Rm k X.A) : CallR X (.builtin "sorted") (rSortX X.K X.w) := by
  intro pins s σ H vs us Q I r h
  obtain ⟨a, ks, rfl, ha, hok, q⟩ := h
  obtain ⟨o, es, ep, t, ho, hx, hd, D⟩ := setXO_at I ha
  rw [Vals.ref1 r]
  have hu := hr.room.units
  refine Calls.call_function_entry kind_sorted plain_sorted entry_sorted (args_sorted1 _) ?_
  unfold Builtin.«sorted»
  refine wpAny_bind (m := checkCount "sorted" 1 1 _) (wpAny_pure ?_)
  refine wpAny_bind (collect_set (A := X.A.in1) (I.ok.hd hc) ⟨o, ho, hx.1, hd⟩ D.fits D.small D.ris D.led fun s1 out k1 hz g1 o1 pm => ?_)
  have hol : out.length = ks.length := by rw [pm.length_eq, List.length_map, Array.length_toList, D.size]
  have hsb : ks.length ≤ sizeLine := fits_of_scanBound D.lt
  have hin : ∀ v ∈ out, RelV (kV (kOf v)) v := fun v hv => by
    obtain ⟨e, he, z⟩ := List.mem_map.mp (pm.mem_iff.mp hv)
    rw [← z]
    exact (D.ent e he).1
  have pk : (out.map kOf).Perm ks := by
    have z := (pm.map kOf).trans (by rw [List.map_map])
    exact z.trans D.perm
  have hok2 : okSort ((out.map kOf).map kD) = true := by
    have pp : ((out.map kOf).map kD).Perm (ks.map kD) := pk.map kD
    unfold okSort at hok ⊢
    simp only [Bool.and_eq_true, Bool.or_eq_true, List.all_eq_true] at hok ⊢
    refine ⟨⟨fun x hx y hy => hok.1.1 x (pp.mem_iff.mp hx) y (pp.mem_iff.mp hy), hok.1.2.imp (fun z x hx => z x (pp.mem_iff.mp hx)) fun z x hx => z x (pp.mem_iff.mp hx)⟩, fun x hx => hok.2 x (pp.mem_iff.mp hx)⟩
  refine wpAny_bind (wpAny_newList ?_ (by rw [hol]; exact hsb))
  have hoL : (s1.heap.push (seqObj "list" out.toArray 0)).get? s1.heap.objs.size = some (seqObj "list" out.toArray 0) := Heap.get?_push_size _ rfl
  have e1 : ∀ {l : List Value}, (∀ v ∈ l, RelV (kV (kOf v)) v) → EachIs (fun u d => ∃ k, RelV (kV k) u ∧ d = kD k) l ((l.map kOf).map kD) := fun {l} hl => by
    induction l with
    | nil => exact .nil
    | cons v l ih => exact .cons ⟨_, hl v List.mem_cons_self, rfl⟩ (ih fun u hu => hl u (List.mem_cons_of_mem _ hu))
  have e2 : ∀ {l : List Value} {h : Heap} {b : Addr}, (∀ v ∈ l, RelV (kV (kOf v)) v) → EachIs (fun u d => ∃ as, Reads h u d as ∧ b ∉ as) l ((l.map kOf).map kD) := fun {l h b} hl => by
    induction l with
    | nil => exact .nil
    | cons v l ih =>
      refine .cons ?_ (ih fun u hu => hl u (List.mem_cons_of_mem _ hu))
      have := hl v List.mem_cons_self
      generalize kOf v = k at this ⊢
      cases k with
      | inl i => obtain ⟨t, rfl⟩ := this; exact ⟨[], .int _ _, by simp⟩
      | inr x => obtain ⟨t, rfl⟩ := this; exact ⟨[], .str _ _, by simp⟩
  refine wpAny_bind (wpAny_holding (PySem.W.list_sort_data (enc := fun x : PyData => x) (bs := (out.map kOf).map kD) (R := fun u d => ∃ k, RelV (kV k) u ∧ d = kD k) hoL (e1 hin) (e2 hin) (by rw [List.map_id']; exact okSort_al hok2) (by rw [List.map_id']; exact okSort_so hok2)
    (by rw [List.length_map, List.length_map, hol]; exact hsb) (fun b hb => ?_) fun l2 hl2 hs2 => ?_))
  · have := okSort_dp hok2 b hb
    show _ + 1 + b.depth < _
    have e3 : X.A.in1.units = X.A.units + 1 := rfl
    omega
  · obtain ⟨c, hcc⟩ := sortedHeap_at (vs := out) (out := l2.toArray) hoL
    have hys : ∀ {l : List Value} {ds : List PyData}, EachIs (fun u d => ∃ k, RelV (kV k) u ∧ d = kD k) l ds → ∃ ys, Vals ys l ∧ EachIs (fun v d => ∃ k, v = kV k ∧ d = kD k) ys ds := fun {l ds} e => by
      induction e with
      | nil => exact ⟨[], .nil, .nil⟩
      | cons hh _ ih =>
        obtain ⟨k, h1, h2⟩ := hh
        obtain ⟨ys, h3, h4⟩ := ih
        exact ⟨kV k :: ys, .cons h1 h3, .cons ⟨k, rfl, h2⟩ h4⟩
    obtain ⟨ys, hv, he⟩ := hys hs2
    have hyl : ys.length ≤ sizeLine := by
      rw [hv.length, hl2, List.length_map, List.length_map, hol]; exact hsb
    have keep : ∀ b u, s.heap.get? b = some u → (sortedHeap (s1.heap.push (seqObj "list" out.toArray 0)) s1.heap.objs.size out l2.toArray).get? b = some u := fun b u e => by
      have z := k1 b u e
      have lt := Heap.lt_size z
      rw [sortedHeap_old (Nat.ne_of_lt lt) (by rw [size_push']; exact Nat.lt_succ_of_lt lt)]
      exact Heap.get?_push_of_some _ z
    have hn : H s1.heap.objs.size = none := I.hok.fresh hz
    have J : Inv X pins σ (upd H s1.heap.objs.size (.lst ys)) { s with heap := sortedHeap (s1.heap.push (seqObj "list" out.toArray 0)) s1.heap.objs.size out l2.toArray, gens := s1.gens, drawn := s1.drawn, toks := s1.toks } :=
      I.call (ch := []) (Un.laid keep hz hn) (I.hok.laid keep hz ⟨hyl, l2, c, hv, hcc⟩) (by show AllBare s1.gens; rw [g1]; exact I.bare) (fun _ z => nomatch z)
    have e : ({ s1 with heap := sortedHeap (s1.heap.push (seqObj "list" out.toArray 0)) s1.heap.objs.size out l2.toArray } : Shared) = { s with heap := sortedHeap (s1.heap.push (seqObj "list" out.toArray 0)) s1.heap.objs.size out l2.toArray, gens := s1.gens, drawn := s1.drawn, toks := s1.toks } := by
      cases s1
      cases s
      cases o1
      rfl
    refine wpAny_pure ⟨_, rfl, ?_⟩
    show EP X pins σ Q (.ref s1.heap.objs.size) { s1 with heap := sortedHeap (s1.heap.push (seqObj "list" out.toArray 0)) s1.heap.objs.size out l2.toArray }
    rw [e]
    exact ⟨.ref _, _, J, rfl, q ys _ _ pk he hn⟩
end
end Hr
namespace Hr
open PySem PySem.Spec PyProof.Rows L2 Evl
/-! ### comprehensions of any number of clauses, over data -/
section
variable {K : PySem.W.Frag} {a : Option Addr} {F H F1 H1 : Hp} {D : Addr} {o : HO} {n m : Nat}
theorem hide_show (h : Evl.Ex F H) : Step a F (unP H D) F H where
  kp := fun c u e _ => by
    by_cases z : c = D
    · rw [z, unP_p] at e; cases e
    · rw [unP_ne z] at e; exact e
  th := fun c e => by
    by_cases z : c = D
    · rw [z, unP_p] at e; exact absurd rfl e
    · rw [unP_ne z] at e; exact e
  ff := Ex.refl F
  fh := h
  nw := fun c e n => absurd e n
theorem step_D (x : Step a F H F1 H1) (f : F D = none) (h : H D = some o) (hd : a ≠ some D) : F1 D = none ∧ H1 D = some o := by
  refine ⟨?_, x.kp D o h hd⟩
  cases q : F1 D with
  | none => rfl
  | some u =>
    have z := x.nw D f (by rw [q]; exact nofun)
    rw [h] at z; cases z
theorem step_hide (x : Step a F H F1 H1) (f1 : F1 D = none) : Step a F (unP H D) F1 (unP H1 D) where
  kp := fun c u e n => by
    by_cases z : c = D
    · rw [z, unP_p] at e; cases e
    · rw [unP_ne z] at e ⊢; exact x.kp c u e n
  th := fun c e => by
    by_cases z : c = D
    · rw [z, unP_p] at e; exact absurd rfl e
    · rw [unP_ne z] at e ⊢; exact x.th c e
  ff := x.ff
  fh := fun c u e => by
    by_cases z : c = D
    · rw [z, f1] at e; cases e
    · rw [unP_ne z]; exact x.fh c u e
  nw := fun c e n => by
    by_cases z : c = D
    · rw [z]; exact unP_p
    · rw [unP_ne z]; exact x.nw c e n
theorem gen_show (g : GenO a F (unP H D) n) : GenO a F H n := ⟨g.nb, fun p e => by
  obtain ⟨h1, m, h2, h3⟩ := g p e
  refine ⟨h1, m, ?_, h3⟩
  obtain ⟨s0, s1, s2, h, r⟩ := h2.ex
  refine ⟨s0, s1, s2, ?_, r⟩
  by_cases z : p = D
  · rw [z, unP_p] at h; cases h
  · rw [unP_ne z] at h; exact h⟩
theorem gen_hide (g : GenO a F H n) (hd : a ≠ some D) : GenO a F (unP H D) n := ⟨g.nb, fun p e => by
  obtain ⟨h1, m, h2, h3⟩ := g p e
  refine ⟨h1, m, ?_, h3⟩
  obtain ⟨s0, s1, s2, h, r⟩ := h2.ex
  refine ⟨s0, s1, s2, ?_, r⟩
  rw [unP_ne (fun z => hd (by rw [e, z]))]; exact h⟩
theorem unP_upd : unP (upd H D o) D = unP H D := by
  funext c
  by_cases z : c = D
  · rw [z, unP_p, unP_p]
  · rw [unP_ne z, unP_ne z, upd_ne z]
theorem unP_none (h : H D = none) : unP H D = H := by
  funext c
  by_cases z : c = D
  · rw [z, unP_p, h]
  · rw [unP_ne z]
/-! targets where a part of the heap is hidden -/
def GMh (K : PySem.W.Frag) (is : List Nat) (g : TG) (m : PyData → Env → Tr Env) : Prop := ∀ a H0 F Hr H e σ n v d (Q : L2.St → Hp → Prop), Evl.Ex Hr H → R K a H0 F Hr e σ n → Db K F v d →
  (m d e).all (fun e' k => k = n → ∀ σ', R K a H0 F Hr e' σ' n → OnlyS is σ σ' → Q σ' H) n → g v σ H Q
def GMhs (K : PySem.W.Frag) (is : List Nat) (g : TGs) (m : List PyData → Env → Tr Env) : Prop := ∀ a H0 F Hr H e σ n vs ds (Q : L2.St → Hp → Prop), Evl.Ex Hr H → R K a H0 F Hr e σ n → DbA K F vs ds →
  (m ds e).all (fun e' k => k = n → ∀ σ', R K a H0 F Hr e' σ' n → OnlyS is σ σ' → Q σ' H) n → g vs σ H Q
variable {is js : List Nat} {g : TG} {mg : PyData → Env → Tr Env}
theorem gmh_name (i : Nat) : GMh K [i] (gName i) (fun d e => .done (e.set i (.dat d))) := fun a H0 F Hr H e σ n v d Q _ r hv q => q rfl _ (r.put hv) ⟨List.length_set, fun j hj => by
  rw [List.getElem?_set, if_neg (fun z => hj (by rw [z]; exact List.mem_singleton.mpr rfl))]⟩
theorem gmhs_nil : GMhs K [] gNil (fun ds e => match ds with | [] => .done e | _ => .fail) := fun a H0 F Hr H e σ n vs ds Q _ r hv q => by
  cases hv with
  | nil => exact ⟨rfl, q rfl _ r ⟨rfl, fun _ _ => rfl⟩⟩
  | cons _ _ => exact q.elim
theorem gmhs_cons {gs : TGs} {mgs : List PyData → Env → Tr Env} (h : GMh K is g mg) (hc : Calm mg) (hs : GMhs K js gs mgs) : GMhs K (is ++ js) (gCons g gs) (fun ds e => match ds with | [] => .fail | d :: ds => (mg d e).bind (mgs ds)) :=
  fun a H0 F Hr H e σ n vs ds Q ex r hv q => by
    cases hv with
    | nil => exact q.elim
    | cons h1 h2 =>
      rename_i v vs d ds
      refine ⟨v, vs, rfl, ?_⟩
      have q' : ((mg d e).bind (mgs ds)).all _ n := q
      rcases hc d e with z | ⟨e', z⟩
      · rw [z] at q'; exact q'.elim
      · rw [z] at q'
        refine h a H0 F Hr H e σ n v d _ ex r h1 ?_
        rw [z]
        intro _ σ' r' o'
        refine hs a H0 F Hr H e' σ' n vs ds Q ex r' h2 (Tr.all_mono (fun e2 k hk ek σ2 r2 o2 => hk ek σ2 r2 ⟨o2.ln.trans o'.ln, fun i hi => ?_⟩) q')
        exact (o2.ex i fun z => hi (List.mem_append_right _ z)).trans (o'.ex i fun z => hi (List.mem_append_left _ z))
theorem gmh_tup {n : Nat} {gs : TGs} {mgs : List PyData → Env → Tr Env} (h : GMhs K is gs mgs) : GMh K is (gTup K n gs) (untup n mgs) := fun a H0 F Hr H e σ k v d Q ex r hv q => by
  cases hv with
  | tup a b =>
    have q' : Tr.all _ (if _ then _ else _) k := q
    split at q'
    · rename_i hl
      exact ⟨_, _, rfl, ex_t ex (ex_t r.fh a), by rw [dba_len b]; exact hl, h _ H0 F Hr H e σ k _ _ Q ex r b q'⟩
    · exact q'.elim
  | _ => exact q.elim
theorem gmh_lst {n : Nat} {gs : TGs} {mgs : List PyData → Env → Tr Env} (h : GMhs K is gs mgs) : GMh K is (gLst K n gs) (unlst n mgs) := fun a H0 F Hr H e σ k v d Q ex r hv q => by
  cases hv with
  | lst a b =>
    have q' : Tr.all _ (if _ then _ else _) k := q
    split at q'
    · rename_i hl
      exact ⟨_, _, rfl, sq_of (ex _ _ (r.fh _ _ a)), by rw [dba_len b]; exact hl, h _ H0 F Hr H e σ k _ _ Q ex r b q'⟩
    · exact q'.elim
  | _ => exact q.elim
end
section
variable {α : Type}
/-- over items, with what has come so far -/
def goA (mg : PyData → Env → Tr Env) (mt : Env → Tr Bool) (me : Env → α → Tr α) (vs : List Nat) (e : Env) : List PyData → α → Tr α
  | [], x => .done x
  | d :: ds, x => (mg d (noM vs e)).bind fun e' => (mt e').bind fun b => if b = true then (me e' x).bind fun y => goA mg mt me vs e ds y else goA mg mt me vs e ds x
/-- what is done with an item, over data -/
def MEm (K : PySem.W.Frag) (Ac : Addr → Hp → α → HO → Prop) (em : Addr → TEm) (me : Env → α → Tr α) : Prop := ∀ a H0 F H e σ n (N : Hp → Prop) D x o, R K a H0 F (unP H D) e σ n → F D = none → Evl.Ex F H → a ≠ some D → H D = some o → Ac D F x o →
  (me e x).all (fun y k => ∀ F' H' o', Step a F (unP H D) F' (unP H' D) → GenO a F' (unP H' D) k → F' D = none → Evl.Ex F' H' → H' D = some o' → Ac D F' y o' → N H') n → em D σ H N
variable {K : PySem.W.Frag} {Ac : Addr → Hp → α → HO → Prop} {em : Addr → TEm} {me : Env → α → Tr α} {is vs : List Nat} {wi : TI} {g : TG} {tt : TT} {mi : Env → Tr (List PyData)} {mg : PyData → Env → Tr Env} {mt : Env → Tr Bool}
theorem loopA (hAc : ∀ D F F' x o, Evl.Ex F F' → Ac D F x o → Ac D F' x o) (hg : GMh K is g mg) (hc : Calm mg) (hs : ∀ i ∈ is, i ∈ vs) (ht : TM K tt mt) (hm : MEm K Ac em me) {a : Option Addr} {H0 F1 H1 : Hp} {e : Env} {σ : L2.St} {n : Nat} {D : Addr} {x : α} {o : HO} {J : It} {ds : List PyData} {N : Hp → Prop}
    (it : Iter K J F1 ds) (r : R K a H0 F1 (unP H1 D) e σ n) (fD : F1 D = none) (ex : Evl.Ex F1 H1) (aD : a ≠ some D) (hD : H1 D = some o) (hx : Ac D F1 x o)
    (q : (goA mg mt me vs e ds x).all (fun y k => ∀ F' H' o', Step a F1 (unP H1 D) F' (unP H' D) → GenO a F' (unP H' D) k → F' D = none → Evl.Ex F' H' → H' D = some o' → Ac D F' y o' → N H') n) :
    tLoop ⟨wi, g, tt, vs⟩ (em D) J σ H1 N := by
  have r1 := r.wipe vs
  refine ⟨fun i m H' => m = ds.length - i ∧ i ≤ ds.length ∧ ∃ F' n' y o', Step a F1 (unP H1 D) F' (unP H' D) ∧ GenO a F' (unP H' D) n' ∧ F' D = none ∧ Evl.Ex F' H' ∧ H' D = some o' ∧ Ac D F' y o' ∧
    (goA mg mt me vs e (ds.drop i) y).all (fun y k => ∀ F' H' o', Step a F1 (unP H1 D) F' (unP H' D) → GenO a F' (unP H' D) k → F' D = none → Evl.Ex F' H' → H' D = some o' → Ac D F' y o' → N H') n',
    ⟨ds.length, by simp, Nat.zero_le _, F1, n, x, o, Step.refl r.fh, r.ga, fD, ex, hD, hx, q⟩, ?_⟩
  rintro i m H' ⟨rfl, hil, F', n', y, o', s', g', f', ex', hD', hy, q'⟩
  obtain ⟨hst, hit⟩ := it a F' H' s'.ff ex'
  by_cases hlt : i < ds.length
  · obtain ⟨hgo, hyl⟩ := hit i ds[i] (List.getElem?_eq_getElem hlt)
    refine .inr ⟨hgo, fun H2 => ∃ F2 n2 y o2, Step a F1 (unP H1 D) F2 (unP H2 D) ∧ GenO a F2 (unP H2 D) n2 ∧ F2 D = none ∧ Evl.Ex F2 H2 ∧ H2 D = some o2 ∧ Ac D F2 y o2 ∧
      (goA mg mt me vs e (ds.drop (i + 1)) y).all (fun y k => ∀ F' H' o', Step a F1 (unP H1 D) F' (unP H' D) → GenO a F' (unP H' D) k → F' D = none → Evl.Ex F' H' → H' D = some o' → Ac D F' y o' → N H') n2, fun H2 w => ⟨ds.length - (i + 1), by omega, rfl, hlt, w⟩, fun v H2 yl => ?_⟩
    obtain ⟨F2, x2, g2, hv⟩ := hyl v H2 yl
    rw [List.drop_eq_getElem_cons hlt] at q'
    have q2 := Tr.all_bind.mp q'
    obtain ⟨f2, hD2⟩ := step_D x2 f' hD' aD
    have s2 := s'.trans (step_hide x2 f2)
    have gg := g2 n' (gen_show g')
    have rh := r1.step s2 (gen_hide gg aD)
    refine hg a H0 F2 (unP H2 D) H2 (noM vs e) (wipe σ vs) n' v ds[i] _ (fun c u z => ?_) rh hv ?_
    · by_cases w : c = D
      · rw [w, unP_p] at z; cases z
      · rw [unP_ne w] at z; exact z
    rcases hc ds[i] (noM vs e) with z | ⟨e', z⟩
    · rw [z] at q2; exact q2.elim
    rw [z] at q2 ⊢
    intro _ σ' r' os
    refine ⟨(os.wipe hs).trans (wipe_twice σ vs), ?_⟩
    have rs := r'.step (hide_show x2.fh) gg
    refine ht a H0 F2 H2 e' σ' n' _ rs (Tr.all_mono (fun b k hb F3 H3 x3 g3 => ?_) (Tr.all_bind.mp q2))
    obtain ⟨f3, hD3⟩ := step_D x3 f2 hD2 aD
    have s3 := s2.trans (step_hide x3 f3)
    cases b with
    | false =>
      exact ⟨F3, k, y, o', s3, gen_hide g3 aD, f3, x3.fh, hD3, hAc _ _ _ _ _ (x2.trans x3).ff hy, hb⟩
    | true =>
      have r3 := r'.step (step_hide x3 f3) (gen_hide g3 aD)
      refine hm a H0 F3 H3 e' σ' k _ D y o' r3 f3 x3.fh aD hD3 (hAc _ _ _ _ _ (x2.trans x3).ff hy) (Tr.all_mono (fun y2 k2 hy2 F4 H4 o4 s4 g4 f4 e4 hD4 hy4 => ?_) (Tr.all_bind.mp hb))
      exact ⟨F4, k2, y2, o4, s3.trans s4, g4, f4, e4, hD4, hy4, hy2⟩
  · have e0 : i = ds.length := by omega
    refine .inl ⟨hst i e0, ?_⟩
    rw [e0, List.drop_length] at q'
    exact q' F' H' o' s' g' f' ex' hD' hy
/-- a clause more -/
theorem mem_cl (hAc : ∀ D F F' x o, Evl.Ex F F' → Ac D F x o → Ac D F' x o) {cs : List Cl} (hi : IM K wi mi) (hg : GMh K is g mg) (hc : Calm mg) (hs : ∀ i ∈ is, i ∈ vs) (ht : TM K tt mt) (hm : MEm K Ac (fun D => tIn cs (em D)) me) :
    MEm K Ac (fun D => tIn (⟨wi, g, tt, vs⟩ :: cs) (em D)) (fun e x => (mi e).bind fun ds => goA mg mt me vs e ds x) := fun a H0 F H e σ n N D x o r fD ex aD hD hx q => by
  have rs := r.step (hide_show ex) (gen_show r.ga)
  refine hi a H0 F H e σ n _ rs (Tr.all_mono (fun ds k hd J F1 H1 x1 g1 it => ?_) (Tr.all_bind.mp q))
  obtain ⟨f1, hD1⟩ := step_D x1 fD hD aD
  refine loopA (em := fun D => tIn cs (em D)) hAc hg hc hs ht hm it (r.step (step_hide x1 f1) (gen_hide g1 aD)) f1 x1.fh aD hD1 (hAc _ _ _ _ _ x1.ff hx) (Tr.all_mono (fun y k2 hy F' H' o' s g f e h ac => ?_) hd)
  exact hy F' H' o' ((step_hide x1 f1).trans s) g f e h ac
/-- the whole -/
theorem co_top (hAc : ∀ D F F' x o, Evl.Ex F F' → Ac D F x o → Ac D F' x o) {cs : List Cl} {new : Addr → HO} {x0 : α} (h0 : ∀ D F, Ac D F x0 (new D)) (hi : IM K wi mi) (hg : GMh K is g mg) (hc : Calm mg) (hs : ∀ i ∈ is, i ∈ vs) (ht : TM K tt mt) (hm : MEm K Ac (fun D => tIn cs (em D)) me)
    {a : Option Addr} {H0 F H : Hp} {e : Env} {σ : L2.St} {n : Nat} {Q : VK} (r : R K a H0 F H e σ n)
    (q : ((mi e).bind fun ds => goA mg mt me vs e ds x0).all (fun y k => ∀ D o F' H', Step a F H F' (unP H' D) → GenO a F' (unP H' D) k → H D = none → a ≠ some D → F' D = none → Evl.Ex F' H' → H' D = some o → Ac D F' y o → Q (.ref D) H') n) :
    tCo new ⟨wi, g, tt, vs⟩ cs em σ H Q := by
  refine hi a H0 F H e σ n _ r (Tr.all_mono (fun ds k hd J F1 H1 x1 g1 it D hD => ?_) (Tr.all_bind.mp q))
  have f1 : F1 D = none := fresh_back x1.fh hD
  have aD : a ≠ some D := fun z => (g1 D z).there hD
  have hHD : H D = none := by
    cases w : H D with
    | none => rfl
    | some u => exact absurd hD (x1.th D (by rw [w]; exact nofun))
  have eu : unP (upd H1 D (new D)) D = H1 := by rw [unP_upd, unP_none hD]
  refine loopA (em := fun D => tIn cs (em D)) hAc hg hc hs ht hm (H0 := H0) (D := D) (o := new D) (x := x0) it ?_ f1 ?_ aD upd_same (h0 D F1) (Tr.all_mono (fun y k2 hy F' H' o' s g f e h ac => ?_) hd)
  · rw [eu]; exact r.step x1 g1
  · exact x1.fh.trans (Ex.new hD)
  · rw [eu] at s
    exact hy D o' F' H' (x1.trans s) g hHD aD f e h ac
/-! ### a list, a set that is sorted -/
def emList (te : TE) (D : Addr) : TEm := fun σ H N => te σ H fun y H1 => ∃ acc, H1 D = some (.lst acc) ∧ acc.length < sizeLine ∧ N (upd H1 D (.lst (acc ++ [y])))
theorem pem_list {X : Cx} {elt : Expr} {te : TE} (hx : ∀ e s, X.xe e s → False) (he : PE X elt te) (D : Addr) : PEm X (do let _ ← call (.builtin "list.append") [Value.ref D, ← eval elt X.env]) (emList te D) := ⟨fun pins s σ H N I h => by
  refine wpAny_bind (thnX hx (he.run pins s σ H _ I h) fun v s1 h1 => ?_)
  obtain ⟨y, H1, I1, r, acc, hD, hl, n⟩ := h1
  exact wpAny_bind (app_ok I1 hD hl r fun s2 I2 => wpAny_pure ⟨_, I2, n⟩)⟩
theorem makes_list {P : Program} {w : World} : Makes P w (newList []) { cls := .type "list", data := .seq ([] : List Value).toArray } (fun _ => .lst []) where
  go := fun A E s Q h => wpAny_newObj_type h (by show 0 ≤ sizeLine; decide)
  ok := fun H h _ => ⟨Nat.zero_le _, [], 0, .nil, Heap.get?_push_size _ rfl⟩
def AcL (K : PySem.W.Frag) (_ : Addr) (F : Hp) (ds : List PyData) (o : HO) : Prop := ∃ xs, o = .lst xs ∧ DbA K F xs ds
theorem acL_ex (D : Addr) (F F' : Hp) (ds : List PyData) (o : HO) (e : Evl.Ex F F') (h : AcL K D F ds o) : AcL K D F' ds o := by
  obtain ⟨xs, h1, h2⟩ := h
  exact ⟨xs, h1, dba_ex e _ _ h2⟩
def addL (x : List PyData) (y : PyData) : Tr (List PyData) := if x.length < 100000 then .done (x ++ [y]) else .fail
@[simp, reducible] def eL (me : Ex_) (e : Env) (x : List PyData) : Tr (List PyData) := (me e).bind (addL x)
theorem mem_list {te : TE} {m : Ex_} (he : EM K te m) : MEm K (AcL K) (emList te) (eL m) := fun a H0 F H e σ n N D x o r fD ex aD hD hx q => by
  obtain ⟨xs, rfl, hxs⟩ := hx
  refine he a H0 F H e σ n _ (r.step (hide_show ex) (gen_show r.ga)) (Tr.all_mono (fun y k hy v F1 H1 x1 g1 hv => ?_) (Tr.all_bind.mp q))
  obtain ⟨f1, hD1⟩ := step_D x1 fD hD aD
  unfold addL at hy
  split at hy
  · rename_i hl
    have hxs1 := dba_ex x1.ff _ _ hxs
    refine ⟨xs, hD1, sz_lt (by rw [dba_len hxs1]; exact hl), hy F1 _ (.lst (xs ++ [v])) ?_ ?_ f1 ?_ upd_same ⟨_, rfl, dba_app hxs1 (.cons hv .nil)⟩⟩
    · rw [unP_upd]; exact step_hide x1 f1
    · rw [unP_upd]; exact gen_hide g1 aD
    · exact fun c u z => by
        rw [upd_ne (fun w => by rw [w, f1] at z; cases z)]; exact x1.fh c u z
  · exact hy.elim
/-- a key of a set -/
def keyD : PyData → Option Key
  | .int i => some (.inl i)
  | .str x => some (.inr x)
  | _ => none
theorem keyD_db {F : Hp} {v : V} {d : PyData} {k : Key} (h : Db K F v d) (e : keyD d = some k) : v = kV k ∧ d = kD k := by
  cases h <;> cases e <;> exact ⟨rfl, rfl⟩
def addS (ks : List Key) (d : PyData) : Tr (List Key) := match keyD d with
  | some k => if ks.length < 4000 then .done (addK ks k) else .fail
  | none => .fail
def AcS (w : World) (D : Addr) (_ : Hp) (ks : List Key) (o : HO) : Prop := o = SetXO w D ks
@[simp, reducible] def eS (me : Ex_) (e : Env) (x : List Key) : Tr (List Key) := (me e).bind (addS x)
theorem mem_set {w : World} {te : TE} {m : Ex_} (he : EM K te m) : MEm K (AcS w) (emSet w te) (eS m) := fun a H0 F H e σ n N D x o r fD ex aD hD hx q => by
  have hx : o = SetXO w D x := hx
  subst hx
  refine he a H0 F H e σ n _ (r.step (hide_show ex) (gen_show r.ga)) (Tr.all_mono (fun y k hy v F1 H1 x1 g1 hv => ?_) (Tr.all_bind.mp q))
  obtain ⟨f1, hD1⟩ := step_D x1 fD hD aD
  unfold addS at hy
  split at hy
  · rename_i kk hk
    obtain ⟨hv1, hv2⟩ := keyD_db hv hk
    split at hy
    · rename_i hl
      refine ⟨kk, x, hv1, hD1, by show x.length + 1 < 4096; omega, hy F1 _ (SetXO w D (addK x kk)) ?_ ?_ f1 ?_ upd_same rfl⟩
      · rw [unP_upd]; exact step_hide x1 f1
      · rw [unP_upd]; exact gen_hide g1 aD
      · exact fun c u z => by
          rw [upd_ne (fun w => by rw [w, f1] at z; cases z)]; exact x1.fh c u z
    · exact hy.elim
  · exact hy.elim
/-- the mirror's words: an inner clause, the first clause -/
@[simp, reducible] def cI (mi : Is_) (mg : Gs_) (mt : Ts_) (me : Env → α → Tr α) (vs : List Nat) (e : Env) (x : α) : Tr α := (mi e).bind fun ds => goA mg mt me vs e ds x
@[simp, reducible] def xCo (mi : Is_) (mg : Gs_) (mt : Ts_) (me : Env → α → Tr α) (vs : List Nat) (x0 : α) (e : Env) : Tr α := (mi e).bind fun ds => goA mg mt me vs e ds x0
theorem el_co {cs : List Cl} {te : TE} {me : Env → List PyData → Tr (List PyData)} (hi : IM K wi mi) (hg : GMh K is g mg) (hc : Calm mg) (hs : ∀ i ∈ is, i ∈ vs) (ht : TM K tt mt) (hm : MEm K (AcL K) (fun D => tIn cs (emList te D)) me) :
    EL K (tCo (fun _ => .lst []) ⟨wi, g, tt, vs⟩ cs (emList te)) (xCo mi mg mt me vs []) := fun a H0 F H e σ n Q r q => by
  refine co_top acL_ex (x0 := []) (fun D F => ⟨[], rfl, .nil⟩) hi hg hc hs ht hm r (Tr.all_mono (fun ds k hd D o F' H' s g hH aD f ex hD ac => ?_) q)
  obtain ⟨xs, rfl, hxs⟩ := ac
  exact hd D xs F' H' (s.trans (hide_show ex)) (gen_show g) hH f hD hxs
def sortX (ks : List Key) : Tr (List PyData) := if okSort (ks.map kD) = true then .done (sortD (ks.map kD)) else .fail
@[simp, reducible] def xSortX (m : Env → Tr (List Key)) (e : Env) : Tr (List PyData) := (m e).bind sortX
theorem el_sortX {w : World} {cs : List Cl} {te : TE} {me : Env → List Key → Tr (List Key)} (hi : IM K wi mi) (hg : GMh K is g mg) (hc : Calm mg) (hs : ∀ i ∈ is, i ∈ vs) (ht : TM K tt mt) (hm : MEm K (AcS w) (fun D => tIn cs (emSet w te D)) me) :
    EL K (tCB (rSortX K w) (tCons (tCo (fun D => SetXO w D []) ⟨wi, g, tt, vs⟩ cs (emSet w te)) tNil)) (xSortX (xCo mi mg mt me vs [])) := fun a H0 F H e σ n Q r q => by
  show tCo (fun D => SetXO w D []) ⟨wi, g, tt, vs⟩ cs (emSet w te) σ H (fun x H1 => rSortX K w [x] H1 Q)
  refine co_top (Ac := AcS w) (fun _ _ _ _ _ _ h => h) (x0 := []) (fun D F => rfl) hi hg hc hs ht hm r (Tr.all_mono (fun ks k hd D o F' H' s g hH aD f ex hD ac => ?_) (Tr.all_bind.mp q))
  have ac : o = SetXO w D ks := ac
  subst ac
  unfold sortX at hd
  split at hd
  · rename_i hok
    refine ⟨D, ks, rfl, hD, hok, fun ys ms p hp he hn => ?_⟩
    have st := s.trans (hide_show ex)
    rw [sortD_keys hp (okSort_al hok)] at he
    refine hd p ys F' (upd H' p (.lst ys)) (st.trans (Step.own ex hn)) ((gen_show g).own hn) ?_ (fresh_back ex hn) upd_same (each_dba (he.mono fun v d z => ?_))
    · cases w : H p with
      | none => rfl
      | some u => exact absurd hn (st.th p (by rw [w]; exact nofun))
    · obtain ⟨k, rfl, rfl⟩ := z
      exact kD_db k
  · exact hd.elim
end
end Hr
namespace Hr
open PySem PySem.Spec PyProof.Rows L2 Evl
/-! ### repr of data with dicts in it -/
mutual
/-- as Reads, no dict of it the table of modules -/
inductive RO (h : Heap) : Value → PyData → Prop
  | none : RO h .none .none
  | bool (b : Bool) : RO h (.bool b) (.bool b)
  | int (i : Int) (t : Tok) : RO h (.int i t) (.int i)
  | str (x : Str) (t : Tok) : RO h (.str x t) (.str x)
  | list {a : Addr} {o : Obj} {vs : Array Value} {n : Nat} {xs : List PyData} : h.get? a = some o → o.cls = .type "list" → o.data = .seq vs n → ROs h vs.toList xs → RO h (.ref a) (.list xs)
  | tuple {a : Addr} {o : Obj} {vs : Array Value} {n : Nat} {xs : List PyData} : h.get? a = some o → o.cls = .type "tuple" → o.data = .seq vs n → ROs h vs.toList xs → RO h (.ref a) (.tuple xs)
  | dict {a : Addr} {o : Obj} {es : Array DictEntry} {n : Nat} {kvs : List (PyData × PyData)} : (a == sysModules) = false → h.get? a = some o → o.cls = .type "dict" → o.data = .dict es n →
      ROs h (es.toList.map (·.key)) (kvs.map (·.1)) → ROs h (es.toList.map (·.val)) (kvs.map (·.2)) → RO h (.ref a) (.dict kvs)
inductive ROs (h : Heap) : List Value → List PyData → Prop
  | nil : ROs h [] []
  | cons {v : Value} {vs : List Value} {d : PyData} {ds : List PyData} : RO h v d → ROs h vs ds → ROs h (v :: vs) (d :: ds)
end
mutual
theorem RO.reads {h : Heap} : ∀ {v : Value} {d : PyData}, RO h v d → ∃ as, Reads h v d as
  | _, _, .none => ⟨_, .none⟩
  | _, _, .bool b => ⟨_, .bool b⟩
  | _, _, .int i t => ⟨_, .int i t⟩
  | _, _, .str x t => ⟨_, .str x t⟩
  | _, _, .list a b c r => let ⟨_, q⟩ := r.reads; ⟨_, .list a b c q⟩
  | _, _, .tuple a b c r => let ⟨_, q⟩ := r.reads; ⟨_, .tuple a b c q⟩
  | _, _, .dict _ a b c r r' => let ⟨_, q⟩ := r.reads; let ⟨_, q'⟩ := r'.reads; ⟨_, .dict a b c q q'⟩
theorem ROs.reads {h : Heap} : ∀ {v : List Value} {d : List PyData}, ROs h v d → ∃ as, ReadsAll h v d as
  | _, _, .nil => ⟨_, .nil⟩
  | _, _, .cons r t => let ⟨_, q⟩ := r.reads; let ⟨_, q'⟩ := t.reads; ⟨_, .cons q q'⟩
end
section
variable {prog : Program} {w : World} {h0 : Heap}
/-- what is known of a text -/
def Shw (prog : Program) (w : World) (h0 : Heap) (d : PyData) (v : Value) : Prop := ∃ bs, ReadAtMost h0 d.depth bs ∧ ReprK prog w bs h0 d.depth v d.shown
def Shws (prog : Program) (w : World) (h0 : Heap) (ds : List PyData) (vs : List Value) : Prop := ∃ bs, ReadAtMost h0 (PyData.depthAll ds) bs ∧ ReprAllK prog w bs h0 (PyData.depthAll ds) vs (PyData.shownAll ds)
theorem dict_parts {a : Addr} {o : Obj} {es : Array DictEntry} {n : Nat} {kvs : List (PyData × PyData)} {as bs : List Addr} (ha : h0.get? a = some o) (hc : o.cls = .type "dict") (hd : o.data = .dict es n)
    (r1 : ReadsAll h0 (es.toList.map (·.key)) (kvs.map (·.1)) as) (r2 : ReadsAll h0 (es.toList.map (·.val)) (kvs.map (·.2)) bs) (k1 : Shws prog w h0 (kvs.map (·.1)) (es.toList.map (·.key))) (k2 : Shws prog w h0 (kvs.map (·.2)) (es.toList.map (·.val))) :
    ∃ cs, a ∉ cs ∧ ReadAtMost h0 (PyData.depthKv kvs) cs ∧ ReprEntriesK prog w cs h0 (PyData.depthKv kvs) es.toList (PyData.shownKv kvs) := by
  obtain ⟨b1, hb1, k1⟩ := k1
  obtain ⟨b2, hb2, k2⟩ := k2
  have hb : ReadAtMost h0 (PyData.depthKv kvs) (b1 ++ b2) := (hb1.mono (PyData.depthAll_keys_le kvs)).append (hb2.mono (PyData.depthAll_vals_le kvs))
  refine ⟨b1 ++ b2, not_mem_of_deeper (.dict ha hc hd r1 r2) (by simp only [PyData.depth]; omega) hb, hb, ?_⟩
  rw [PyData.shownKv_eq]
  exact ReprEntriesK.of_two es.toList _ _ (k1.more_le (as' := b1 ++ b2) (fun b hb => List.mem_append_left _ hb) (PyData.depthAll_keys_le kvs)) (k2.more_le (as' := b1 ++ b2) (fun b hb => List.mem_append_right _ hb) (PyData.depthAll_vals_le kvs))
theorem kv_short {kvs : List (PyData × PyData)} (hz : (PyData.dict kvs).shown.length ≤ sizeLine) : (∀ t ∈ PyData.shownAll (kvs.map (·.1)), t.length ≤ sizeLine) ∧ ∀ t ∈ PyData.shownAll (kvs.map (·.2)), t.length ≤ sizeLine := by
  have hz' : (dictText (PyData.shownKv kvs)).length ≤ sizeLine := by simpa only [PyData.shown] using hz
  exact ⟨fun t ht => let ⟨p, hp, l⟩ := PyData.shownKv_key_le kvs t ht; Nat.le_trans l (Nat.le_trans (dictText_mem_le hp) hz'), fun t ht => let ⟨p, hp, l⟩ := PyData.shownKv_val_le kvs t ht; Nat.le_trans l (Nat.le_trans (dictText_mem_le hp) hz')⟩
theorem lst_short {xs : List PyData} (hz : (PyData.list xs).shown.length ≤ sizeLine) : ∀ t ∈ PyData.shownAll xs, t.length ≤ sizeLine := fun t ht => Nat.le_trans (listText_mem_le ht) (by simpa only [PyData.shown] using hz)
theorem tup_short {xs : List PyData} (hz : (PyData.tuple xs).shown.length ≤ sizeLine) : ∀ t ∈ PyData.shownAll xs, t.length ≤ sizeLine := fun t ht => Nat.le_trans (tupleText_mem_le ht) (by simpa only [PyData.shown] using hz)
mutual
theorem RO.shw : ∀ {v : Value} {d : PyData}, RO h0 v d → d.showable = true → d.shown.length ≤ sizeLine → Shw prog w h0 d v
  | _, _, .none, hs, hz => ReprK.of_reads .none hs nofun hz
  | _, _, .bool b, hs, hz => ReprK.of_reads (.bool b) hs nofun hz
  | _, _, .int i t, hs, hz => ReprK.of_reads (.int i t) hs nofun hz
  | _, _, .str x t, hs, hz => ReprK.of_reads (.str x t) hs nofun hz
  | _, _, .list (a := a) (vs := vs) (xs := xs) h1 h2 h3 h4, hs, hz => by
    obtain ⟨bs, hb, hk⟩ := h4.shw (by simpa [PyData.showable] using hs) (lst_short hz)
    obtain ⟨as, r4⟩ := h4.reads
    have r : Reads h0 (.ref a) (.list xs) _ := .list h1 h2 h3 r4
    refine ⟨a :: bs, ReadAtMost.cons r (by simp only [PyData.depth]; omega) hb, ?_⟩
    have hna : a ∉ bs := not_mem_of_deeper r (by simp only [PyData.depth]; omega) hb
    simp only [PyData.depth, PyData.shown]
    obtain ⟨l⟩ := vs
    cases l with
    | nil =>
      cases (show ROs h0 [] xs from h4)
      simp only [PyData.shownAll, listText_nil]
      exact ReprK.listEmpty h1 h2 h3
    | cons x l => exact ReprK.list h1 h2 h3 hna (by simpa using hk.length_eq) (fun i y e => hk.item i y (by simpa using e))
  | _, _, .tuple (a := a) (xs := xs) h1 h2 h3 h4, hs, hz => by
    obtain ⟨bs, hb, hk⟩ := h4.shw (by simpa [PyData.showable] using hs) (tup_short hz)
    obtain ⟨as, r4⟩ := h4.reads
    have r : Reads h0 (.ref a) (.tuple xs) _ := .tuple h1 h2 h3 r4
    refine ⟨a :: bs, ReadAtMost.cons r (by simp only [PyData.depth]; omega) hb, ?_⟩
    simp only [PyData.depth, PyData.shown]
    exact ReprK.tuple h1 h2 h3 (not_mem_of_deeper r (by simp only [PyData.depth]; omega) hb) hk
  | _, _, .dict (a := a) (kvs := kvs) hy h1 h2 h3 h4 h5, hs, hz => by
    obtain ⟨s1, s2⟩ := PyData.showableKv_split kvs (by simpa [PyData.showable] using hs)
    obtain ⟨as, r4⟩ := h4.reads
    obtain ⟨bs, r5⟩ := h5.reads
    obtain ⟨cs, hn, hb, he⟩ := dict_parts h1 h2 h3 r4 r5 (h4.shw s1 (kv_short hz).1) (h5.shw s2 (kv_short hz).2)
    refine ⟨a :: cs, ReadAtMost.cons (.dict h1 h2 h3 r4 r5) (by simp only [PyData.depth]; omega) hb, ?_⟩
    simp only [PyData.depth, PyData.shown]
    exact ReprK.dict h1 h2 h3 hy hn he
theorem ROs.shw : ∀ {vs : List Value} {ds : List PyData}, ROs h0 vs ds → PyData.showableAll ds = true → (∀ t ∈ PyData.shownAll ds, t.length ≤ sizeLine) → Shws prog w h0 ds vs
  | _, _, .nil, _, _ => ⟨[], (fun _ h => nomatch h), by simp only [PyData.shownAll]; exact .nil⟩
  | _, _, .cons (d := d) (ds := ds) r rs, hs, hz => by
    have hs' : d.showable = true ∧ PyData.showableAll ds = true := by simpa [PyData.showableAll] using hs
    obtain ⟨b1, q1, k1⟩ := r.shw hs'.1 (hz _ (by simp only [PyData.shownAll]; exact List.mem_cons_self ..))
    obtain ⟨b2, q2, k2⟩ := rs.shw hs'.2 (fun t ht => hz t (by simp only [PyData.shownAll]; exact List.mem_cons_of_mem _ ht))
    refine ⟨b1 ++ b2, fun b hm => ?_, ?_⟩
    · simp only [PyData.depthAll]
      rcases List.mem_append.mp hm with hm | hm
      · obtain ⟨d', as', r', hd'⟩ := q1 b hm
        exact ⟨d', as', r', by omega⟩
      · obtain ⟨d', as', r', hd'⟩ := q2 b hm
        exact ⟨d', as', r', by omega⟩
    · simp only [PyData.depthAll, PyData.shownAll]
      exact .cons ((k1.more fun b hb => List.mem_append_left _ hb).level_le (Nat.le_max_left _ _)) (k2.more_le (fun b hb => List.mem_append_right _ hb) (Nat.le_max_right _ _))
end
theorem RO.by_ {a : Addr} {d : PyData} (r : RO h0 (.ref a) d) (hs : d.showable = true) (hz : d.shown.length ≤ sizeLine) : ∃ T idr, ShowsBy prog w h0 a d T idr := by
  cases r with
  | list h1 h2 h3 h4 =>
    rename_i o vs n xs
    obtain ⟨bs, hb, hk⟩ := h4.shw (prog := prog) (w := w) (by simpa [PyData.showable] using hs) (lst_short hz)
    obtain ⟨as, r4⟩ := h4.reads
    have hna : a ∉ bs := not_mem_of_deeper (.list h1 h2 h3 r4) (by simp only [PyData.depth]; omega) hb
    refine ⟨"list", "list.__repr__", F.slot_list_repr.toG, F.slot_list_str, F.slot_list_format, fun s k0 => ⟨o, k0 _ _ h1, h2⟩, fun A E s Q hg hu k0 hQ => ?_⟩
    simp only [PyData.depth] at hu
    simp only [PyData.shown] at hQ
    obtain ⟨l⟩ := vs
    cases l with
    | nil =>
      cases (show ROs h0 [] xs from h4)
      simp only [PyData.shownAll, listText_nil] at hQ
      exact call_list_repr_empty ⟨o, k0 _ _ h1, h2⟩ (k0 _ _ h1) h3 (hQ s.heap _ _ fun _ _ e => e)
    | cons x l => exact call_list_reprK h1 h2 h3 hna (by simpa using hk.length_eq) (fun i y e => hk.item i y (by simpa using e)) hg (fun b _ => Clear.nil b) hu k0 hQ (by simpa only [PyData.shown] using hz)
  | tuple h1 h2 h3 h4 =>
    rename_i o vs n xs
    obtain ⟨bs, hb, hk⟩ := h4.shw (prog := prog) (w := w) (by simpa [PyData.showable] using hs) (tup_short hz)
    obtain ⟨as, r4⟩ := h4.reads
    refine ⟨"tuple", "tuple.__repr__", F.slot_tuple_repr, F.slot_tuple_str, F.slot_tuple_format, fun s k0 => ⟨o, k0 _ _ h1, h2⟩, fun A E s Q hg hu k0 hQ => ?_⟩
    simp only [PyData.depth] at hu
    simp only [PyData.shown] at hQ
    exact call_tuple_reprK h1 h2 h3 (not_mem_of_deeper (.tuple h1 h2 h3 r4) (by simp only [PyData.depth]; omega) hb) hk hg (fun b _ => Clear.nil b) hu k0 hQ (by simpa only [PyData.shown] using hz)
  | dict hy h1 h2 h3 h4 h5 =>
    rename_i o es n kvs
    obtain ⟨s1, s2⟩ := PyData.showableKv_split kvs (by simpa [PyData.showable] using hs)
    obtain ⟨as, r4⟩ := h4.reads
    obtain ⟨bs, r5⟩ := h5.reads
    obtain ⟨cs, hn, hb, he⟩ := dict_parts h1 h2 h3 r4 r5 (h4.shw (prog := prog) (w := w) s1 (kv_short hz).1) (h5.shw s2 (kv_short hz).2)
    refine ⟨"dict", "dict.__repr__", F.slot_dict_repr, F.slot_dict_str, F.slot_dict_format, fun s k0 => ⟨o, k0 _ _ h1, h2⟩, fun A E s Q hg hu k0 hQ => ?_⟩
    simp only [PyData.depth] at hu
    simp only [PyData.shown] at hQ
    exact call_dict_reprK h1 h2 h3 hy hn he hg (fun b _ => Clear.nil b) hu k0 hQ (by simpa only [PyData.shown] using hz)
end
/-- keys are ints and texts -/
def flatK : PyData → Bool
  | .int _ => true
  | .str _ => true
  | _ => false
mutual
def okK : PyData → Bool
  | .list xs => okKs xs
  | .tuple xs => okKs xs
  | .dict kvs => okKv kvs
  | _ => true
def okKs : List PyData → Bool
  | [] => true
  | x :: xs => okK x && okKs xs
def okKv : List (PyData × PyData) → Bool
  | [] => true
  | (k, v) :: xs => flatK k && okK v && okKv xs
end
section
variable {X : Cx} {pins : List (Addr × Obj)} {σ : L2.St} {F H : Hp} {s : Shared}
theorem key_ro {h : Heap} {k : Key} {v : Value} (r : (mixKind X.prog X.w).is k v = true) : RO h v (kD k) := by
  rcases keyIs_shape r with ⟨i, t, rfl, rfl⟩ | ⟨x, t, rfl, rfl⟩
  · exact .int _ _
  · exact .str _ _
mutual
theorem db_ro (I : Inv X pins σ H s) (ex : Evl.Ex F H) : ∀ (d : PyData) (v : V) (u : Value), Db X.K F v d → RelV v u → okK d = true → RO s.heap u d
  | .none, _, _, h, r, _ => by cases h; cases r; exact .none
  | .bool _, _, _, h, r, _ => by cases h; cases r; exact .bool _
  | .int _, _, _, h, r, _ => by cases h; obtain ⟨t, rfl⟩ := r; exact .int _ _
  | .str _, _, _, h, r, _ => by cases h; obtain ⟨t, rfl⟩ := r; exact .str _ _
  | .list ds, _, _, h, r, c => by
    cases h with
    | lst a b =>
      cases r
      obtain ⟨its, rv, hl, _⟩ := I.list (sq_of (ex _ _ a))
      obtain ⟨o, h1, h2, n, h3⟩ := hl.isList
      exact .list h1 h2 h3 (by simpa using dba_ro I ex ds _ its b rv c)
  | .tuple ds, _, _, h, r, c => by
    cases h with
    | tup a b =>
      cases r
      obtain ⟨its, rv, hl, _⟩ := I.tuple (ex_t ex a)
      obtain ⟨o, h1, h2, n, h3⟩ := hl
      exact .tuple h1 h2 h3 (by simpa using dba_ro I ex ds _ its b rv c)
  | .dict ds, _, _, h, r, c => by
    cases h with
    | dic a b =>
      cases r
      obtain ⟨_, hS, vs, kv, o, es, ep, h1, h2, h3, _, h5, _⟩ := dk_of I.hok (ex _ _ a)
      obtain ⟨k1, k2⟩ := dbd_ro I ex ds _ vs es.toList b kv h5 c
      exact .dict hS h1 h2.1 h3 k1 k2
    | dit a b =>
      cases r
      cases b with
      | nil =>
        obtain ⟨_, hS, xs, kt, o, es, ep, h1, h2, h3, h4, _⟩ := dt_of I.hok (ex _ _ a)
        cases kt
        have h4 : es.toList = [] := h4
        exact .dict hS h1 h2.1 h3 (by rw [h4]; exact .nil) (by rw [h4]; exact .nil)
      | cons _ _ => cases c
theorem dba_ro (I : Inv X pins σ H s) (ex : Evl.Ex F H) : ∀ (ds : List PyData) (vs : List V) (us : List Value), DbA X.K F vs ds → Vals vs us → okKs ds = true → ROs s.heap us ds
  | [], _, _, h, r, _ => by cases h; cases r; exact .nil
  | d :: ds, _, _, h, r, c => by
    cases h with
    | cons a b =>
      cases r with
      | cons r t =>
        have c' : (okK d && okKs ds) = true := c
        rw [Bool.and_eq_true] at c'
        exact .cons (db_ro I ex d _ _ a r c'.1) (dba_ro I ex ds _ _ b t c'.2)
theorem dbd_ro (I : Inv X pins σ H s) (ex : Evl.Ex F H) : ∀ (ds : List (PyData × PyData)) (kvs : List (Key × V)) (vs : List (Key × Value)) (es : List DictEntry), DbD X.K F kvs ds → KV kvs vs → Pairs (mixKind X.prog X.w) es vs → okKv ds = true →
    ROs s.heap (es.map (·.key)) (ds.map (·.1)) ∧ ROs s.heap (es.map (·.val)) (ds.map (·.2))
  | [], _, _, _, h, r, p, _ => by cases h; cases r; cases p; exact ⟨.nil, .nil⟩
  | (k, d) :: ds, _, _, _, h, r, p, c => by
    cases h with
    | cons a b =>
      cases r with
      | cons r t =>
        obtain ⟨r1, r2⟩ := r
        cases p with
        | cons p1 p2 q =>
          have c' : (flatK _ && okK d && okKv ds) = true := c
          rw [Bool.and_eq_true, Bool.and_eq_true] at c'
          obtain ⟨k1, k2⟩ := dbd_ro I ex ds _ _ _ b t q c'.2
          refine ⟨.cons ?_ k1, .cons ?_ k2⟩
          · have r1' := r1
            simp only at r1'
            rw [r1']
            exact key_ro p1
          · have r3 : RelV _ _ := r2
            rw [← p2] at r3
            exact db_ro I ex d _ _ a r3 c'.1.2
end
end
section
variable {X : Cx}
def okR (d : PyData) : Bool := okK d && d.showable && decide (d.shown.length ≤ 10000000) && decide (d.depth ≤ 50)
def rReprD (K : PySem.W.Frag) : List V → Hp → VK → Prop := fun xs H Q => ∃ (x : V) (d : PyData) (F : Hp), xs = [x] ∧ Evl.Ex F H ∧ Db K F x d ∧ okR d = true ∧ Q (.str d.shown) H
theorem cr_reprD {k : Nat} (hr : Rm k X.A) : CallR X (.builtin "repr") (rReprD X.K) := by
  intro pins s σ H xs us Q I r h
  obtain ⟨x, d, F, rfl, ex, hd, hok, q⟩ := h
  obtain ⟨u, rfl, rv⟩ := vals1 r
  unfold okR at hok
  simp only [Bool.and_eq_true, decide_eq_true_eq] at hok
  obtain ⟨⟨⟨c1, c2⟩, c3⟩, c4⟩ := hok
  have ro := db_ro I ex d x u hd rv c1
  have hz : d.shown.length ≤ sizeLine := by rw [sizeLine_eq]; omega
  have hu := hr.room.units
  cases ro with
  | none => exact PySem.P.repr_of_none ⟨.str _, H, I.kept (t' := _) (fun _ _ e => e), ⟨_, rfl⟩, q⟩
  | bool b => exact PySem.P.repr_of_bool ⟨.str _, H, I.kept (t' := _) (fun _ _ e => e), ⟨_, rfl⟩, q⟩
  | int i t => exact PySem.P.repr_of_int (of_decide_eq_true c2) ⟨.str _, H, I.kept (t' := _) (fun _ _ e => e), ⟨_, rfl⟩, q⟩
  | str z t => exact PySem.P.repr_of_str ⟨.str _, H, I.kept (t' := _) (fun _ _ e => e), ⟨_, rfl⟩, q⟩ hz
  | list a b c e =>
    obtain ⟨T, idr, S⟩ := RO.by_ (prog := X.prog) (w := X.w) (.list a b c e) c2 hz
    exact call_repr_slot (by omega) (S.typeIs s fun _ _ e => e) S.slotRepr (S.call X.A.in1 _ s _ hr.quiet (by show X.A.units + 1 + _ < cLine; omega) (fun _ _ e => e) fun h' u tk hk => ⟨_, _, rfl, .str _, H, I.kept (t' := tk) hk, ⟨u, rfl⟩, q⟩)
  | tuple a b c e =>
    obtain ⟨T, idr, S⟩ := RO.by_ (prog := X.prog) (w := X.w) (.tuple a b c e) c2 hz
    exact call_repr_slot (by omega) (S.typeIs s fun _ _ e => e) S.slotRepr (S.call X.A.in1 _ s _ hr.quiet (by show X.A.units + 1 + _ < cLine; omega) (fun _ _ e => e) fun h' u tk hk => ⟨_, _, rfl, .str _, H, I.kept (t' := tk) hk, ⟨u, rfl⟩, q⟩)
  | dict y a b c e f =>
    obtain ⟨T, idr, S⟩ := RO.by_ (prog := X.prog) (w := X.w) (.dict y a b c e f) c2 hz
    exact call_repr_slot (by omega) (S.typeIs s fun _ _ e => e) S.slotRepr (S.call X.A.in1 _ s _ hr.quiet (by show X.A.units + 1 + _ < cLine; omega) (fun _ _ e => e) fun h' u tk hk => ⟨_, _, rfl, .str _, H, I.kept (t' := tk) hk, ⟨u, rfl⟩, q⟩)
end
section
variable {K : PySem.W.Frag}
def o_reprD : List Sl → Tr PyData
  | [.dat d] => if okR d = true then .done (.str d.shown) else .fail
  | _ => .fail
theorem pc_reprD : PC K (rReprD K) o_reprD := fun a F H n es vs Q ex g0 hv q => by
  unfold o_reprD at q
  split at q
  · split at q
    · rename_i h
      cases hv with
      | dat hd t => cases t; exact ⟨_, _, F, rfl, ex, hd, h, q _ F H (Step.refl ex) g0 (.str _)⟩
    · exact q.elim
  · exact q.elim
/-! ### methods of texts -/
def rM1 (r : V → List V → Hp → VK → Prop) : R2 := fun x y H Q => r x [y] H Q
def isStr1 : PyData → Tr Str
  | .str x => .done x
  | _ => .fail
@[simp] theorem isStr1_s (x : Str) : isStr1 (.str x) = .done x := rfl
@[simp, reducible] def m1K (g : Str → PyData → Tr PyData) (me : Ex_) (e : Env) (x : Str) : Tr PyData := (me e).bind (g x)
@[simp, reducible] def m1J (g : Str → PyData → Tr PyData) (me : Ex_) (e : Env) (d : PyData) : Tr PyData := (isStr1 d).bind (m1K g me e)
@[simp, reducible] def xM1 (g : Str → PyData → Tr PyData) (mo me : Ex_) (e : Env) : Tr PyData := (mo e).bind (m1J g me e)
theorem em_m1 {r : V → List V → Hp → VK → Prop} {g : Str → PyData → Tr PyData} {to te : TE} {mo me : Ex_} (hr : ∀ (F H : Hp) (x : Str) (v : V) (d : PyData), Evl.Ex F H → Db K F v d → (g x d = .fail ∨ ∃ z u, g x d = .done z ∧ Db K F u z ∧ ∀ Q : VK, Q u H → r (.str x) [v] H Q))
    (ho : EM K to mo) (he : EM K te me) : EM K (tM1 r to te) (xM1 g mo me) := fun a H0 F H e σ n Q r0 h => ho a H0 F H e σ n _ r0 (Tr.all_mono (fun d k hd v F1 H1 x1 g1 hv => by
    cases hv with
    | str z =>
      have hd : ((me e).bind (g z)).all _ k := hd
      refine ⟨⟨z, rfl⟩, he a H0 F1 H1 e σ k _ (r0.step x1 g1) (Tr.all_mono (fun y k2 hy u F2 H2 x2 g2 hu => ?_) (Tr.all_bind.mp hd))⟩
      rcases hr F2 H2 z u y x2.fh hu with w | ⟨q1, q2, w, hq, hw⟩
      · rw [w] at hy; exact hy.elim
      · rw [w] at hy; exact hw _ (hy q2 F2 H2 (x1.trans x2) g2 hq)
    | _ => exact hd.elim) (Tr.all_bind.mp h))
def o_rstrip (x : Str) : PyData → Tr PyData
  | .str y => if x.length ≤ 100000 then .done (.str (Txt.rstripChars x y)) else .fail
  | _ => .fail
abbrev rRstrip : V → List V → Hp → VK → Prop := fun x xs H Q => ∃ a b, x = .str a ∧ xs = [.str b] ∧ a.length ≤ sizeLine ∧ Q (.str (Txt.rstripChars a b)) H
theorem m1_rstrip (F H : Hp) (x : Str) (v : V) (d : PyData) (ex : Evl.Ex F H) (h : Db K F v d) : o_rstrip x d = .fail ∨ ∃ z u, o_rstrip x d = .done z ∧ Db K F u z ∧ ∀ Q : VK, Q u H → rRstrip (.str x) [v] H Q := by
  cases h <;> first | exact .inl rfl | skip
  rename_i y
  by_cases hl : x.length ≤ 100000
  · exact .inr ⟨_, .str _, if_pos hl, .str _, fun Q q => ⟨x, y, rfl, rfl, sz_of hl, q⟩⟩
  · exact .inl (if_neg hl)
def o_starts (x : Str) : PyData → Tr PyData
  | .str y => .done (.bool (Txt.startswith x y))
  | _ => .fail
abbrev rStarts : V → List V → Hp → VK → Prop := fun x xs H Q => ∃ a b, x = .str a ∧ xs = [.str b] ∧ Q (.bl (Txt.startswith a b)) H
theorem m1_starts (F H : Hp) (x : Str) (v : V) (d : PyData) (ex : Evl.Ex F H) (h : Db K F v d) : o_starts x d = .fail ∨ ∃ z u, o_starts x d = .done z ∧ Db K F u z ∧ ∀ Q : VK, Q u H → rStarts (.str x) [v] H Q := by
  cases h <;> first | exact .inl rfl | skip
  rename_i y
  exact .inr ⟨_, .bl _, rfl, .bl _, fun Q q => ⟨x, y, rfl, rfl, q⟩⟩
/-! ### str(int); a list turned round -/
def o_strI : List Sl → Tr PyData
  | [.dat (.int i)] => if i.natAbs.log2 < 1920 then .done (.str (toString i)) else .fail
  | _ => .fail
abbrev rStrI : List V → Hp → VK → Prop := fun xs H Q => ∃ i, xs = [.int i] ∧ i.natAbs.log2 < 1920 ∧ Q (.str (toString i)) H
theorem pc_strI : PC K rStrI o_strI := fun a F H n es vs Q ex g0 hv q => by
  unfold o_strI at q
  split at q
  · split at q
    · rename_i h
      cases hv with
      | dat hd t => cases t; cases hd; exact ⟨_, rfl, h, q _ F H (Step.refl ex) g0 (.str _)⟩
    · exact q.elim
  · exact q.elim
theorem cA_strI {X : Cx} : CallR X (.type "str") rStrI := call_str_int
def o_revL : PyData → Tr (List PyData)
  | .list xs => .done xs.reverse
  | _ => .fail
@[simp] theorem revL_l (xs : List PyData) : o_revL (.list xs) = .done xs.reverse := rfl
@[simp, reducible] def xRev (me : Ex_) (e : Env) : Tr (List PyData) := (me e).bind o_revL
theorem dba_rev {F : Hp} : ∀ {vs : List V} {ds : List PyData}, DbA K F vs ds → DbA K F vs.reverse ds.reverse
  | _, _, .nil => .nil
  | _, _, .cons a b => by rw [List.reverse_cons, List.reverse_cons]; exact dba_app (dba_rev b) (.cons a .nil)
theorem el_rev {te : TE} {me : Ex_} (h : EM K te me) : EL K (tRevL K te) (xRev me) := fun a H0 F H e σ n Q r q =>
  h a H0 F H e σ n _ r (Tr.all_mono (fun d k hd v F1 H1 x g hv => by
    cases hv with
    | lst hp hx =>
      refine ⟨_, _, rfl, sq_of (x.fh _ _ hp), fun p hn => ?_⟩
      refine hd p _ F1 (upd H1 p _) (x.trans (Step.own x.fh hn)) (g.own hn) ?_ (fresh_back x.fh hn) upd_same (dba_rev hx)
      cases w : H p with
      | none => rfl
      | some u => exact absurd hn (x.th p (by rw [w]; exact nofun))
    | _ => exact hd.elim) (Tr.all_bind.mp q))
/-! ### sorted, min, max -/
mutual
theorem al_dp {F H : Hp} (ex : Evl.Ex F H) : ∀ (d : PyData) (v : V), Db K F v d → PySem.W.alike d d = true → Dp K H v d
  | .none, _, h, _ => by cases h; exact .non
  | .bool _, _, h, _ => by cases h; exact .bl _
  | .int _, _, h, _ => by cases h; exact .int _
  | .str _, _, h, _ => by cases h; exact .str _
  | .list ds, _, h, c => by
    cases h with
    | lst a b => exact .lst (sq_of (ex _ _ a)) (als_dp ex ds _ b (by simpa [PySem.W.alike] using c))
  | .tuple ds, _, h, c => by
    cases h with
    | tup a b => exact .tup (ex_t ex a) (als_dp ex ds _ b (by simpa [PySem.W.alike] using c))
  | .dict _, _, _, c => by simp [PySem.W.alike] at c
theorem als_dp {F H : Hp} (ex : Evl.Ex F H) : ∀ (ds : List PyData) (vs : List V), DbA K F vs ds → PySem.W.alikeAll ds ds = true → DpAll K H vs ds
  | [], _, h, _ => by cases h; exact .nil
  | d :: ds, _, h, c => by
    cases h with
    | cons a b =>
      have c' : PySem.W.alike d d = true ∧ PySem.W.alikeAll ds ds = true := by simpa [PySem.W.alikeAll] using c
      exact .cons (al_dp ex d _ a c'.1) (als_dp ex ds _ b c'.2)
end
theorem ok_dp {F H : Hp} (ex : Evl.Ex F H) : ∀ {ds : List PyData} {vs : List V}, DbA K F vs ds → (∀ d ∈ ds, PySem.W.alike d d = true) → DpAll K H vs ds
  | _, _, .nil, _ => .nil
  | _, _, .cons a b, h => .cons (al_dp ex _ _ a (h _ List.mem_cons_self)) (ok_dp ex b fun d hd => h d (List.mem_cons_of_mem _ hd))
def o_sortL : List Sl → Tr (List PyData)
  | [.dat (.list xs)] => if okSort xs = true then .done (sortD xs) else .fail
  | _ => .fail
@[simp, reducible] def xSort (mr : As_) (e : Env) : Tr (List PyData) := (mr e).bind o_sortL
theorem el_sort {tr : TA} {mr : As_} (ha : AM K tr mr) : EL K (tCB (rSortD K) tr) (xSort mr) :=
  fun a H0 F H e σ n Q r0 q => ha a H0 F H e σ n _ r0 (Tr.all_mono (fun es k hes vs F1 H1 x1 g1 hv => by
    unfold o_sortL at hes
    split at hes
    · split at hes
      · rename_i hok
        cases hv with
        | dat h t =>
          cases t
          cases h with
          | lst h1 h2 =>
            refine ⟨_, _, _, Db K F1, rfl, sq_of (x1.fh _ _ h1), ok_dp x1.fh h2 (fun d hd => okSort_al hok d hd d hd), dba_each h2, hok, fun ys p he hp => ?_⟩
            refine hes p ys F1 (upd H1 p _) (x1.trans (Step.own x1.fh hp)) (g1.own hp) ?_ (fresh_back x1.fh hp) upd_same (each_dba he)
            cases w : H p with
            | none => rfl
            | some o => exact absurd hp (x1.th p (by rw [w]; exact nofun))
      · exact hes.elim
    · exact hes.elim) (Tr.all_bind.mp q))
/-! ### dicts -/
def rIxDic : R2 := fun x y H Q => ∃ a v, x = .ref a ∧ DGet H a y (some v) ∧ Q v H
theorem ix_dic {X : Cx} (hu : X.A.units + 1 < cLine) : IxR X rIxDic := by
  intro value slice pins s σ H x y v u Q I rx ry h hs
  obtain ⟨a, z, rfl, g, q⟩ := h
  obtain rfl : v = Value.ref a := rx
  exact tail_any (dict_typeIs I g) PySem.F.slot_dict_getitem.lookup (d_getItem hu I g ry fun w' s3 I3 rw' => ⟨z, H, I3, rw', q⟩) hs
def rInDic (neg : Bool) : R2 := fun x y H Q => ∃ a o, y = .ref a ∧ DGet H a x o ∧ Q (.bl (if neg then !o.isSome else o.isSome)) H
theorem op_inDic {X : Cx} (hu : X.A.units + 1 < cLine) : OpR X (compareOp .In) (rInDic false) := by
  intro pins s σ H x y v u Q I rx ry h
  obtain ⟨a, o, rfl, g, q⟩ := h
  obtain rfl : u = Value.ref a := ry
  exact d_in hu I g rx fun s3 I3 => ⟨.bl o.isSome, H, I3, rfl, q⟩
theorem op_ninDic {X : Cx} (hu : X.A.units + 1 < cLine) : OpR X (compareOp .NotIn) (rInDic true) := by
  intro pins s σ H x y v u Q I rx ry h
  obtain ⟨a, o, rfl, g, q⟩ := h
  obtain rfl : u = Value.ref a := ry
  exact d_notIn hu I g rx fun s3 I3 => ⟨.bl (!o.isSome), H, I3, rfl, q⟩
end
end Hr
namespace Hr
open PySem PySem.Spec PyProof.Rows L2 Evl
/-! ### dicts as data -/
section
variable {κ : Type} [DecidableEq κ]
def findK (l : List (κ × PyData)) (k : κ) : Option PyData := (l.find? fun kv => decide (kv.1 = k)).map (·.2)
def putP (l : List (κ × PyData)) (k : κ) (d : PyData) : List (κ × PyData) := if (l.any fun kv => decide (kv.1 = k)) = true then l.map (fun kv => if kv.1 = k then (kv.1, d) else kv) else l ++ [(k, d)]
end
def mergeP (l more : List (Key × PyData)) : List (Key × PyData) := more.foldl (fun acc kv => putP acc kv.1 kv.2) l
/-- a dict by its keys -/
abbrev dicD (l : List (Key × PyData)) : PyData := .dict (l.map fun kv => (kD kv.1, kv.2))
abbrev ditD (l : List (List Key × PyData)) : PyData := .dict (l.map fun kv => (.tuple (kv.1.map kD), kv.2))
def unDic : List (PyData × PyData) → Option (List (Key × PyData))
  | [] => some []
  | (k, d) :: r => match keyD k, unDic r with
    | some k, some l => some ((k, d) :: l)
    | _, _ => none
@[simp] theorem keyD_kD (k : Key) : keyD (kD k) = some k := by cases k <;> rfl
theorem keyD_eq {d : PyData} {k : Key} (h : keyD d = some k) : d = kD k := by cases d <;> cases h <;> rfl
@[simp] theorem unDic_map (l : List (Key × PyData)) : unDic (l.map fun kv => (kD kv.1, kv.2)) = some l := by
  induction l with
  | nil => rfl
  | cons x l ih =>
    rw [List.map_cons]
    unfold unDic
    rw [ih, keyD_kD]
theorem unDic_eq : ∀ {ds : List (PyData × PyData)} {l : List (Key × PyData)}, unDic ds = some l → ds = l.map fun kv => (kD kv.1, kv.2)
  | [], _, h => by cases h; rfl
  | (k, d) :: r, l, h => by
    unfold unDic at h
    split at h
    · rename_i k' l' h1 h2
      cases h
      rw [List.map_cons, ← unDic_eq h2, ← keyD_eq h1]
    · cases h
section
variable {K : PySem.W.Frag} {F H : Hp}
/-- keys and values, pair by pair -/
def DbL (K : PySem.W.Frag) (F : Hp) {κ : Type} (kvs : List (κ × V)) (l : List (κ × PyData)) : Prop := PySem.W.EachIs (fun p q => p.1 = q.1 ∧ Db K F p.2 q.2) kvs l
theorem kD_inj {j k : Key} (h : kD j = kD k) : j = k := by
  have := congrArg keyD h
  rw [keyD_kD, keyD_kD] at this
  exact Option.some.inj this
theorem dbd_l : ∀ {kvs : List (Key × V)} {l : List (Key × PyData)}, DbD K F kvs (l.map fun kv => (kD kv.1, kv.2)) → DbL K F kvs l
  | [], [], _ => .nil
  | [], _ :: _, h => by rw [List.map_cons] at h; cases h
  | _ :: _, [], h => by rw [List.map_nil] at h; cases h
  | (k, v) :: kvs, (k', d) :: l, h => by
    rw [List.map_cons] at h
    generalize hx : (kD (k', d).1, (k', d).2) = x at h
    cases h with
    | cons a b =>
      obtain ⟨h1, h2⟩ := Prod.mk.inj hx
      have h1 : kD k' = kD k := h1
      have h2 : d = _ := h2
      subst h2
      exact .cons ⟨(kD_inj h1).symm, a⟩ (dbd_l b)
theorem l_dbd : ∀ {kvs : List (Key × V)} {l : List (Key × PyData)}, DbL K F kvs l → DbD K F kvs (l.map fun kv => (kD kv.1, kv.2))
  | _, _, .nil => .nil
  | _, _, .cons (a := (k, v)) (b := (k', d)) ⟨h1, h2⟩ t => by
    have h1 : k = k' := h1
    subst h1
    exact .cons h2 (l_dbd t)
theorem find_db {κ : Type} [DecidableEq κ] {kvs : List (κ × V)} {l : List (κ × PyData)} (h : DbL K F kvs l) (k : κ) : (findK l k = none ∧ valV kvs k = none) ∨ ∃ d v, findK l k = some d ∧ valV kvs k = some v ∧ Db K F v d := by
  induction h with
  | nil => exact .inl ⟨rfl, rfl⟩
  | @cons p q ps qs h t ih =>
    obtain ⟨h1, h2⟩ := h
    by_cases e : q.1 = k
    · refine .inr ⟨q.2, p.2, ?_, valV_pos (h1.trans e), h2⟩
      simp [findK, List.find?_cons, e]
    · have e2 : ¬ p.1 = k := fun z => e (h1.symm.trans z)
      rw [valV_neg e2]
      have : findK (q :: qs) k = findK qs k := by simp [findK, List.find?_cons, e]
      rw [this]
      exact ih
theorem put_db {kvs : List (Key × V)} {l : List (Key × PyData)} {k : Key} {v : V} {d : PyData} (h : DbL K F kvs l) (hv : Db K F v d) : DbL K F (putK kvs k v) (putP l k d) := by
  have ha : (kvs.any fun kv => decide (kv.1 = k)) = (l.any fun kv => decide (kv.1 = k)) := by
    induction h with
    | nil => rfl
    | @cons p q ps qs h t ih => rw [List.any_cons, List.any_cons, ih, h.1]
  unfold putK putP
  rw [ha]
  split
  · rename_i hh
    clear ha hh
    induction h with
    | nil => exact .nil
    | @cons p q ps qs h t ih =>
      rw [List.map_cons, List.map_cons]
      refine .cons ?_ ih
      by_cases e : q.1 = k
      · rw [if_pos e, if_pos (h.1.trans e)]; exact ⟨h.1, hv⟩
      · rw [if_neg e, if_neg (fun z => e (h.1.symm.trans z))]; exact h
  · rename_i hh
    clear ha hh
    induction h with
    | nil => exact .cons ⟨rfl, hv⟩ .nil
    | @cons p q ps qs h t ih => exact .cons h ih
theorem merge_db : ∀ {more : List (Key × V)} {m : List (Key × PyData)} {kvs : List (Key × V)} {l : List (Key × PyData)}, DbL K F more m → DbL K F kvs l → DbL K F (mergeK kvs more) (mergeP l m)
  | _, _, _, _, .nil, h => h
  | _, _, kvs, l, .cons (a := (k, v)) (b := (k', d)) (as := more) (bs := m) ⟨h1, h2⟩ t, h => by
    have h1 : k = k' := h1
    subst h1
    show DbL K F (mergeK (putK kvs k v) more) (mergeP (putP l k d) m)
    exact merge_db t (put_db h h2)
/-! d[k], k in d -/
def o_dget : PyData → PyData → Tr PyData
  | .dict ds, y => match keyD y, unDic ds with
    | some k, some l => (match findK l k with | some d => .done d | none => .fail)
    | _, _ => .fail
  | _, _ => .fail
@[simp] theorem dget_l (l : List (Key × PyData)) (k : Key) : o_dget (dicD l) (kD k) = match findK l k with | some d => .done d | none => .fail := by
  show (match keyD (kD k), unDic _ with | some k, some l => _ | _, _ => _) = _
  rw [keyD_kD, unDic_map]
theorem p2_dget : P2 K rIxDic o_dget := fun a F H n x y dx dy Q ex g0 hx hy q => by
  unfold o_dget at q
  split at q
  · split at q
    · rename_i k l h1 h2
      have hy' := (keyD_db hy h1).1
      subst hy'
      have h3 := unDic_eq h2
      cases hx with
      | dic ha hb =>
        rw [h3] at hb
        rcases find_db (dbd_l hb) k with ⟨z, _⟩ | ⟨d, v, z1, z2, z3⟩
        · rw [z] at q; exact q.elim
        · rw [z1] at q
          exact ⟨_, v, rfl, .inl ⟨_, k, .inl (ex _ _ ha), rfl, z2.symm⟩, q v F H (Step.refl ex) g0 z3⟩
      | dit ha hb =>
        subst h3
        cases l with
        | nil => exact q.elim
        | cons z l =>
          rw [List.map_cons] at hb
          generalize hz : (kD z.1, z.2) = u at hb
          cases hb with
          | cons _ _ =>
            have := (Prod.mk.inj hz).1
            obtain ⟨zk, zd⟩ := z
            cases zk <;> cases this
    · exact q.elim
  · exact q.elim
def o_din (f : Bool → Bool) : PyData → PyData → Tr PyData
  | y, .dict ds => match keyD y, unDic ds with
    | some k, some l => .done (.bool (f (findK l k).isSome))
    | _, _ => .fail
  | _, _ => .fail
@[simp] theorem din_l (f : Bool → Bool) (l : List (Key × PyData)) (k : Key) : o_din f (kD k) (dicD l) = .done (.bool (f (findK l k).isSome)) := by
  show (match keyD (kD k), unDic _ with | some k, some l => _ | _, _ => _) = _
  rw [keyD_kD, unDic_map]
theorem dz_of {P : Program} {w : World} {h : Heap} {a : Addr} (ok : HOk P w H h) (e : H a = some (.dK []) ∨ H a = some (.dT [])) : (a == sysModules) = false ∧ h.DictOf (mixKind P w) a [] := by
  rcases e with e | e
  · obtain ⟨_, h1, vs, r, h2⟩ := dk_of ok e
    cases r
    exact ⟨h1, h2⟩
  · obtain ⟨_, h1, xs, r, o, es, ep, k1, k2, k3, k4, _⟩ := dt_of ok e
    cases r
    have k4 : es.toList = [] := k4
    refine ⟨h1, o, es, ep, k1, k2, k3, fun x hx => ?_, by rw [k4]; exact .nil, by simp⟩
    have : x ∈ es.toList := by simpa using hx
    rw [k4] at this; cases this
def rInDic2 (neg : Bool) : R2 := fun x y H Q => (rInDic neg x y H Q) ∨ ∃ a k, y = .ref a ∧ (H a = some (.dK []) ∨ H a = some (.dT [])) ∧ x = kV k ∧ Q (.bl neg) H
theorem op_inDic2 {X : Cx} (hu : X.A.units + 1 < cLine) : OpR X (compareOp .In) (rInDic2 false) := by
  intro pins s σ H x y v u Q I rx ry h
  rcases h with h | ⟨a, k, rfl, e, rfl, q⟩
  · exact op_inDic hu pins s σ H x y v u Q I rx ry h
  · obtain rfl : u = Value.ref a := ry
    obtain ⟨hd, dd⟩ := dz_of I.hok e
    exact wpAny_in_of (kV_is rx) hd dd.mapOf ⟨.bl false, H, I.tok _, rfl, q⟩
theorem op_ninDic2 {X : Cx} (hu : X.A.units + 1 < cLine) : OpR X (compareOp .NotIn) (rInDic2 true) := by
  intro pins s σ H x y v u Q I rx ry h
  rcases h with h | ⟨a, k, rfl, e, rfl, q⟩
  · exact op_ninDic hu pins s σ H x y v u Q I rx ry h
  · obtain rfl : u = Value.ref a := ry
    obtain ⟨hd, dd⟩ := dz_of I.hok e
    exact wpAny_notIn_of (kV_is rx) hd dd.mapOf ⟨.bl true, H, I.tok _, rfl, q⟩
theorem p2_dinB (neg : Bool) : P2 K (rInDic2 neg) (o_din fun b => if neg then !b else b) := fun a F H n x y dx dy Q ex g0 hx hy q => by
  unfold o_din at q
  split at q
  · split at q
    · rename_i k l h1 h2
      have hx' := (keyD_db hx h1).1
      subst hx'
      have h3 := unDic_eq h2
      cases hy with
      | dic ha hb =>
        rw [h3] at hb
        rcases find_db (dbd_l hb) k with ⟨z, z2⟩ | ⟨d, v, z1, z2, z3⟩
        · rw [z] at q
          exact .inl ⟨_, none, rfl, .inl ⟨_, k, .inl (ex _ _ ha), rfl, z2.symm⟩, by cases neg <;> exact q _ F H (Step.refl ex) g0 (.bl _)⟩
        · rw [z1] at q
          exact .inl ⟨_, some v, rfl, .inl ⟨_, k, .inl (ex _ _ ha), rfl, z2.symm⟩, by cases neg <;> exact q _ F H (Step.refl ex) g0 (.bl _)⟩
      | dit ha hb =>
        subst h3
        cases l with
        | nil =>
          cases hb
          exact .inr ⟨_, k, rfl, .inr (ex _ _ ha), rfl, by cases neg <;> exact q _ F H (Step.refl ex) g0 (.bl _)⟩
        | cons z l =>
          rw [List.map_cons] at hb
          generalize hz : (kD z.1, z.2) = u at hb
          cases hb with
          | cons _ _ =>
            have := (Prod.mk.inj hz).1
            obtain ⟨zk, zd⟩ := z
            cases zk <;> cases this
    · exact q.elim
  · exact q.elim
theorem p2_din : P2 K (rInDic2 false) (o_din id) := p2_dinB false
theorem p2_ndin : P2 K (rInDic2 true) (o_din not) := p2_dinB true
/-! dict(list of pairs) -/
def unPairs : List PyData → Option (List (Key × PyData))
  | [] => some []
  | .tuple [k, d] :: r => match keyD k, unPairs r with
    | some k, some l => some ((k, d) :: l)
    | _, _ => none
  | _ :: _ => none
@[simp] theorem unPairs_map (l : List (Key × PyData)) : unPairs (l.map fun kv => .tuple [kD kv.1, kv.2]) = some l := by
  induction l with
  | nil => rfl
  | cons x l ih =>
    rw [List.map_cons]
    unfold unPairs
    rw [ih, keyD_kD]
theorem unPairs_db {l : List (Key × PyData)} : ∀ {ds : List PyData} {vs : List V}, unPairs ds = some l → Evl.Ex F H → DbA K F vs ds → ∃ ps kvs, vs = ps.map V.ref ∧ Paired (fun p (kv : Key × V) => SqT K H p [kV kv.1, kv.2]) ps kvs ∧ DbL K F kvs l := by
  induction l with
  | nil =>
    intro ds vs h ex hd
    match ds, h with
    | [], _ => cases hd; exact ⟨[], [], rfl, .nil, .nil⟩
    | .tuple [k, d] :: r, h =>
      unfold unPairs at h
      split at h <;> cases h
  | cons x l ih =>
    intro ds vs h ex hd
    match ds, h with
    | .tuple [k, d] :: r, h =>
      unfold unPairs at h
      split at h
      · rename_i k' l' h1 h2
        cases h
        cases hd with
        | cons a b =>
          obtain ⟨ps, kvs, e1, e2, e3⟩ := ih h2 ex b
          cases a with
          | @tup p _ _ a1 a2 =>
            cases a2 with
            | cons b1 b2 =>
              cases b2 with
              | @cons v _ _ _ c1 c2 =>
                cases c2
                obtain ⟨rfl, _⟩ := keyD_db b1 h1
                exact ⟨p :: ps, (k', v) :: kvs, by rw [e1]; rfl, .cons (ex_t ex a1) e2, .cons ⟨rfl, c1⟩ e3⟩
      · cases h
abbrev rDictP (K : PySem.W.Frag) : List V → Hp → VK → Prop := fun xs H Q => ∃ (a : Addr) (ps : List Addr) (kvs : List (Key × V)), xs = [.ref a] ∧ SqL K H a (ps.map V.ref) ∧ Paired (fun p kv => SqT K H p [kV kv.1, kv.2]) ps kvs ∧ ∀ p, H p = none → Q (.ref p) (upd H p (.dK (mergeK [] kvs)))
def o_dict : List Sl → Tr PyData
  | [.dat (.list ds)] => match unPairs ds with
    | some l => .done (dicD (mergeP [] l))
    | none => .fail
  | _ => .fail
@[simp] theorem dict_l (l : List (Key × PyData)) : o_dict [.dat (.list (l.map fun kv => .tuple [kD kv.1, kv.2]))] = .done (dicD (mergeP [] l)) := by
  show (match unPairs _ with | some l => _ | none => _) = _
  rw [unPairs_map]
theorem pc_dict : PC K (rDictP K) o_dict := fun a F H n es vs Q ex g0 hv q => by
  unfold o_dict at q
  split at q
  · split at q
    · rename_i l hl
      cases hv with
      | dat hd t =>
        cases t
        cases hd with
        | lst h1 h2 =>
          obtain ⟨ps, kvs, e1, e2, e3⟩ := unPairs_db hl ex h2
          subst e1
          refine ⟨_, ps, kvs, rfl, sq_of (ex _ _ h1), e2, fun p hp => ?_⟩
          refine q _ _ _ (Step.new ex hp) (g0.new hp) (.dic upd_same (l_dbd (merge_db (?_ : DbL K _ kvs l) .nil)))
          exact e3.mono fun p q z => ⟨z.1, db_ex (Ex.new (fresh_back ex hp)) _ _ z.2⟩
    · exact q.elim
  · exact q.elim
/-! {k: v, ..} -/
def pairsM : List (Ex_ × Ex_) → Env → Tr (List (PyData × PyData))
  | [], _ => .done []
  | (mk, mv) :: r, e => (mk e).bind fun k => (mv e).bind fun v => (pairsM r e).bind fun l => .done ((k, v) :: l)
def mkDic (l : List (PyData × PyData)) : Tr PyData := match unDic l with
  | some l => if l.length ≤ 15 then .done (dicD (mergeP [] l)) else .fail
  | none => .fail
@[simp, reducible] def xDisp (ps : List (Ex_ × Ex_)) (e : Env) : Tr PyData := (pairsM ps e).bind mkDic
inductive PMs (K : PySem.W.Frag) : List (TE × TE) → List (Ex_ × Ex_) → Prop
  | nil : PMs K [] []
  | cons {tk tv : TE} {mk mv : Ex_} {ts : List (TE × TE)} {ms : List (Ex_ × Ex_)} : EM K tk mk → EM K tv mv → PMs K ts ms → PMs K ((tk, tv) :: ts) ((mk, mv) :: ms)
inductive DbV (K : PySem.W.Frag) (F : Hp) : List (V × V) → List (PyData × PyData) → Prop
  | nil : DbV K F [] []
  | cons {k v : V} {a b : PyData} {ps : List (V × V)} {ds : List (PyData × PyData)} : Db K F k a → Db K F v b → DbV K F ps ds → DbV K F ((k, v) :: ps) ((a, b) :: ds)
theorem pairs_run : ∀ {ts : List (TE × TE)} {ms : List (Ex_ × Ex_)}, PMs K ts ms → ∀ a H0 F H e σ n (Q : List (V × V) → Hp → Prop), R K a H0 F H e σ n →
    (pairsM ms e).all (fun ds k => ∀ ps F' H', Step a F H F' H' → GenO a F' H' k → DbV K F' ps ds → Q ps H') n → tPairs ts σ H Q
  | _, _, .nil, a, H0, F, H, e, σ, n, Q, r, q => q [] F H (Step.refl r.fh) r.ga .nil
  | _, _, .cons (ms := ms) hk hv hr, a, H0, F, H, e, σ, n, Q, r, q => by
    refine hk a H0 F H e σ n _ r (Tr.all_mono (fun x k1 hx => ?_) (Tr.all_bind.mp q))
    intro v F1 H1 x1 g1 d1
    refine hv a H0 F1 H1 e σ k1 _ (r.step x1 g1) (Tr.all_mono (fun y k2 hy => ?_) (Tr.all_bind.mp hx))
    intro u F2 H2 x2 g2 d2
    refine pairs_run hr a H0 F2 H2 e σ k2 _ (r.step (x1.trans x2) g2) (Tr.all_mono (fun l k3 hl => ?_) (Tr.all_bind.mp hy))
    intro ps F3 H3 x3 g3 d3
    have hl : ∀ ps F' H', Step a F H F' H' → GenO a F' H' k3 → DbV K F' ps ((x, y) :: l) → Q ps H' := hl
    exact hl ((v, u) :: ps) F3 H3 ((x1.trans x2).trans x3) g3 (.cons (db_ex (x2.trans x3).ff _ _ d1) (db_ex x3.ff _ _ d2) d3)
theorem dbv_un : ∀ {ps : List (V × V)} {ds : List (PyData × PyData)} {l : List (Key × PyData)}, DbV K F ps ds → unDic ds = some l → ∃ kvs : List (Key × V), ps = kvs.map (fun kv => (kV kv.1, kv.2)) ∧ DbL K F kvs l
  | _, _, _, .nil, h => by cases h; exact ⟨[], rfl, .nil⟩
  | _, _, _, .cons (v := v) hk hv t, h => by
    unfold unDic at h
    split at h
    · rename_i k l h1 h2
      cases h
      obtain ⟨kvs, e1, e2⟩ := dbv_un t h2
      obtain ⟨rfl, _⟩ := keyD_db hk h1
      exact ⟨(k, v) :: kvs, by rw [e1]; rfl, .cons ⟨rfl, hv⟩ e2⟩
    · cases h
theorem em_disp {ts : List (TE × TE)} {ms : List (Ex_ × Ex_)} (hm : PMs K ts ms) : EM K (tDisp ts) (xDisp ms) := fun a H0 F H e σ n Q r q p hp => by
  have fp : F p = none := fresh_back r.fh hp
  have ap : a ≠ some p := fun z => (r.ga p z).there hp
  have s0 : Step a F H F (upd H p (.dK [])) := Step.own r.fh hp
  refine pairs_run hm a H0 F _ e σ n _ (r.step s0 (r.ga.own hp)) (Tr.all_mono (fun ds k hd ps F1 H1 x1 g1 dv => ?_) (Tr.all_bind.mp q))
  unfold mkDic at hd
  split at hd
  · rename_i l hl
    split at hd
    · rename_i h15
      obtain ⟨kvs, e1, e2⟩ := dbv_un dv hl
      have hp1 : H1 p = some (.dK []) := x1.kp p _ upd_same ap
      have f1 : F1 p = none := by
        cases w : F1 p with
        | none => rfl
        | some o =>
          have z := x1.nw p fp (by rw [w]; exact nofun)
          rw [upd_same] at z; cases z
      refine ⟨hp1, kvs, e1, by rw [show kvs.length = l.length from e2.length]; exact h15, ?_⟩
      have st := s0.trans x1
      refine hd _ (upd F1 p (.dK (mergeK [] kvs))) (upd H1 p (.dK (mergeK [] kvs))) ⟨fun c u z n => ?_, fun c z => ?_, fun c u z => ?_, fun c u z => ?_, fun c z1 z2 => ?_⟩ ⟨g1.nb, fun q' hq => ?_⟩ (.dic upd_same (l_dbd (merge_db (?_ : DbL K _ kvs l) .nil)))
      · rw [upd_ne (fun w => by rw [w, hp] at z; cases z)]; exact st.kp c u z n
      · by_cases w : c = p
        · rw [w, upd_same]; exact nofun
        · rw [upd_ne w]; exact st.th c z
      · rw [upd_ne (fun w => by rw [w, fp] at z; cases z)]; exact st.ff c u z
      · by_cases w : c = p
        · rw [w, upd_same] at z; rw [w, upd_same]; exact z
        · rw [upd_ne w] at z ⊢; exact st.fh c u z
      · by_cases w : c = p
        · rw [w]; exact hp
        · rw [upd_ne w] at z2; exact st.nw c z1 z2
      · obtain ⟨k1, m, k2, k3⟩ := g1 q' hq
        have ne : q' ≠ p := fun w => ap (by rw [hq, w])
        refine ⟨by rw [upd_ne ne]; exact k1, m, ?_, k3⟩
        obtain ⟨s0', s1', s2', h0', r'⟩ := k2.ex
        exact ⟨s0', s1', s2', by rw [upd_ne ne]; exact h0', r'⟩
      · exact e2.mono fun p q z => ⟨z.1, db_ex (Ex.new f1) _ _ z.2⟩
    · exact hd.elim
  · exact hd.elim
/-! a star within a tuple or list -/
def starD : PyData → Tr (List PyData)
  | .list ds => .done ds
  | .tuple ds => .done ds
  | _ => .fail
@[simp] theorem starD_l (ds : List PyData) : starD (.list ds) = .done ds := rfl
@[simp] theorem starD_t (ds : List PyData) : starD (.tuple ds) = .done ds := rfl
@[simp, reducible] def starK (mr : As_) (e : Env) (ds : List PyData) : Tr (List Sl) := (mr e).bind fun es => .done (ds.map .dat ++ es)
@[simp, reducible] def starJ (mr : As_) (e : Env) (d : PyData) : Tr (List Sl) := (starD d).bind (starK mr e)
@[simp, reducible] def aStar (me : Ex_) (mr : As_) (e : Env) : Tr (List Sl) := (me e).bind (starJ mr e)
theorem ra_app {a : Option Addr} : ∀ {es fs : List Sl} {vs us : List V}, RA K a F es vs → RA K a F fs us → RA K a F (es ++ fs) (vs ++ us)
  | _, _, _, _, .nil, h => h
  | _, _, _, _, .dat h t, q => .dat h (ra_app t q)
  | _, _, _, _, .gen h t, q => .gen h (ra_app t q)
theorem am_star {te : TE} {tr : TA} {me : Ex_} {mr : As_} (h : EM K te me) (hr : AM K tr mr) : AM K (StX.tStar K te tr) (aStar me mr) :=
  fun a H0 F H e σ n Q r q => h a H0 F H e σ n _ r (Tr.all_mono (fun d k hd v F1 H1 x g hv => by
    have go : ∀ (p : Addr) (xs : List V) (ds : List PyData), v = .ref p → (SqT K H1 p xs ∨ SqL K H1 p xs) → DbA K F1 xs ds → (starK mr e ds).all (fun ds k => ∀ vs F' H', Step a F H F' H' → GenO a F' H' k → RA K a F' ds vs → Q vs H') k →
        ∃ p xs, v = V.ref p ∧ (SqT K H1 p xs ∨ SqL K H1 p xs) ∧ tr σ H1 fun ys H2 => Q (xs ++ ys) H2 := fun p xs ds hv0 hs hx hq =>
      ⟨p, xs, hv0, hs, hr a H0 F1 H1 e σ k _ (r.step x g) (Tr.all_mono (fun es k2 hes vs F2 H2 y g2 hvs => hes (xs ++ vs) F2 H2 (x.trans y) g2 (ra_app (ra_dat (dba_ex y.ff _ _ hx)) hvs)) (Tr.all_bind.mp hq))⟩
    cases hv with
    | lst h1 h2 => exact go _ _ _ rfl (.inr (sq_of (x.fh _ _ h1))) h2 hd
    | tup h1 h2 => exact go _ _ _ rfl (.inl (ex_t x.fh h1)) h2 hd
    | _ => exact hd.elim) (Tr.all_bind.mp q))
/-! calls by keywords -/
def kwIx (nu nk : Nat) (ix : List Nat) (es fs : List Sl) : Tr (List Sl) := if es.length = nu ∧ fs.length = nk ∧ (ix.all fun i => decide (i < nu + nk)) = true then .done (ix.map fun i => (es ++ fs).getD i .no) else .fail
@[simp, reducible] def fkJ (mk : As_) (nu nk : Nat) (ix : List Nat) (e : Env) (es : List Sl) : Tr (List Sl) := (mk e).bind (kwIx nu nk ix es)
@[simp, reducible] def aKw (ma mk : As_) (nu nk : Nat) (ix : List Nat) (e : Env) : Tr (List Sl) := (ma e).bind (fkJ mk nu nk ix e)
theorem ra_getD {a : Option Addr} : ∀ {es : List Sl} {vs : List V}, RA K a F es vs → ∀ {i : Nat}, i < es.length → RA K a F [es.getD i .no] [vs.getD i .non]
  | _, _, .nil, _, h => absurd h (by simp)
  | _, _, .dat h t, 0, _ => .dat h .nil
  | _, _, .gen h t, 0, _ => .gen h .nil
  | _, _, .dat h t, i + 1, l => ra_getD t (by simpa using l)
  | _, _, .gen h t, i + 1, l => ra_getD t (by simpa using l)
theorem ra_ix {a : Option Addr} {es : List Sl} {vs : List V} (h : RA K a F es vs) : ∀ {ix : List Nat}, (∀ i ∈ ix, i < es.length) → RA K a F (ix.map fun i => es.getD i .no) (ix.map fun i => vs.getD i .non)
  | [], _ => .nil
  | i :: ix, l => ra_app (ra_getD h (l i List.mem_cons_self)) (ra_ix h fun j hj => l j (List.mem_cons_of_mem _ hj))
/-- what the call is asked, by the arguments in the parameters' order -/
theorem kw_am {ta tk : TA} {ma mk : As_} {nu nk : Nat} {ix : List Nat} (ha : AM K ta ma) (hk : AM K tk mk) : ∀ a H0 F H e σ n (Q : List V → Hp → Prop), R K a H0 F H e σ n →
    (aKw ma mk nu nk ix e).all (fun es k => ∀ vs F' H', Step a F H F' H' → GenO a F' H' k → RA K a F' es vs → Q vs H') n → ta σ H fun vs H1 => tk σ H1 fun zs H2 => vs.length = nu ∧ zs.length = nk ∧ Q (ix.map fun i => (vs ++ zs).getD i .non) H2 :=
  fun a H0 F H e σ n Q r q => ha a H0 F H e σ n _ r (Tr.all_mono (fun es k hes vs F1 H1 x1 g1 hv => hk a H0 F1 H1 e σ k _ (r.step x1 g1) (Tr.all_mono (fun fs k2 hfs zs F2 H2 x2 g2 hz => by
    unfold kwIx at hfs
    split at hfs
    · rename_i hl
      obtain ⟨l1, l2, l3⟩ := hl
      refine ⟨hv.len.symm.trans l1, hz.len.symm.trans l2, hfs _ F2 H2 (x1.trans x2) g2 (ra_ix (ra_app (hv.ex x2.ff) hz) fun i hi => ?_)⟩
      have := of_decide_eq_true (List.all_eq_true.mp l3 i hi)
      rw [List.length_append]; omega
    · exact hfs.elim) (Tr.all_bind.mp hes))) (Tr.all_bind.mp q))
theorem em_fnK {g : List Sl → Tr PyData} {j nu nk : Nat} {ix : List Nat} {E : XK} {ta tk : TA} {ma mk : As_} (ha : AM K ta ma) (hk : AM K tk mk) : EM K (tCallKw (spM K g j) nu nk ix E ta tk) (xFn g j (aKw ma mk nu nk ix)) :=
  fun a H0 F H e σ n Q r0 q => kw_am ha hk a H0 F H e σ n (fun vs H' => spM K g j vs H' Q E) r0 (Tr.all_mono (fun ds k hds vs F1 H1 x g1 hvs => by
    have hds : (lenIs j g ds).all _ k := hds
    unfold lenIs at hds
    split at hds
    · rename_i hl
      exact ⟨by rw [← hvs.len]; exact hl, a, F1, k, ds, x.fh, g1, hvs, Tr.all_mono (fun z k3 hz => Pst.go hz x) hds⟩
    · exact hds.elim) (Tr.all_bind.mp q))
theorem el_fnK {g : List Sl → Tr (List PyData)} {j nu nk : Nat} {ix : List Nat} {E : XK} {ta tk : TA} {ma mk : As_} (ha : AM K ta ma) (hk : AM K tk mk) : EL K (tCallKw (spMO K g j) nu nk ix E ta tk) (xFnO g j (aKw ma mk nu nk ix)) :=
  fun a H0 F H e σ n Q r0 q => kw_am ha hk a H0 F H e σ n (fun vs H' => spMO K g j vs H' Q E) r0 (Tr.all_mono (fun ds k hds vs F1 H1 x g1 hvs => by
    have hds : (lenIsO j g ds).all (fun ds k => ∀ p xs F' H', Step a F H F' H' → GenO a F' H' k → H p = none → F' p = none → H' p = some (.lst xs) → DbA K F' xs ds → Q (.ref p) H') k := hds
    unfold lenIsO at hds
    split at hds
    · rename_i hl
      refine ⟨by rw [← hvs.len]; exact hl, a, F1, k, ds, x.fh, g1, hvs, Tr.all_mono (fun z k3 hz p xs F' H' y gy hp fp hp' hd => ?_) hds⟩
      refine hz p xs F' H' (x.trans y) gy ?_ fp hp' hd
      cases w : H p with
      | none => rfl
      | some o => exact absurd hp (x.th p (by rw [w]; exact nofun))
    · exact hds.elim) (Tr.all_bind.mp q))
end
end Hr
namespace Hr
open PySem PySem.Spec PyProof.Rows L2 Evl
/-! ### lists of unlike lengths are told apart, whatever lies in them -/
def rEqE (K : PySem.W.Frag) (r : R2) (f : Bool → Bool) : R2 := fun x y H Q => r x y H Q ∨ (∃ p q xs ys, x = .ref p ∧ y = .ref q ∧ SqL K H p xs ∧ SqL K H q ys ∧ xs.length ≠ ys.length ∧ Q (.bl (f false)) H) ∨ ∃ i j, x = .str i ∧ y = .str j ∧ Q (.bl (f (i == j))) H
section
variable {X : Cx}
theorem op_eqE (hu : X.A.units + 64 < cLine) : OpR X (compareOp .Eq) (rEqE X.K (rEqD X.K) id) := by
  intro pins s σ H x y v u Q I rx ry h
  rcases h with h | ⟨p, q, xs, ys, rfl, rfl, h1, h2, hl, z⟩ | ⟨i, j, rfl, rfl, z⟩
  · exact op_eqD hu pins s σ H x y v u Q I rx ry h
  · obtain rfl : v = Value.ref p := rx
    obtain rfl : u = Value.ref q := ry
    obtain ⟨i1, r1, ⟨o1, n1, e1, c1, _, d1⟩, _⟩ := I.list h1
    obtain ⟨i2, r2, ⟨o2, n2, e2, c2, _, d2⟩, _⟩ := I.list h2
    refine SeqAt.RcAt.lists_lengths (items := i1.toArray) (items2 := i2.toArray) ⟨o1, e1, c1, n1, d1⟩ ⟨o2, e2, c2, n2, d2⟩ ?_ (by omega) _ _ _ _ ⟨.bl false, H, I, rfl, z⟩
    have := r1.length; have := r2.length
    simp; omega
  · exact op_eq pins s σ H _ _ v u Q I rx ry ⟨rfl, by rw [dec_str]; exact z⟩
theorem op_neE (hu : X.A.units + 64 < cLine) : OpR X (compareOp .NotEq) (rEqE X.K (rNeD X.K) not) := by
  intro pins s σ H x y v u Q I rx ry h
  rcases h with h | ⟨p, q, xs, ys, rfl, rfl, h1, h2, hl, z⟩ | ⟨i, j, rfl, rfl, z⟩
  · exact op_neD hu pins s σ H x y v u Q I rx ry h
  · obtain rfl : v = Value.ref p := rx
    obtain rfl : u = Value.ref q := ry
    obtain ⟨i1, r1, ⟨o1, n1, e1, c1, _, d1⟩, _⟩ := I.list h1
    obtain ⟨i2, r2, ⟨o2, n2, e2, c2, _, d2⟩, _⟩ := I.list h2
    refine SeqAt.RcNeAt.lists_lengths (items := i1.toArray) (items2 := i2.toArray) ⟨o1, e1, c1, n1, d1⟩ ⟨o2, e2, c2, n2, d2⟩ ?_ (by omega) _ _ _ _ ⟨.bl true, H, I, rfl, z⟩
    have := r1.length; have := r2.length
    simp; omega
  · exact op_ne pins s σ H _ _ v u Q I rx ry ⟨rfl, by rw [dec_str]; exact z⟩
end
def oEqE (f : Bool → Bool) (d e : PyData) : Tr PyData := if shp d = true ∧ shp e = true then .done (.bool (f (PyData.eqv d e))) else match d, e with
  | .list xs, .list ys => if xs.length ≠ ys.length then .done (.bool (f false)) else .fail
  | .str i, .str j => .done (.bool (f (i == j)))
  | _, _ => .fail
section
variable {K : PySem.W.Frag}
theorem p2_eqE : P2 K (rEqE K (rEqD K) id) (oEqE id) := fun a F H n x y dx dy Q ex g0 hx hy q => by
  unfold oEqE at q
  split at q
  · rename_i h
    exact .inl ⟨dx, dy, db_dp ex dx x hx (shp_can h.1), db_dp ex dy y hy (shp_can h.2), h.1, h.2, q _ F H (Step.refl ex) g0 (.bl _)⟩
  · split at q
    · split at q
      · rename_i hl
        cases hx with
        | lst a1 a2 =>
          cases hy with
          | lst b1 b2 => exact .inr (.inl ⟨_, _, _, _, rfl, rfl, sq_of (ex _ _ a1), sq_of (ex _ _ b1), by rw [dba_len a2, dba_len b2]; exact hl, q _ F H (Step.refl ex) g0 (.bl _)⟩)
      · exact q.elim
    · cases hx; cases hy
      exact .inr (.inr ⟨_, _, rfl, rfl, q _ F H (Step.refl ex) g0 (.bl _)⟩)
    · exact q.elim
theorem p2_neE : P2 K (rEqE K (rNeD K) not) (oEqE not) := fun a F H n x y dx dy Q ex g0 hx hy q => by
  unfold oEqE at q
  split at q
  · rename_i h
    exact .inl ⟨dx, dy, db_dp ex dx x hx (shp_can h.1), db_dp ex dy y hy (shp_can h.2), h.1, h.2, q _ F H (Step.refl ex) g0 (.bl _)⟩
  · split at q
    · split at q
      · rename_i hl
        cases hx with
        | lst a1 a2 =>
          cases hy with
          | lst b1 b2 => exact .inr (.inl ⟨_, _, _, _, rfl, rfl, sq_of (ex _ _ a1), sq_of (ex _ _ b1), by rw [dba_len a2, dba_len b2]; exact hl, q _ F H (Step.refl ex) g0 (.bl _)⟩)
      · exact q.elim
    · cases hx; cases hy
      exact .inr (.inr ⟨_, _, rfl, rfl, q _ F H (Step.refl ex) g0 (.bl _)⟩)
    · exact q.elim
end
@[simp] theorem eqE_str (f : Bool → Bool) (i j : Str) : oEqE f (.str i) (.str j) = .done (.bool (f (i == j))) := by
  unfold oEqE
  split <;> rfl
theorem shp_nil : shp (.list []) = true := by decide +kernel
/-- with no list: what is said of any list -/
@[simp] theorem eqE_nil (f : Bool → Bool) (xs : List PyData) : oEqE f (.list xs) (.list []) = .done (.bool (f xs.isEmpty)) := by
  cases xs with
  | nil => unfold oEqE; rw [if_pos ⟨shp_nil, shp_nil⟩]; rfl
  | cons x xs =>
    unfold oEqE
    by_cases h : shp (.list (x :: xs)) = true ∧ shp (.list []) = true
    · rw [if_pos h]; rfl
    · rw [if_neg h]; rfl
end Hr
namespace Hr
open PySem PySem.Spec PyProof.Rows L2 Evl
def topS (i : Nat) : Stmt := PySem.Challenge.pw_hourrings_k01_names_lines_and_books.main.body.getD i (.Pass ⟨0, 0, 0, 0⟩)
abbrev s_is_kind : Stmt := topS 7
abbrev N_is_kind : List Str := ["value"]
abbrev P_is_kind : List Str := ["value"]
theorem sc_is_kind : FnScope N_is_kind P_is_kind (defScope s_is_kind) := ⟨rfl, rfl, rfl, by decide +kernel, rfl, by decide +kernel, by decide +kernel⟩
abbrev s_is_whole : Stmt := topS 8
abbrev N_is_whole : List Str := ["value"]
abbrev P_is_whole : List Str := ["value"]
theorem sc_is_whole : FnScope N_is_whole P_is_whole (defScope s_is_whole) := ⟨rfl, rfl, rfl, by decide +kernel, rfl, by decide +kernel, by decide +kernel⟩
abbrev s_is_count : Stmt := topS 9
abbrev N_is_count : List Str := ["value"]
abbrev P_is_count : List Str := ["value"]
theorem sc_is_count : FnScope N_is_count P_is_count (defScope s_is_count) := ⟨rfl, rfl, rfl, by decide +kernel, rfl, by decide +kernel, by decide +kernel⟩
abbrev s_is_number : Stmt := topS 10
abbrev N_is_number : List Str := ["kind", "value"]
abbrev P_is_number : List Str := ["kind", "value"]
theorem sc_is_number : FnScope N_is_number P_is_number (defScope s_is_number) := ⟨rfl, rfl, rfl, by decide +kernel, rfl, by decide +kernel, by decide +kernel⟩
abbrev s_check_kind : Stmt := topS 11
abbrev N_check_kind : List Str := ["kind"]
abbrev P_check_kind : List Str := ["kind"]
theorem sc_check_kind : FnScope N_check_kind P_check_kind (defScope s_check_kind) := ⟨rfl, rfl, rfl, by decide +kernel, rfl, by decide +kernel, by decide +kernel⟩
abbrev s_is_ascending : Stmt := topS 12
abbrev N_is_ascending : List Str := ["values", "at"]
abbrev P_is_ascending : List Str := ["values"]
theorem sc_is_ascending : FnScope N_is_ascending P_is_ascending (defScope s_is_ascending) := ⟨rfl, rfl, rfl, by decide +kernel, rfl, by decide +kernel, by decide +kernel⟩
abbrev s_is_name : Stmt := topS 16
abbrev N_is_name : List Str := ["value", "word", "count", "letter"]
abbrev P_is_name : List Str := ["value"]
theorem sc_is_name : FnScope N_is_name P_is_name (defScope s_is_name) := ⟨rfl, rfl, rfl, by decide +kernel, rfl, by decide +kernel, by decide +kernel⟩
abbrev s_may_tell : Stmt := topS 17
abbrev N_may_tell : List Str := ["kind", "ahead", "by"]
abbrev P_may_tell : List Str := ["kind", "ahead", "by"]
theorem sc_may_tell : FnScope N_may_tell P_may_tell (defScope s_may_tell) := ⟨rfl, rfl, rfl, by decide +kernel, rfl, by decide +kernel, by decide +kernel⟩
abbrev s_line_fits : Stmt := topS 18
abbrev N_line_fits : List Str := ["kind", "value", "one", "other", "ahead", "by"]
abbrev P_line_fits : List Str := ["kind", "value"]
theorem sc_line_fits : FnScope N_line_fits P_line_fits (defScope s_line_fits) := ⟨rfl, rfl, rfl, by decide +kernel, rfl, by decide +kernel, by decide +kernel⟩
abbrev s_lines_fit : Stmt := topS 19
abbrev N_lines_fit : List Str := ["kind", "value", "line"]
abbrev P_lines_fit : List Str := ["kind", "value"]
theorem sc_lines_fit : FnScope N_lines_fit P_lines_fit (defScope s_lines_fit) := ⟨rfl, rfl, rfl, by decide +kernel, rfl, by decide +kernel, by decide +kernel⟩
abbrev s_names_fit : Stmt := topS 20
abbrev N_names_fit : List Str := ["value", "name"]
abbrev P_names_fit : List Str := ["value"]
theorem sc_names_fit : FnScope N_names_fit P_names_fit (defScope s_names_fit) := ⟨rfl, rfl, rfl, by decide +kernel, rfl, by decide +kernel, by decide +kernel⟩
abbrev s_number_told : Stmt := topS 21
abbrev N_number_told : List Str := ["kind", "value"]
abbrev P_number_told : List Str := ["kind", "value"]
theorem sc_number_told : FnScope N_number_told P_number_told (defScope s_number_told) := ⟨rfl, rfl, rfl, by decide +kernel, rfl, by decide +kernel, by decide +kernel⟩
abbrev s_numbers_fit : Stmt := topS 22
abbrev N_numbers_fit : List Str := ["kind", "value", "item"]
abbrev P_numbers_fit : List Str := ["kind", "value"]
theorem sc_numbers_fit : FnScope N_numbers_fit P_numbers_fit (defScope s_numbers_fit) := ⟨rfl, rfl, rfl, by decide +kernel, rfl, by decide +kernel, by decide +kernel⟩
abbrev s_numbers_of : Stmt := topS 23
abbrev N_numbers_of : List Str := ["kind", "names", "value", "item"]
abbrev P_numbers_of : List Str := ["kind", "names", "value"]
theorem sc_numbers_of : FnScope N_numbers_of P_numbers_of (defScope s_numbers_of) := ⟨rfl, rfl, rfl, by decide +kernel, rfl, by decide +kernel, by decide +kernel⟩
abbrev s_is_line : Stmt := topS 24
abbrev N_is_line : List Str := ["kind", "value"]
abbrev P_is_line : List Str := ["kind", "value"]
theorem sc_is_line : FnScope N_is_line P_is_line (defScope s_is_line) := ⟨rfl, rfl, rfl, by decide +kernel, rfl, by decide +kernel, by decide +kernel⟩
abbrev s_are_lines : Stmt := topS 25
abbrev N_are_lines : List Str := ["kind", "value"]
abbrev P_are_lines : List Str := ["kind", "value"]
theorem sc_are_lines : FnScope N_are_lines P_are_lines (defScope s_are_lines) := ⟨rfl, rfl, rfl, by decide +kernel, rfl, by decide +kernel, by decide +kernel⟩
abbrev s_is_book : Stmt := topS 26
abbrev N_is_book : List Str := ["value"]
abbrev P_is_book : List Str := ["value"]
theorem sc_is_book : FnScope N_is_book P_is_book (defScope s_is_book) := ⟨rfl, rfl, rfl, by decide +kernel, rfl, by decide +kernel, by decide +kernel⟩
abbrev s_are_numbers : Stmt := topS 27
abbrev N_are_numbers : List Str := ["kind", "names", "value"]
abbrev P_are_numbers : List Str := ["kind", "names", "value"]
theorem sc_are_numbers : FnScope N_are_numbers P_are_numbers (defScope s_are_numbers) := ⟨rfl, rfl, rfl, by decide +kernel, rfl, by decide +kernel, by decide +kernel⟩
abbrev s_check_names : Stmt := topS 28
abbrev N_check_names : List Str := ["names"]
abbrev P_check_names : List Str := ["names"]
theorem sc_check_names : FnScope N_check_names P_check_names (defScope s_check_names) := ⟨rfl, rfl, rfl, by decide +kernel, rfl, by decide +kernel, by decide +kernel⟩
abbrev s_check_book : Stmt := topS 29
abbrev N_check_book : List Str := ["book"]
abbrev P_check_book : List Str := ["book"]
theorem sc_check_book : FnScope N_check_book P_check_book (defScope s_check_book) := ⟨rfl, rfl, rfl, by decide +kernel, rfl, by decide +kernel, by decide +kernel⟩
abbrev s_names_in : Stmt := topS 30
abbrev N_names_in : List Str := ["lines", "line", "name"]
abbrev P_names_in : List Str := ["lines"]
theorem sc_names_in : FnScope N_names_in P_names_in (defScope s_names_in) := ⟨rfl, rfl, rfl, by decide +kernel, rfl, by decide +kernel, by decide +kernel⟩
abbrev s_unknowns : Stmt := topS 31
abbrev N_unknowns : List Str := ["book"]
abbrev P_unknowns : List Str := ["book"]
theorem sc_unknowns : FnScope N_unknowns P_unknowns (defScope s_unknowns) := ⟨rfl, rfl, rfl, by decide +kernel, rfl, by decide +kernel, by decide +kernel⟩
abbrev s_law_hash : Stmt := topS 33
abbrev N_law_hash : List Str := ["_law_seed", "_law_index", "_law_mixed"]
abbrev P_law_hash : List Str := ["_law_seed", "_law_index"]
theorem sc_law_hash : FnScope N_law_hash P_law_hash (defScope s_law_hash) := ⟨rfl, rfl, rfl, by decide +kernel, rfl, by decide +kernel, by decide +kernel⟩
abbrev s_law_random : Stmt := topS 34
abbrev N_law_random : List Str := ["_law_generator_here", "_law_bound", "_law_drawn", "_law_turn"]
abbrev P_law_random : List Str := ["_law_generator_here", "_law_bound"]
theorem sc_law_random : FnScope N_law_random P_law_random (defScope s_law_random) := ⟨rfl, rfl, rfl, by decide +kernel, rfl, by decide +kernel, by decide +kernel⟩
abbrev s_law_cell : Stmt := topS 35
abbrev N_law_cell : List Str := ["_law_script", "_law_index"]
abbrev P_law_cell : List Str := ["_law_script", "_law_index"]
theorem sc_law_cell : FnScope N_law_cell P_law_cell (defScope s_law_cell) := ⟨rfl, rfl, rfl, by decide +kernel, rfl, by decide +kernel, by decide +kernel⟩
abbrev s_law_generator : Stmt := topS 36
abbrev N_law_generator : List Str := ["_law_script", "_law_index", "_law_seed"]
abbrev P_law_generator : List Str := ["_law_script", "_law_index"]
theorem sc_law_generator : FnScope N_law_generator P_law_generator (defScope s_law_generator) := ⟨rfl, rfl, rfl, by decide +kernel, rfl, by decide +kernel, by decide +kernel⟩
abbrev s_law_is_whole : Stmt := topS 37
abbrev N_law_is_whole : List Str := ["_law_value"]
abbrev P_law_is_whole : List Str := ["_law_value"]
theorem sc_law_is_whole : FnScope N_law_is_whole P_law_is_whole (defScope s_law_is_whole) := ⟨rfl, rfl, rfl, by decide +kernel, rfl, by decide +kernel, by decide +kernel⟩
abbrev s_law_two : Stmt := topS 38
abbrev N_law_two : List Str := ["_law_many"]
abbrev P_law_two : List Str := ["_law_many"]
theorem sc_law_two : FnScope N_law_two P_law_two (defScope s_law_two) := ⟨rfl, rfl, rfl, by decide +kernel, rfl, by decide +kernel, by decide +kernel⟩
abbrev s_law_bits : Stmt := topS 39
abbrev N_law_bits : List Str := ["_law_number_here", "_law_found"]
abbrev P_law_bits : List Str := ["_law_number_here"]
theorem sc_law_bits : FnScope N_law_bits P_law_bits (defScope s_law_bits) := ⟨rfl, rfl, rfl, by decide +kernel, rfl, by decide +kernel, by decide +kernel⟩
abbrev s_law_rest : Stmt := topS 40
abbrev N_law_rest : List Str := ["_law_kind_there", "_law_number_here", "_law_by_here", "_law_rest_here"]
abbrev P_law_rest : List Str := ["_law_kind_there", "_law_number_here", "_law_by_here"]
theorem sc_law_rest : FnScope N_law_rest P_law_rest (defScope s_law_rest) := ⟨rfl, rfl, rfl, by decide +kernel, rfl, by decide +kernel, by decide +kernel⟩
abbrev s_law_by : Stmt := topS 41
abbrev N_law_by : List Str := ["_law_generator_here", "_law_kind_there", "_law_menu"]
abbrev P_law_by : List Str := ["_law_generator_here", "_law_kind_there"]
theorem sc_law_by : FnScope N_law_by P_law_by (defScope s_law_by) := ⟨rfl, rfl, rfl, by decide +kernel, rfl, by decide +kernel, by decide +kernel⟩
abbrev s_law_number : Stmt := topS 42
abbrev N_law_number : List Str := ["_law_generator_here", "_law_kind_there", "_law_far", "_law_number_here"]
abbrev P_law_number : List Str := ["_law_generator_here", "_law_kind_there"]
theorem sc_law_number : FnScope N_law_number P_law_number (defScope s_law_number) := ⟨rfl, rfl, rfl, by decide +kernel, rfl, by decide +kernel, by decide +kernel⟩
abbrev s_law_line : Stmt := topS 43
abbrev N_law_line : List Str := ["_law_generator_here", "_law_kind_there", "_law_names", "_law_one", "_law_other", "_law_by_here"]
abbrev P_law_line : List Str := ["_law_generator_here", "_law_kind_there", "_law_names"]
theorem sc_law_line : FnScope N_law_line P_law_line (defScope s_law_line) := ⟨rfl, rfl, rfl, by decide +kernel, rfl, by decide +kernel, by decide +kernel⟩
abbrev s_law_lines : Stmt := topS 44
abbrev N_law_lines : List Str := ["_law_generator_here", "_law_kind_there", "_law_names", "_law_most", "_law_turn"]
abbrev P_law_lines : List Str := ["_law_generator_here", "_law_kind_there", "_law_names", "_law_most"]
theorem sc_law_lines : FnScope N_law_lines P_law_lines (defScope s_law_lines) := ⟨rfl, rfl, rfl, by decide +kernel, rfl, by decide +kernel, by decide +kernel⟩
abbrev s_law_names_in : Stmt := topS 45
abbrev N_law_names_in : List Str := ["_law_lines_there", "_law_found", "_law_one", "_law_other", "_law_ahead", "_law_by_here", "_law_name"]
abbrev P_law_names_in : List Str := ["_law_lines_there"]
theorem sc_law_names_in : FnScope N_law_names_in P_law_names_in (defScope s_law_names_in) := ⟨rfl, rfl, rfl, by decide +kernel, rfl, by decide +kernel, by decide +kernel⟩
abbrev s_law_is_name : Stmt := topS 46
abbrev N_law_is_name : List Str := ["_law_value", "_law_letters", "_law_tail", "_law_sign"]
abbrev P_law_is_name : List Str := ["_law_value"]
theorem sc_law_is_name : FnScope N_law_is_name P_law_is_name (defScope s_law_is_name) := ⟨rfl, rfl, rfl, by decide +kernel, rfl, by decide +kernel, by decide +kernel⟩
abbrev s_law_is_number : Stmt := topS 47
abbrev N_law_is_number : List Str := ["_law_kind_there", "_law_value"]
abbrev P_law_is_number : List Str := ["_law_kind_there", "_law_value"]
theorem sc_law_is_number : FnScope N_law_is_number P_law_is_number (defScope s_law_is_number) := ⟨rfl, rfl, rfl, by decide +kernel, rfl, by decide +kernel, by decide +kernel⟩
abbrev s_law_is_line : Stmt := topS 48
abbrev N_law_is_line : List Str := ["_law_kind_there", "_law_value"]
abbrev P_law_is_line : List Str := ["_law_kind_there", "_law_value"]
theorem sc_law_is_line : FnScope N_law_is_line P_law_is_line (defScope s_law_is_line) := ⟨rfl, rfl, rfl, by decide +kernel, rfl, by decide +kernel, by decide +kernel⟩
abbrev s_law_are_lines : Stmt := topS 49
abbrev N_law_are_lines : List Str := ["_law_kind_there", "_law_value", "_law_item"]
abbrev P_law_are_lines : List Str := ["_law_kind_there", "_law_value"]
theorem sc_law_are_lines : FnScope N_law_are_lines P_law_are_lines (defScope s_law_are_lines) := ⟨rfl, rfl, rfl, by decide +kernel, rfl, by decide +kernel, by decide +kernel⟩
abbrev s_law_is_book : Stmt := topS 50
abbrev N_law_is_book : List Str := ["_law_value"]
abbrev P_law_is_book : List Str := ["_law_value"]
theorem sc_law_is_book : FnScope N_law_is_book P_law_is_book (defScope s_law_is_book) := ⟨rfl, rfl, rfl, by decide +kernel, rfl, by decide +kernel, by decide +kernel⟩
abbrev s_law_are_numbers : Stmt := topS 51
abbrev N_law_are_numbers : List Str := ["_law_kind_there", "_law_names", "_law_value", "_law_item"]
abbrev P_law_are_numbers : List Str := ["_law_kind_there", "_law_names", "_law_value"]
theorem sc_law_are_numbers : FnScope N_law_are_numbers P_law_are_numbers (defScope s_law_are_numbers) := ⟨rfl, rfl, rfl, by decide +kernel, rfl, by decide +kernel, by decide +kernel⟩
abbrev s_law_word : Stmt := topS 52
abbrev N_law_word : List Str := ["_law_generator_here", "_law_found", "_law_turn"]
abbrev P_law_word : List Str := ["_law_generator_here"]
theorem sc_law_word : FnScope N_law_word P_law_word (defScope s_law_word) := ⟨rfl, rfl, rfl, by decide +kernel, rfl, by decide +kernel, by decide +kernel⟩
abbrev s_law_odd : Stmt := topS 53
abbrev N_law_odd : List Str := ["_law_generator_here", "_law_line_there", "_law_odd_here", "_law_found", "_law_at", "_law_item", "_law_bent"]
abbrev P_law_odd : List Str := ["_law_generator_here", "_law_line_there"]
theorem sc_law_odd : FnScope N_law_odd P_law_odd (defScope s_law_odd) := ⟨rfl, rfl, rfl, by decide +kernel, rfl, by decide +kernel, by decide +kernel⟩
abbrev s_law_value_right : Stmt := topS 54
abbrev N_law_value_right : List Str := ["_law_value", "_law_kept", "_law_kind_there", "_law_due", "_law_told"]
abbrev P_law_value_right : List Str := ["_law_value"]
theorem sc_law_value_right : FnScope N_law_value_right P_law_value_right (defScope s_law_value_right) := ⟨rfl, rfl, rfl, by decide +kernel, rfl, by decide +kernel, by decide +kernel⟩
abbrev s_law_book_right : Stmt := topS 55
abbrev N_law_book_right : List Str := ["_law_generator_here", "_law_kind_there", "_law_names", "_law_lines_there", "_law_book_there", "_law_kept", "_law_due", "_law_told", "_law_at", "_law_odd_here", "_law_bent", "_law_rows", "_law_value"]
abbrev P_law_book_right : List Str := ["_law_generator_here"]
theorem sc_law_book_right : FnScope N_law_book_right P_law_book_right (defScope s_law_book_right) := ⟨rfl, rfl, rfl, by decide +kernel, rfl, by decide +kernel, by decide +kernel⟩
abbrev s_law_right : Stmt := topS 56
abbrev N_law_right : List Str := ["_law_generator_here", "_law_turn", "_law_line_there", "_law_value", "_law_numbers_there", "_law_rows"]
abbrev P_law_right : List Str := ["_law_generator_here"]
theorem sc_law_right : FnScope N_law_right P_law_right (defScope s_law_right) := ⟨rfl, rfl, rfl, by decide +kernel, rfl, by decide +kernel, by decide +kernel⟩
abbrev s_law : Stmt := topS 57
abbrev N_law : List Str := ["_law_script", "_law_index", "_law_told", "_law_star", "_law_at"]
abbrev P_law : List Str := ["_law_script"]
theorem sc_law : FnScope N_law P_law (defScope s_law) := ⟨rfl, rfl, rfl, by decide +kernel, rfl, by decide +kernel, by decide +kernel⟩
end Hr
namespace Hr
open PySem PySem.Spec PyProof.Rows L2 Evl
section
variable {P : Program} {w : World} {K : PySem.W.Frag} {mg : Str → Option Value} {base : Heap}
def hashM (a b : Int) : Int :=
  let m := (a * 1140671 + 27644437 * b * b + 131 * b + 19) % 2147483629
  let m := (m * m + 62089 * b + 32416187) % 2147483587
  (m * 48271) % 2147483647
theorem hashM_b (a b : Int) : 0 ≤ hashM a b ∧ hashM a b < 2147483647 := ⟨Int.emod_nonneg _ (by decide), Int.emod_lt_of_pos _ (by decide)⟩
theorem sz_lt31 {a : Int} (h0 : 0 ≤ a) (h : a < 2147483648) : sz a ≤ 31 := by rw [sz_le]; omega
theorem sz_c {a : Int} {n : Nat} (h : a.natAbs < 2 ^ n) : sz a ≤ n := sz_le.mpr h
abbrev spHash : Sp := spP (fun x : Int × Int => [.int x.1, .int x.2]) (fun x => sz x.1 ≤ 1000 ∧ sz x.2 ≤ 1000) (fun x => .int (hashM x.1 x.2))
theorem d_law_hash (D : Def K mg "_law_hash" s_law_hash P_law_hash) (z_int : mg "int" = none) : Has P w K mg base 1 "_law_hash" P_law_hash spHash := by
  refine D.hasP sc_law_hash (fun _ => rfl) (fun g cdv A out s H z Q E hr hp q => ?_)
  obtain ⟨a, b⟩ := z
  obtain ⟨ha, hb⟩ := hp
  have ha' : sz a ≤ 1000 := ha
  have hb' : sz b ≤ 1000 := hb
  have c1 : sz 1140671 ≤ 21 := by decide +kernel
  have c2 : sz 27644437 ≤ 25 := by decide +kernel
  have c3 : sz 131 ≤ 8 := by decide +kernel
  have c4 : sz 62089 ≤ 16 := by decide +kernel
  have c5 : sz 48271 ≤ 16 := by decide +kernel
  have m1 := sz_mul 27644437 b
  refine ⟨_, (pss_cons (ps_set (i := 2) sc_law_hash.nd rfl (.inl rfl) (pe_op op_mod (pe_callTy call_int1 (by rfl) z_int (by decide +kernel) (pa_cons (pe_op op_add (pe_op op_add (pe_op op_add (pe_op op_mulX (pv 0) pe_int) (pe_op op_mulX (pe_op op_mulX pe_int (pv 1)) (pv 1))) (pe_op op_mulX pe_int (pv 1))) pe_int) pa_nil)) pe_int))
      (pss_cons (ps_set (i := 2) sc_law_hash.nd rfl (.inl rfl) (pe_op op_mod (pe_callTy call_int1 (by rfl) z_int (by decide +kernel) (pa_cons (pe_op op_add (pe_op op_add (pe_op op_mulX (pv 2) (pv 2)) (pe_op op_mulX pe_int (pv 1))) pe_int) pa_nil)) pe_int))
      (pss_one (ps_ret (pe_op op_mod (pe_callTy call_int1 (by rfl) z_int (by decide +kernel) (pa_cons (pe_op op_mulX (pv 2) pe_int) pa_nil)) pe_int))))), ?_⟩
  refine q_asg (ev_op (ev_cb (ea_cons (ev_op (ev_op (ev_op (ev_op (ev_var (v := .int a) rfl) ev_c (rv_I (cmul_ok (by omega)))) (ev_op (ev_op ev_c (ev_var (v := .int b) rfl) (rv_I (cmul_ok (by omega)))) (ev_var (v := .int b) rfl) (rv_I (cmul_ok (by omega)))) rv_I0) (ev_op ev_c (ev_var (v := .int b) rfl) (rv_I (cmul_ok (by omega)))) rv_I0) ev_c rv_I0) ea_nil) rc_int) ev_c (rv_I (by show (0 : Int) < 2147483629; decide))) fun H1 e1 => ?_
  have s1 := sz_lt31 (Int.emod_nonneg (a * 1140671 + 27644437 * b * b + 131 * b + 19) (by decide : (2147483629 : Int) ≠ 0)) (Int.lt_trans (Int.emod_lt_of_pos _ (by decide : (0 : Int) < 2147483629)) (by decide))
  refine q_asg (ev_op (ev_cb (ea_cons (ev_op (ev_op (ev_op (ev_var (v := .int ((a * 1140671 + 27644437 * b * b + 131 * b + 19) % 2147483629)) rfl) (ev_var (v := .int ((a * 1140671 + 27644437 * b * b + 131 * b + 19) % 2147483629)) rfl) (rv_I (cmul_ok (by omega)))) (ev_op ev_c (ev_var (v := .int b) rfl) (rv_I (cmul_ok (by omega)))) rv_I0) ev_c rv_I0) ea_nil) rc_int) ev_c (rv_I (by show (0 : Int) < 2147483587; decide))) fun H2 e2 => ?_
  have s2 := sz_lt31 (Int.emod_nonneg ((a * 1140671 + 27644437 * b * b + 131 * b + 19) % 2147483629 * ((a * 1140671 + 27644437 * b * b + 131 * b + 19) % 2147483629) + 62089 * b + 32416187) (by decide : (2147483587 : Int) ≠ 0)) (Int.lt_trans (Int.emod_lt_of_pos _ (by decide : (0 : Int) < 2147483587)) (by decide))
  exact s_ret (ev_op (ev_cb (ea_cons (ev_op (ev_var (v := .int ((((a * 1140671 + 27644437 * b * b + 131 * b + 19) % 2147483629) * ((a * 1140671 + 27644437 * b * b + 131 * b + 19) % 2147483629) + 62089 * b + 32416187) % 2147483587)) rfl) ev_c (rv_I (cmul_ok (by omega)))) ea_nil) rc_int) ev_c (rv_I (by show (0 : Int) < 2147483647; decide))) fun H3 e3 => q H3 ((e1.trans e2).trans e3)
theorem sz_ediv {a b : Int} (ha : 0 ≤ a) (hb : 0 < b) : sz (a / b) ≤ sz a := by
  refine sz_mono ?_
  have h1 := Int.ediv_nonneg ha (Int.le_of_lt hb)
  have h2 := Int.ediv_le_self b ha
  omega
theorem d_law_random (D : Def K mg "_law_random" s_law_random P_law_random) (h_law_hash : Has P w K mg base 1 "_law_hash" P_law_hash spHash) (z_int : mg "int" = none) (z_range : mg "range" = none) :
    Has P w K mg base 2 "_law_random" P_law_random spRandom := by
  refine D.hasS sc_law_random (by rintro _ _ _ _ ⟨a, b, n, rfl, _⟩; rfl) (fun g cdv A out s H vs Q E hr h => ?_)
  obtain ⟨a, b, n, rfl, G, hb, hbz, hn, q⟩ := h
  obtain ⟨s0, s1, s2, ha, h0, hz0, h1, h1', h2, h2'⟩ := G.ex
  refine ⟨_, (pss_cons (ps_if (pt_cmpR op_gt (pe_ix ix_list (pv 0) pe_int (fun _ _ => rfl)) pe_int (nomark _)) (pss_cons (ps_set (i := 2) sc_law_random.nd rfl (.inl rfl) (pe_op op_mod (pe_callTy call_int1 (by rfl) z_int (by decide +kernel) (pa_cons (pe_ix ix_list (pv 0) pe_int (fun _ _ => rfl)) pa_nil)) (pv 1)))
      (pss_cons (ps_asg (pe_op op_fdivW (pe_ix ix_list (pv 0) pe_int (fun _ _ => rfl)) (pv 1)) (pg_sub (pv 0) pe_int set_list))
      (pss_one (ps_ret (pv 2))))) pss_nil)
      (pss_cons (ps_set (i := 2) sc_law_random.nd rfl (.inl rfl) pe_int)
      (pss_cons (ps_for PassesOwn.never rfl (pi_range1 (by rfl) z_range (pa_cons (pe_op op_add pe_int (pe_op op_fdivW (pe_bits (pv 1)) pe_int)) pa_nil)) (pg_name (i := 3) sc_law_random.nd rfl (.inl rfl)) (pss_cons (ps_asg (pe_op op_add (pe_ix ix_list (pv 0) pe_int (fun _ _ => rfl)) pe_int) (pg_sub (pv 0) pe_int set_list))
      (pss_one (ps_set (i := 2) sc_law_random.nd rfl (.inl rfl) (pe_op op_add (pe_op op_mulX (pv 2) pe_int) (pe_h h_law_hash hr (pa_cons (pe_ix ix_list (pv 0) pe_int (fun _ _ => rfl)) (pa_cons (pe_ix ix_list (pv 0) pe_int (fun _ _ => rfl)) pa_nil))))))))
      (pss_one (ps_ret (pe_op op_mod (pe_callTy call_int1 (by rfl) z_int (by decide +kernel) (pa_cons (pv 2) pa_nil)) (pv 1))))))), ?_⟩
  have L : SqL K H a [.int s0, .int s1, .int s2] := sq_of ha
  refine q_when (et_test (ev_op (ev_op (ev_var rfl) ev_c (rv_ixL L rfl)) ev_c rv_I0)) (fun h H1 e1 => ?_) (fun h H1 e1 => ?_)
  · have L1 := ex_l e1 L
    have hbz' : sz b < 9000 := by omega
    refine q_asg (ev_op (ev_cb (ea_cons (ev_op (ev_var rfl) ev_c (rv_ixL L1 rfl)) ea_nil) rc_int) (ev_var rfl) (rv_I hb)) fun H2 e2 => ?_
    have L2' := ex_l e2 L1
    refine q_setL (j := 0) (e2 _ _ (e1 _ _ ha)) (ev_op (ev_op (ev_var rfl) ev_c (rv_ixL L2' rfl)) (ev_var rfl) (rv_I (cdiv_ok hb hbz'))) (ev_var rfl) (ev_is ev_c rfl) (by show 0 < 3; decide) fun H3 e3 => ?_
    refine s_ret (ev_var rfl) fun H4 e4 => ?_
    refine q _ H4 (Int.emod_nonneg _ (by omega)) (Int.emod_lt_of_pos _ hb) ⟨s0 / b, s1, s2, e4 _ _ upd_same, Int.ediv_nonneg h0 (by omega), Nat.le_trans (sz_ediv h0 hb) hz0, h1, h1', h2, by omega⟩ ?_
    exact ((Keep.of ((e1.trans e2).trans e3)).trans Keep.put).trans (Keep.of e4)
  · refine q_asg ev_c fun H2 e2 => ?_
    have hk : (sz b : Int) / 30 ≤ 66 := by omega
    have hk0 : 0 ≤ (sz b : Int) / 30 := by omega
    refine q_forR1 (n := 1 + (sz b : Int) / 30) (ea_cons (ev_op ev_c (ev_op (ev_bits (ev_var rfl)) ev_c (rv_I (cdiv_ok (by decide) (by decide +kernel)))) rv_I0) ea_nil) (by omega)
      (fun i σ' H' => ∃ (d t2 : Int) (y : Option V), σ' = [some (.ref a), some (.int b), some (.int d), y] ∧ H' a = some (.lst [.int s0, .int s1, .int t2]) ∧ Keep a H H' ∧ 0 ≤ d ∧ sz d ≤ 32 * i ∧ 0 ≤ t2 ∧ t2 ≤ n + i)
      (fun H3 e3 => ⟨0, s2, none, rfl, e3 _ _ (e2 _ _ (e1 _ _ ha)), Keep.of ((e1.trans e2).trans e3), Int.le_refl 0, by rw [sz_zero]; omega, h2, by omega⟩) ?_ ?_
    · rintro i σ' H' hi ⟨d, t2, y, rfl, ha', kp, hd, hdz, ht0, ht⟩
      have M : SqL K H' a [.int s0, .int s1, .int t2] := sq_of ha'
      refine q_setL (j := 2) ha' (ev_op (ev_op (ev_var rfl) (ev_is ev_c rfl) (rv_ixL (i := 2) M rfl)) ev_c rv_I0) (ev_var rfl) (ev_is ev_c rfl) (by show 2 < 3; decide) fun H4 e4 => ?_
      have M4 : SqL K (upd H4 a (.lst ([.int s0, .int s1, .int t2].set 2 (.int (t2 + 1))))) a [.int s0, .int s1, .int (t2 + 1)] := sq_of upd_same
      have c1 : sz 2147483587 ≤ 31 := by decide +kernel
      have zs1 : sz s1 ≤ 1000 := Nat.le_trans (sz_lt31 h1 (by omega)) (by decide)
      have zt : sz (t2 + 1) ≤ 1000 := Nat.le_trans (sz_c (n := 31) (by omega)) (by decide)
      refine s_asg (ev_op (ev_op (ev_var rfl) ev_c (rv_I (cmul_ok (by omega)))) (ev_call (ea_cons (ev_op (ev_var rfl) ev_c (rv_ixL (i := 1) M4 rfl)) (ea_cons (ev_op (ev_var rfl) ev_c (rv_ixL (i := 2) M4 rfl)) ea_nil)) (spv_P (s1, t2 + 1) ⟨zs1, zt⟩)) rv_I0) fun H5 e5 => ?_
      have hh := hashM_b s1 (t2 + 1)
      have hx : hashM (s1, t2 + 1).fst (s1, t2 + 1).snd = hashM s1 (t2 + 1) := rfl
      refine ⟨_, t2 + 1, _, rfl, e5 _ _ upd_same, ((kp.trans (Keep.of e4)).trans Keep.put).trans (Keep.of e5), ?_, ?_, by omega, by omega⟩
      · have := Int.mul_nonneg hd (by decide : (0 : Int) ≤ 2147483587)
        rw [hx]; omega
      · have m := sz_mul d 2147483587
        have := sz_add (a := d * 2147483587) (b := hashM s1 (t2 + 1)) (n := 32 * i + 31) (by omega) (Nat.le_trans (sz_lt31 hh.1 (by omega)) (by omega))
        show sz (d * 2147483587 + hashM s1 (t2 + 1)) ≤ 32 * (i + 1)
        omega
    · rintro σ' H' ⟨d, t2, y, rfl, ha', kp, hd, hdz, ht0, ht⟩
      refine s_ret (ev_op (ev_cb (ea_cons (ev_var rfl) ea_nil) rc_int) (ev_var rfl) (rv_I hb)) fun H4 e4 => ?_
      exact q _ H4 (Int.emod_nonneg _ (by omega)) (Int.emod_lt_of_pos _ hb) ⟨s0, s1, t2, e4 _ _ ha', h0, hz0, h1, h1', ht0, by omega⟩ (kp.trans (Keep.of e4))
def spCell : Sp := fun vs H Q _ => ∃ (a : Addr) (ns : List Int) (i : Nat), vs = [.ref a, .int (i : Int)] ∧ SqL K H a (ns.map V.int) ∧ ∀ (z : Int) (H' : Hp), Evl.Ex H H' → Q (.int z) H'
theorem ints_cut (ns : List Int) : ∃ ms : List Int, cutV (ns.map V.int) none (some 1) = ms.map V.int := by
  refine ⟨List.take (HT.sIx ns.length ns.length (some 1) - HT.sIx ns.length 0 none) (List.drop (HT.sIx ns.length 0 none) ns), ?_⟩
  unfold cutV
  rw [← List.map_drop, ← List.map_take, List.length_map]
theorem d_law_cell (D : Def K mg "_law_cell" s_law_cell P_law_cell) (z_len : mg "len" = none) (z_sum : mg "sum" = none) : Has P w K mg base 1 "_law_cell" P_law_cell (spCell (K := K)) := by
  refine D.hasS sc_law_cell (by rintro _ _ _ _ ⟨a, ns, i, rfl, _⟩; rfl) (fun g cdv A out s H vs Q E hr h => ?_)
  obtain ⟨a, ns, i, rfl, hS, q⟩ := h
  refine ⟨_, (pss_cons (ps_if (pt_cmpR op_lt (pv 1) (pe_callB call_len_seq (by rfl) z_len (by decide +kernel) (pa_cons (pv 0) pa_nil)) (nomark _)) (pss_one (ps_ret (pe_ix ix_list (pv 0) (pv 1) (fun _ _ => rfl)))) pss_nil)
      (pss_one (ps_ret (pe_op op_mod (pe_callB (cr_sum rfl) (by rfl) z_sum (by decide +kernel) (pa_cons (pe_slice sl_list (pv 0) po_none (po_some pe_int)) pa_nil)) pe_int)))), ?_⟩
  refine q_when (et_test (ev_op (ev_var rfl) (ev_cb (ea_cons (ev_var rfl) ea_nil) (fun H1 e _ q => ⟨a, ns.map V.int, rfl, .inl (ex_l e hS), q H1 (Evl.Ex.refl H1)⟩)) rv_I0)) (fun h H1 e1 => ?_) (fun h H1 e1 => ?_)
  · have hi : i < ns.length := by
      have := of_decide_eq_true h
      rw [List.length_map] at this; omega
    refine s_ret (ev_op (ev_var rfl) (ev_var rfl) (rv_ixL (ex_l e1 hS) (atI_nat (j := i) (by rw [List.getElem?_map, List.getElem?_eq_getElem hi]; rfl)))) fun H2 e2 => q _ H2 (e1.trans e2)
  · obtain ⟨ms, hm⟩ := ints_cut ns
    have hL := el_sl (K := K) (σ := start N_law_cell [.ref a, .int (i : Int)]) (ev_var (i := 0) rfl) eo_none (eo_some (ev_c (v := .int 1))) (ex_l e1 hS)
    rw [hm] at hL
    have hs : Ev (tCB (rSum K) (tCons (tSl (rSlL K) (tVar 0) tNoPart (tPart (tC (.int 1)))) tNil)) (start N_law_cell [.ref a, .int (i : Int)]) H1 (.int ms.sum) := fun H2 e Q' q' => hL H2 e _ fun p H3 hp e3 h3 => ⟨p, ms, rfl, sq_of h3, q' H3 e3⟩
    exact s_ret (ev_op hs ev_c (rv_I (by show (0 : Int) < 1000003; decide))) fun H2 e2 => q _ H2 (e1.trans e2)
def seedB : Int := ((10 : Int) ^ (60 : Int).toNat) ^ (10 : Int).toNat
theorem seedB_pos : 0 < seedB := by decide +kernel
theorem seedB_sz : sz seedB ≤ 2100 := by decide +kernel
theorem d_law_generator (D : Def K mg "_law_generator" s_law_generator P_law_generator) (h_law_cell : Has P w K mg base 1 "_law_cell" P_law_cell (spCell (K := K))) (z_int : mg "int" = none) (z_max : mg "max" = none) :
    Has P w K mg base 2 "_law_generator" P_law_generator (spGen (K := K)) := by
  refine D.hasS sc_law_generator (by rintro _ _ _ _ ⟨a, ns, i, rfl, _⟩; rfl) (fun g cdv A out s H vs Q E hr h => ?_)
  obtain ⟨a, ns, i, rfl, hS, hi, q⟩ := h
  refine ⟨_, (pss_cons (ps_set (i := 2) sc_law_generator.nd rfl (.inl rfl) (pe_h h_law_cell hr (pa_cons (pv 0) (pa_cons (pv 1) pa_nil))))
      (pss_one (ps_ret (pe_lst (pa_cons (pe_op op_mod (pe_callTy call_int1 (by rfl) z_int (by decide +kernel) (pa_cons (pe_callB (call_max2 rfl) (by rfl) z_max (by decide +kernel) (pa_cons (pe_op op_sub (pv 2) (pe_op op_powX pe_int pe_int)) (pa_cons pe_int pa_nil))) pa_nil)) (pe_op op_powX (pe_op op_powX pe_int pe_int) pe_int)) (pa_cons (pe_op op_mod (pe_callTy call_int1 (by rfl) z_int (by decide +kernel) (pa_cons (pv 2) pa_nil)) pe_int) (pa_cons (pe_op op_mulX pe_int (pv 1)) pa_nil))))))), ?_⟩
  refine ⟨_, rfl, _, rfl, a, ns, i, rfl, hS, fun z H1 e1 => ?_⟩
  have hi' : sz (i : Int) ≤ 10 := sz_c (by omega)
  have c1 : sz 1000 ≤ 10 := by decide +kernel
  refine s_retL (Evl.el_lst (ea_cons (ev_op (ev_cb (ea_cons (ev_max2 (ev_op (ev_var rfl) (ev_op ev_c ev_c (rv_I (by constructor <;> decide +kernel))) rv_I0) ev_c) ea_nil) rc_int) (ev_op (ev_op ev_c ev_c (rv_I (by constructor <;> decide +kernel))) ev_c (rv_I (by constructor <;> decide +kernel))) (rv_I seedB_pos))
    (ea_cons (ev_op (ev_cb (ea_cons (ev_var rfl) ea_nil) rc_int) ev_c (rv_I (by show (0 : Int) < 2147483647; decide))) (ea_cons (ev_op (ev_c (v := .int 1000)) (ev_var (v := .int (i : Int)) rfl) (rv_I (cmul_ok (by omega)))) ea_nil))) (by show 3 ≤ 100000; decide)) fun p H2 hp e2 h2 => ?_
  refine q p H2 (fresh_back e1 hp) (e1.trans e2) ⟨_, _, _, h2, Int.emod_nonneg _ (show seedB ≠ 0 by have := seedB_pos; omega), ?_, Int.emod_nonneg _ (by decide), Int.emod_lt_of_pos _ (by decide), by omega, by omega⟩
  refine Nat.le_trans (sz_mono ?_) seedB_sz
  have h1 := Int.emod_nonneg (if 0 > z - (10 : Int) ^ (18 : Int).toNat then 0 else z - (10 : Int) ^ (18 : Int).toNat) (show seedB ≠ 0 by have := seedB_pos; omega)
  have h2' := Int.emod_lt_of_pos (if 0 > z - (10 : Int) ^ (18 : Int).toNat then 0 else z - (10 : Int) ^ (18 : Int).toNat) seedB_pos
  show ((if 0 > z - (10 : Int) ^ (18 : Int).toNat then 0 else z - (10 : Int) ^ (18 : Int).toNat) % seedB).natAbs ≤ seedB.natAbs
  omega
/-! ### the law's own arithmetic -/
end
end Hr
namespace Hr
open PySem PySem.Spec PyProof.Rows L2 Evl
/-! ### how a mirror is reckoned -/
@[simp] theorem rd_0 (d : PyData) (e : Env) : rd 0 (.dat d :: e) = .done d := rfl
@[simp] theorem rd_s (n : Nat) (s : Sl) (e : Env) : rd (n + 1) (s :: e) = rd n e := by
  unfold rd; rw [List.getElem?_cons_succ]
@[simp] theorem rdG_0 (e : Env) : rdGen 0 (.gen :: e) = .done () := rfl
@[simp] theorem rdG_s (n : Nat) (s : Sl) (e : Env) : rdGen (n + 1) (s :: e) = rdGen n e := by
  unfold rdGen; rw [List.getElem?_cons_succ]
@[simp] theorem own_0 (ds : List PyData) (e : Env) : ownAt 0 (.own ds :: e) = .done ds := rfl
@[simp] theorem own_s (n : Nat) (s : Sl) (e : Env) : ownAt (n + 1) (s :: e) = ownAt n e := by
  unfold ownAt; rw [List.getElem?_cons_succ]
@[simp] theorem peek_0 (ds : List PyData) (e : Env) : peekAt 0 (.own ds :: e) = .done ds := rfl
@[simp] theorem peek_d (ds : List PyData) (e : Env) : peekAt 0 (.dat (.list ds) :: e) = .done ds := rfl
@[simp] theorem peek_s (n : Nat) (s : Sl) (e : Env) : peekAt (n + 1) (s :: e) = peekAt n e := by
  unfold peekAt; rw [List.getElem?_cons_succ]
@[simp] theorem then_nx (m : Ss_) (e : Env) : then_ m (.nx e) = m e := rfl
@[simp] theorem then_rt (m : Ss_) (d : PyData) : then_ m (.rt d) = .done (.rt d) := rfl
@[simp] theorem then_bk (m : Ss_) (e : Env) : then_ m (.bk e) = .done (.bk e) := rfl
@[simp] theorem then_ct (m : Ss_) (e : Env) : then_ m (.ct e) = .done (.ct e) := rfl
@[simp] theorem fin_rt (d : PyData) : fin (.rt d) = .done d := rfl
@[simp] theorem fin_nx (e : Env) : fin (.nx e) = .done .none := rfl
@[simp] theorem tobool_b (b : Bool) : tobool (.bool b) = .done b := rfl
@[simp] theorem truth_b (b : Bool) : truth (.bool b) = .done b := rfl
@[simp] theorem truth_i (i : Int) : truth (.int i) = .done (i != 0) := rfl
@[simp] theorem truth_n : truth .none = .done false := rfl
@[simp] theorem truth_l (xs : List PyData) : truth (.list xs) = .done (!xs.isEmpty) := rfl
@[simp] theorem truth_t (xs : List PyData) : truth (.tuple xs) = .done (!xs.isEmpty) := rfl
@[simp] theorem lenIs_n (j : Nat) (g : List Sl → Tr PyData) (es : List Sl) (h : es.length = j) : lenIs j g es = g es := if_pos h
@[simp] theorem dats_nil : dats [] = .done [] := rfl
@[simp] theorem dats_cons (d : PyData) (es : List Sl) : dats (.dat d :: es) = (dats es).bind fun ds => .done (d :: ds) := rfl
@[simp] theorem toI_i (i : Int) : toI (.int i) = .done (some i) := rfl
theorem few_ok {α : Type} {f : List PyData → α} {ds : List PyData} (h : ds.length ≤ 100000) : few f ds = .done (f ds) := if_pos h
@[simp] theorem few_0 {α : Type} (f : List PyData → α) : few f [] = .done (f []) := rfl
@[simp] theorem few_1 {α : Type} (f : List PyData → α) (a : PyData) : few f [a] = .done (f [a]) := rfl
@[simp] theorem few_2 {α : Type} (f : List PyData → α) (a b : PyData) : few f [a, b] = .done (f [a, b]) := rfl
@[simp] theorem few_3 {α : Type} (f : List PyData → α) (a b c : PyData) : few f [a, b, c] = .done (f [a, b, c]) := rfl
@[simp] theorem few_4 {α : Type} (f : List PyData → α) (a b c d : PyData) : few f [a, b, c, d] = .done (f [a, b, c, d]) := rfl
@[simp] theorem few_5 {α : Type} (f : List PyData → α) (a b c d x : PyData) : few f [a, b, c, d, x] = .done (f [a, b, c, d, x]) := rfl
/-! operations -/
@[simp] theorem add_ii (i j : Int) : o_add (.int i) (.int j) = .done (.int (i + j)) := rfl
@[simp] theorem sub_ii (i j : Int) : o_sub (.int i) (.int j) = .done (.int (i - j)) := rfl
@[simp] theorem le_ii (i j : Int) : o_le (.int i) (.int j) = .done (.bool (decide (i ≤ j))) := rfl
@[simp] theorem ge_ii (i j : Int) : o_ge (.int i) (.int j) = .done (.bool (decide (j ≤ i))) := rfl
@[simp] theorem gt_ii (i j : Int) : o_gt (.int i) (.int j) = .done (.bool (decide (j < i))) := rfl
@[simp] theorem lt_ii (i j : Int) : o_lt (.int i) (.int j) = .done (.bool (decide (i < j))) := rfl
@[simp] theorem neg_i (i : Int) : o_neg (.int i) = .done (.int (-i)) := rfl
@[simp] theorem bits_i (i : Int) : o_bits (.int i) = .done (.int (sz i : Nat)) := rfl
theorem mod_nz {i j : Int} (h : j ≠ 0) : o_mod (.int i) (.int j) = .done (.int (i.fmod j)) := if_pos (decide_eq_true h)
@[simp] theorem mod_ii {i j : Int} (h : 0 < j) : o_mod (.int i) (.int j) = .done (.int (i % j)) := by
  rw [mod_nz (by omega), Int.fmod_eq_emod_of_nonneg i (by omega)]
theorem div_ii {i j : Int} (h : 0 < j) (h2 : sz j < 9000) : o_div (.int i) (.int j) = .done (.int (i / j)) := if_pos (decide_eq_true ⟨h, h2⟩)
theorem mul_ii {i j : Int} (h : sz i + sz j ≤ 100000000) : o_mul (.int i) (.int j) = .done (.int (i * j)) := if_pos h
@[simp] theorem xor_nn (i j : Nat) : o_xor (.int (i : Int)) (.int (j : Int)) = .done (.int ((i ^^^ j : Nat) : Int)) := rfl
@[simp] theorem orb_nn (i j : Nat) : o_orb (.int (i : Int)) (.int (j : Int)) = .done (.int ((i ||| j : Nat) : Int)) := rfl
theorem shl_nn {i j : Nat} (h : i.log2 ≤ 1000000) (h2 : j ≤ 1000000) : o_shl (.int (i : Int)) (.int (j : Int)) = .done (.int ((i * 2 ^ j : Nat) : Int)) := if_pos (decide_eq_true ⟨h, h2⟩)
@[simp] theorem shr_in (i : Int) (j : Nat) : o_shr (.int i) (.int (j : Int)) = .done (.int (i / 2 ^ j)) := rfl
@[simp] theorem odd_n (i : Nat) : o_odd (.int (i : Int)) (.int 1) = .done (.int ((i % 2 : Nat) : Int)) := rfl
@[simp] theorem int_i (i : Int) : o_int [.dat (.int i)] = .done (.int i) := rfl
@[simp] theorem int_b (b : Bool) : o_int [.dat (.bool b)] = .done (.int (if b then 1 else 0)) := rfl
@[simp] theorem len_l (xs : List PyData) : o_len [.dat (.list xs)] = .done (.int (xs.length : Int)) := rfl
@[simp] theorem len_t (xs : List PyData) : o_len [.dat (.tuple xs)] = .done (.int (xs.length : Int)) := rfl
@[simp] theorem max_ii (i j : Int) : o_max [.dat (.int i), .dat (.int j)] = .done (.int (if j > i then j else i)) := rfl
@[simp] theorem min_ii (i j : Int) : o_min [.dat (.int i), .dat (.int j)] = .done (.int (if j < i then j else i)) := rfl
@[simp] theorem gcd_ii (i j : Int) : o_gcd [.dat (.int i), .dat (.int j)] = .done (.int ((Nat.gcd i.natAbs j.natAbs : Nat) : Int)) := rfl
@[simp] theorem isN_x (f : Bool → Bool) (x : PyData) : o_isN f x .none = .done (.bool (f (isNone x))) := rfl
@[simp] theorem isNone_n : isNone .none = true := rfl
@[simp] theorem isNone_t (xs : List PyData) : isNone (.tuple xs) = false := rfl
@[simp] theorem isNone_i (i : Int) : isNone (.int i) = false := rfl
theorem at_nat {α : Type} (xs : List α) (n : Nat) : atI xs (n : Int) = xs[n]? := by
  unfold atI ixN
  rw [if_pos (Int.natCast_nonneg n)]
  by_cases h : n < xs.length
  · rw [if_pos (by omega)]; rfl
  · rw [if_neg (by omega), List.getElem?_eq_none (by omega)]; rfl
theorem ix_l {xs : List PyData} {n : Nat} {d : PyData} (h : xs[n]? = some d) : o_ix (.list xs) (.int (n : Int)) = .done d := by
  show (match atI xs (n : Int) with | some d => Tr.done d | none => .fail) = .done d
  rw [at_nat, h]
theorem ix_t {xs : List PyData} {n : Nat} {d : PyData} (h : xs[n]? = some d) : o_ix (.tuple xs) (.int (n : Int)) = .done d := by
  show (match atI xs (n : Int) with | some d => Tr.done d | none => .fail) = .done d
  rw [at_nat, h]
@[simp] theorem ix_l0 (x : PyData) (xs : List PyData) : o_ix (.list (x :: xs)) (.int 0) = .done x := ix_l (n := 0) rfl
@[simp] theorem ix_t0 (x : PyData) (xs : List PyData) : o_ix (.tuple (x :: xs)) (.int 0) = .done x := ix_t (n := 0) rfl
@[simp] theorem ix_l1 (x y : PyData) (xs : List PyData) : o_ix (.list (x :: y :: xs)) (.int 1) = .done y := ix_l (n := 1) rfl
@[simp] theorem ix_t1 (x y : PyData) (xs : List PyData) : o_ix (.tuple (x :: y :: xs)) (.int 1) = .done y := ix_t (n := 1) rfl
@[simp] theorem ix_t2 (x y z : PyData) (xs : List PyData) : o_ix (.tuple (x :: y :: z :: xs)) (.int 2) = .done z := ix_t (n := 2) rfl
@[simp] theorem ix_t3 (x y z w : PyData) (xs : List PyData) : o_ix (.tuple (x :: y :: z :: w :: xs)) (.int 3) = .done w := ix_t (n := 3) rfl
/-! equality -/
theorem shp_int (i : Int) : shp (.int i) = true := rfl
@[simp] theorem eq_ii (f : Bool → Bool) (i j : Int) : oEq f (.int i) (.int j) = .done (.bool (f (i == j))) := if_pos ⟨rfl, rfl⟩
@[simp] theorem eqv_ii (i j : Int) : PyData.eqv (.int i) (.int j) = (i == j) := rfl
theorem oEq_ok {f : Bool → Bool} {d e : PyData} (h : shp d = true) (h2 : shp e = true) : oEq f d e = .done (.bool (f (PyData.eqv d e))) := if_pos ⟨h, h2⟩
theorem eqv_str (x y : Str) : PyData.eqv (.str x) (.str y) = (x == y) := rfl
theorem shp_H : shp (.str "hours") = true := by decide +kernel
theorem shp_B : shp (.str "bits") = true := by decide +kernel
theorem oEq_str {f : Bool → Bool} {x y : Str} (h : shp (.str x) = true) (h2 : shp (.str y) = true) : oEq f (.str x) (.str y) = .done (.bool (f (x == y))) := oEq_ok h h2
@[simp] theorem eq_H (k : Kd) : oEq id (.str (ks k)) (.str "hours") = .done (.bool (isH k)) := by
  cases k
  · rw [show ks .H = "hours" from rfl, oEq_str shp_H shp_H, show (("hours" : Str) == "hours") = true by decide +kernel]; rfl
  · rw [show ks .B = "bits" from rfl, oEq_str shp_B shp_H, show (("bits" : Str) == "hours") = false by decide +kernel]; rfl
@[simp] theorem eq_B (k : Kd) : oEq id (.str (ks k)) (.str "bits") = .done (.bool (!isH k)) := by
  cases k
  · rw [show ks .H = "hours" from rfl, oEq_str shp_H shp_B, show (("hours" : Str) == "bits") = false by decide +kernel]; rfl
  · rw [show ks .B = "bits" from rfl, oEq_str shp_B shp_B, show (("bits" : Str) == "bits") = true by decide +kernel]; rfl
abbrev dK (k : Kd) : Sl := .dat (.str (ks k))
abbrev dI (i : Int) : Sl := .dat (.int i)
abbrev dR (a m : Int) : PyData := .tuple [.int a, .int m]
@[simp] theorem isH_H : isH .H = true := rfl
@[simp] theorem isH_B : isH .B = false := rfl
end Hr
noncomputable section
namespace Hr
open PySem PySem.Spec PyProof.Rows L2 Evl
def b_is_kind : Ss_ :=
      (zRet (xAnd (xIsi isStrD (xVar 0)) (xOp (o_in id) (xVar 0) (xC (PyData.tuple [(PyData.str "hours"), (PyData.str "bits")])))))
def f_is_kind : List Sl → Tr PyData := runF 0 b_is_kind
def b_is_whole : Ss_ :=
      (zRet (xAnd (xIsi isIntD (xVar 0)) (xNot (xIsi isBoolD (xVar 0)))))
def f_is_whole : List Sl → Tr PyData := runF 0 b_is_whole
def b_is_count : Ss_ :=
      (zRet (xAnd (xFn f_is_whole 1 (aCons (xVar 0) aNil)) (xOp o_ge (xVar 0) (xC (PyData.int 0)))))
def f_is_count : List Sl → Tr PyData := runF 0 b_is_count
def b_is_number : Ss_ :=
      (zRet (xAnd (xFn f_is_whole 1 (aCons (xVar 1) aNil)) (xOr (xOp (oEq id) (xVar 0) (xC (PyData.str "hours"))) (xOp o_ge (xVar 1) (xC (PyData.int 0))))))
def f_is_number : List Sl → Tr PyData := runF 0 b_is_number
def b_check_kind : Ss_ :=
      (zIf (yNot (yTru (xFn f_is_kind 1 (aCons (xVar 0) aNil)))) zNever zNext)
def f_check_kind : List Sl → Tr PyData := runF 0 b_check_kind
def b_check_count : Ss_ :=
      (zIf (yNot (yTru (xFn f_is_count 1 (aCons (xVar 0) aNil)))) zNever zNext)
def f_check_count : List Sl → Tr PyData := runF 0 b_check_count
def b_plus : Ss_ :=
      (zSeq (zIf (yB (xOp (oEq id) (xVar 0) (xC (PyData.str "hours")))) (zRet (xOp o_add (xVar 1) (xVar 2))) zNext)
      (zRet (xOp o_xor (xVar 1) (xVar 2))))
def f_plus : List Sl → Tr PyData := runF 0 b_plus
def b_minus : Ss_ :=
      (zSeq (zIf (yB (xOp (oEq id) (xVar 0) (xC (PyData.str "hours")))) (zRet (xOp o_sub (xVar 1) (xVar 2))) zNext)
      (zRet (xOp o_xor (xVar 1) (xVar 2))))
def f_minus : List Sl → Tr PyData := runF 0 b_minus
def t_times_1 : Ts_ :=
      (yB (xOp o_gt (xVar 2) (xC (PyData.int 0))))
def l_times_1 : Ss_ :=
      (zSeq (zIf (yTru (xOp o_odd (xVar 2) (xC (PyData.int 1)))) (zAsg (xOp o_xor (xVar 3) (xVar 1)) (tgName 3)) zNext)
      (zSeq (zAsg (xOp o_shl (xVar 1) (xC (PyData.int 1))) (tgName 1))
      (zAsg (xOp o_shr (xVar 2) (xC (PyData.int 1))) (tgName 2))))
def b_times : Ss_ :=
      (zSeq (zIf (yB (xOp (oEq id) (xVar 0) (xC (PyData.str "hours")))) (zRet (xOp o_mul (xVar 1) (xVar 2))) zNext)
      (zSeq (zAsg (xC (PyData.int 0)) (tgName 3))
      (zSeq (zWhile 100000 t_times_1 l_times_1)
      (zRet (xVar 3)))))
def f_times : List Sl → Tr PyData := runF 1 b_times
def t_split_by_1 : Ts_ :=
      (yB (xOp o_ge (xBits (xVar 1)) (xVar 4)))
def l_split_by_1 : Ss_ :=
      (zSeq (zAsg (xOp o_sub (xBits (xVar 1)) (xVar 4)) (tgName 5))
      (zSeq (zAsg (xOp o_orb (xVar 3) (xOp o_shl (xC (PyData.int 1)) (xVar 5))) (tgName 3))
      (zAsg (xOp o_xor (xVar 1) (xOp o_shl (xVar 2) (xVar 5))) (tgName 1))))
def b_split_by : Ss_ :=
      (zSeq (zIf (yB (xOp (oEq id) (xVar 0) (xC (PyData.str "hours")))) (zRet (xCb o_divmod (aCons (xVar 1) (aCons (xVar 2) aNil)))) zNext)
      (zSeq (zAsg (xC (PyData.int 0)) (tgName 3))
      (zSeq (zAsg (xBits (xVar 2)) (tgName 4))
      (zSeq (zWhile 100000 t_split_by_1 l_split_by_1)
      (zRet (xTup (aCons (xVar 3) (aCons (xVar 1) aNil))))))))
def f_split_by : List Sl → Tr PyData := runF 3 b_split_by
def t_word_rest_1 : Ts_ :=
      (yB (xOp o_ge (xVar 3) (xC (PyData.int 0))))
def l_word_rest_1 : Ss_ :=
      (zSeq (zAsg (xOp o_xor (xVar 0) (xOp o_shl (xVar 1) (xVar 3))) (tgName 0))
      (zAsg (xOp o_sub (xBits (xVar 0)) (xVar 2)) (tgName 3)))
def b_word_rest : Ss_ :=
      (zSeq (zAsg (xBits (xVar 1)) (tgName 2))
      (zSeq (zAsg (xOp o_sub (xBits (xVar 0)) (xVar 2)) (tgName 3))
      (zSeq (zWhile 100000 t_word_rest_1 l_word_rest_1)
      (zRet (xVar 0)))))
def f_word_rest : List Sl → Tr PyData := runF 2 b_word_rest
def b_rest_by : Ss_ :=
      (zSeq (zIf (yB (xOp (oEq id) (xVar 2) (xC (PyData.int 0)))) (zRet (xVar 1)) zNext)
      (zSeq (zIf (yB (xOp (oEq id) (xVar 0) (xC (PyData.str "hours")))) (zRet (xOp o_mod (xVar 1) (xVar 2))) zNext)
      (zSeq (zIf (yB (xOp o_gt (xBits (xVar 1)) (xOp o_add (xC (PyData.int 1000)) (xOp o_mul (xC (PyData.int 8)) (xBits (xVar 2)))))) (zAsg (xFn f_folded 2 (aCons (xVar 1) (aCons (xVar 2) aNil))) (tgName 1)) zNext)
      (zRet (xFn f_word_rest 2 (aCons (xVar 1) (aCons (xVar 2) aNil)))))))
def f_rest_by : List Sl → Tr PyData := runF 0 b_rest_by
def b_has_factor : Ss_ :=
      (zRet (xOp (oEq id) (xFn f_rest_by 3 (aCons (xVar 0) (aCons (xVar 1) (aCons (xVar 2) aNil)))) (xC (PyData.int 0))))
def f_has_factor : List Sl → Tr PyData := runF 0 b_has_factor
def t_common_divisor_1 : Ts_ :=
      (yB (xOp o_ge (xVar 4) (xC (PyData.int 0))))
def l_common_divisor_1 : Ss_ :=
      (zSeq (zAsg (xOp o_xor (xVar 1) (xOp o_shl (xVar 2) (xVar 4))) (tgName 1))
      (zAsg (xOp o_sub (xBits (xVar 1)) (xVar 3)) (tgName 4)))
def t_common_divisor_2 : Ts_ :=
      (yB (xOp o_gt (xVar 2) (xC (PyData.int 0))))
def l_common_divisor_2 : Ss_ :=
      (zSeq (zAsg (xBits (xVar 2)) (tgName 3))
      (zSeq (zAsg (xOp o_sub (xBits (xVar 1)) (xVar 3)) (tgName 4))
      (zSeq (zWhile 100000 t_common_divisor_1 l_common_divisor_1)
      (zPar 1 2 (aCons (xVar 2) (aCons (xVar 1) aNil))))))
def b_common_divisor : Ss_ :=
      (zSeq (zIf (yB (xOp (oEq id) (xVar 0) (xC (PyData.str "hours")))) (zRet (xCb o_gcd (aCons (xVar 1) (aCons (xVar 2) aNil)))) zNext)
      (zSeq (zIf (yB (xOp o_lt (xVar 1) (xVar 2))) (zPar 1 2 (aCons (xVar 2) (aCons (xVar 1) aNil))) zNext)
      (zSeq (zIf (yB (xOp o_gt (xVar 2) (xC (PyData.int 0)))) (zPar 1 2 (aCons (xVar 2) (aCons (xFn f_rest_by 3 (aCons (xVar 0) (aCons (xVar 1) (aCons (xVar 2) aNil)))) aNil))) zNext)
      (zSeq (zWhile 100000 t_common_divisor_2 l_common_divisor_2)
      (zRet (xVar 1))))))
def f_common_divisor : List Sl → Tr PyData := runF 2 b_common_divisor
def t_hours_factor_1 : Ts_ :=
      (yB (xOp (oEq not) (xVar 1) (xC (PyData.int 0))))
def l_hours_factor_1 : Ss_ :=
      (zSeq (zAsg (xCb o_divmod (aCons (xVar 0) (aCons (xVar 1) aNil))) (tgTup 2 (tgCons (tgName 4) (tgCons (tgName 5) tgNil))))
      (zSeq (zPar 0 1 (aCons (xVar 1) (aCons (xVar 5) aNil)))
      (zPar 2 3 (aCons (xVar 3) (aCons (xOp o_sub (xVar 2) (xOp o_mul (xVar 3) (xVar 4))) aNil)))))
def b_hours_factor : Ss_ :=
      (zSeq (zAsg (xTup (aCons (xC (PyData.int 1)) (aCons (xC (PyData.int 0)) aNil))) (tgTup 2 (tgCons (tgName 2) (tgCons (tgName 3) tgNil))))
      (zSeq (zWhile 100000 t_hours_factor_1 l_hours_factor_1)
      (zRet (xTup (aCons (xVar 0) (aCons (xVar 2) aNil))))))
def f_hours_factor : List Sl → Tr PyData := runF 4 b_hours_factor
def t_word_factor_1 : Ts_ :=
      (yB (xOp o_ge (xVar 5) (xC (PyData.int 0))))
def l_word_factor_1 : Ss_ :=
      (zSeq (zAsg (xOp o_xor (xVar 0) (xOp o_shl (xVar 1) (xVar 5))) (tgName 0))
      (zSeq (zAsg (xOp o_xor (xVar 2) (xOp o_shl (xVar 3) (xVar 5))) (tgName 2))
      (zAsg (xOp o_sub (xBits (xVar 0)) (xVar 4)) (tgName 5))))
def t_word_factor_2 : Ts_ :=
      (yB (xOp o_gt (xVar 1) (xC (PyData.int 0))))
def l_word_factor_2 : Ss_ :=
      (zSeq (zAsg (xBits (xVar 1)) (tgName 4))
      (zSeq (zAsg (xOp o_sub (xBits (xVar 0)) (xVar 4)) (tgName 5))
      (zSeq (zWhile 100000 t_word_factor_1 l_word_factor_1)
      (zSeq (zPar 0 1 (aCons (xVar 1) (aCons (xVar 0) aNil)))
      (zPar 2 3 (aCons (xVar 3) (aCons (xVar 2) aNil)))))))
def b_word_factor : Ss_ :=
      (zSeq (zAsg (xTup (aCons (xC (PyData.int 1)) (aCons (xC (PyData.int 0)) aNil))) (tgTup 2 (tgCons (tgName 2) (tgCons (tgName 3) tgNil))))
      (zSeq (zWhile 100000 t_word_factor_2 l_word_factor_2)
      (zRet (xTup (aCons (xVar 0) (aCons (xVar 2) aNil))))))
def f_word_factor : List Sl → Tr PyData := runF 4 b_word_factor
def b_divisor_with_factors : Ss_ :=
      (zSeq (zAsg (xIf (yB (xOp (oEq id) (xVar 0) (xC (PyData.str "hours")))) (xFn f_hours_factor 2 (aCons (xVar 1) (aCons (xVar 2) aNil))) (xFn f_word_factor 2 (aCons (xVar 1) (aCons (xVar 2) aNil)))) (tgTup 2 (tgCons (tgName 3) (tgCons (tgName 4) tgNil))))
      (zSeq (zIf (yB (xOp o_lt (xVar 3) (xC (PyData.int 0)))) (zPar 3 4 (aCons (xUn o_neg (xVar 3)) (aCons (xUn o_neg (xVar 4)) aNil))) zNext)
      (zSeq (zIf (yB (xOp (oEq id) (xVar 3) (xC (PyData.int 0)))) (zRet (xTup (aCons (xC (PyData.int 0)) (aCons (xC (PyData.int 0)) (aCons (xC (PyData.int 0)) (aCons (xC (PyData.int 0)) (aCons (xC (PyData.int 0)) aNil))))))) zNext)
      (zSeq (zAsg (xC (PyData.int 0)) (tgName 5))
      (zSeq (zIf (yB (xOp (oEq not) (xVar 2) (xC (PyData.int 0)))) (zAsg (xOp o_ix (xFn f_split_by 3 (aCons (xVar 0) (aCons (xFn f_minus 3 (aCons (xVar 0) (aCons (xVar 3) (aCons (xFn f_times 3 (aCons (xVar 0) (aCons (xVar 1) (aCons (xVar 4) aNil)))) aNil)))) (aCons (xVar 2) aNil)))) (xC (PyData.int 0))) (tgName 5)) zNext)
      (zRet (xTup (aCons (xVar 3) (aCons (xOp o_ix (xFn f_split_by 3 (aCons (xVar 0) (aCons (xVar 1) (aCons (xVar 3) aNil)))) (xC (PyData.int 0))) (aCons (xOp o_ix (xFn f_split_by 3 (aCons (xVar 0) (aCons (xVar 2) (aCons (xVar 3) aNil)))) (xC (PyData.int 0))) (aCons (xVar 4) (aCons (xVar 5) aNil))))))))))))
def f_divisor_with_factors : List Sl → Tr PyData := runF 3 b_divisor_with_factors
def b_may_tell : Ss_ :=
      (zSeq (zIf (yOr (yNot (yTru (xFn f_is_count 1 (aCons (xVar 2) aNil)))) (yNot (yTru (xFn f_is_number 2 (aCons (xVar 0) (aCons (xVar 1) aNil)))))) (zRet (xC (PyData.bool false))) zNext)
      (zSeq (zIf (yB (xOp (oEq id) (xVar 2) (xC (PyData.int 0)))) (zRet (xC (PyData.bool true))) zNext)
      (zSeq (zIf (yB (xOp (oEq id) (xVar 0) (xC (PyData.str "hours")))) (zRet (xChain o_le o_lt (xC (PyData.int 0)) (xVar 1) (xVar 2))) zNext)
      (zRet (xOp o_lt (xBits (xVar 1)) (xBits (xVar 2)))))))
def f_may_tell : List Sl → Tr PyData := runF 0 b_may_tell
def b_rest_fits : Ss_ :=
      (zRet (xAnd (xIsi isTupD (xVar 1)) (xAnd (xOp (oEq id) (xCb o_len (aCons (xVar 1) aNil)) (xC (PyData.int 2))) (xFn f_may_tell 3 (aCons (xVar 0) (aCons (xOp o_ix (xVar 1) (xC (PyData.int 0))) (aCons (xOp o_ix (xVar 1) (xC (PyData.int 1))) aNil)))))))
def f_rest_fits : List Sl → Tr PyData := runF 0 b_rest_fits
def b_check_rests : Ss_ :=
      (zIf (yOr (yNot (yTru (xIsi isListD (xVar 1)))) (yNot (yTru (xCb o_all (aCons (xEl (xLc (iSeq itL (xVar 1)) (tgName 2) yYes (xFn f_rest_fits 2 (aCons (xVar 0) (aCons (xVar 2) aNil))) [2])) aNil))))) zNever zNext)
def f_check_rests : List Sl → Tr PyData := runF 1 b_check_rests
def b_rests_agree : Ss_ :=
      (zRet (xFn f_has_factor 3 (aCons (xVar 0) (aCons (xFn f_minus 3 (aCons (xVar 0) (aCons (xOp o_ix (xVar 1) (xC (PyData.int 0))) (aCons (xOp o_ix (xVar 2) (xC (PyData.int 0))) aNil)))) (aCons (xFn f_common_divisor 3 (aCons (xVar 0) (aCons (xOp o_ix (xVar 1) (xC (PyData.int 1))) (aCons (xOp o_ix (xVar 2) (xC (PyData.int 1))) aNil)))) aNil)))))
def f_rests_agree : List Sl → Tr PyData := runF 0 b_rests_agree
def b_meet (f_meet : List Sl → Tr PyData) : Ss_ :=
      (zSeq (zAsg (xFn f_minus 3 (aCons (xVar 0) (aCons (xOp o_ix (xVar 2) (xC (PyData.int 0))) (aCons (xOp o_ix (xVar 1) (xC (PyData.int 0))) aNil)))) (tgName 3))
      (zSeq (zIf (yTru (xFn f_has_factor 3 (aCons (xVar 0) (aCons (xOp o_ix (xVar 1) (xC (PyData.int 1))) (aCons (xOp o_ix (xVar 2) (xC (PyData.int 1))) aNil))))) (zRet (xIf (yTru (xFn f_has_factor 3 (aCons (xVar 0) (aCons (xVar 3) (aCons (xOp o_ix (xVar 2) (xC (PyData.int 1))) aNil))))) (xVar 1) (xC PyData.none))) zNext)
      (zSeq (zIf (yTru (xFn f_has_factor 3 (aCons (xVar 0) (aCons (xOp o_ix (xVar 2) (xC (PyData.int 1))) (aCons (xOp o_ix (xVar 1) (xC (PyData.int 1))) aNil))))) (zRet (xIf (yTru (xFn f_has_factor 3 (aCons (xVar 0) (aCons (xVar 3) (aCons (xOp o_ix (xVar 1) (xC (PyData.int 1))) aNil))))) (xVar 2) (xC PyData.none))) zNext)
      (zSeq (zIf (yB (xOp o_lt (xOp o_ix (xVar 1) (xC (PyData.int 1))) (xOp o_ix (xVar 2) (xC (PyData.int 1))))) (zRet (xFn f_meet 3 (aCons (xVar 0) (aCons (xVar 2) (aCons (xVar 1) aNil))))) zNext)
      (zSeq (zAsg (xFn f_rest_by 3 (aCons (xVar 0) (aCons (xOp o_ix (xVar 1) (xC (PyData.int 1))) (aCons (xOp o_ix (xVar 2) (xC (PyData.int 1))) aNil)))) (tgName 4))
      (zSeq (zAsg (xFn f_divisor_with_factors 3 (aCons (xVar 0) (aCons (xVar 4) (aCons (xOp o_ix (xVar 2) (xC (PyData.int 1))) aNil)))) (tgTup 5 (tgCons (tgName 5) (tgCons (tgName 6) (tgCons (tgName 7) (tgCons (tgName 8) (tgCons (tgName 6) tgNil)))))))
      (zSeq (zAsg (xFn f_split_by 3 (aCons (xVar 0) (aCons (xFn f_rest_by 3 (aCons (xVar 0) (aCons (xVar 3) (aCons (xOp o_ix (xVar 2) (xC (PyData.int 1))) aNil)))) (aCons (xVar 5) aNil)))) (tgTup 2 (tgCons (tgName 9) (tgCons (tgName 10) tgNil))))
      (zSeq (zIf (yB (xOp (oEq not) (xVar 10) (xC (PyData.int 0)))) (zRet (xC PyData.none)) zNext)
      (zSeq (zAsg (xFn f_rest_by 3 (aCons (xVar 0) (aCons (xFn f_times 3 (aCons (xVar 0) (aCons (xVar 9) (aCons (xVar 8) aNil)))) (aCons (xVar 7) aNil)))) (tgName 9))
      (zRet (xTup (aCons (xFn f_plus 3 (aCons (xVar 0) (aCons (xOp o_ix (xVar 1) (xC (PyData.int 0))) (aCons (xFn f_times 3 (aCons (xVar 0) (aCons (xOp o_ix (xVar 1) (xC (PyData.int 1))) (aCons (xVar 9) aNil)))) aNil)))) (aCons (xFn f_times 3 (aCons (xVar 0) (aCons (xOp o_ix (xVar 1) (xC (PyData.int 1))) (aCons (xVar 7) aNil)))) aNil)))))))))))))
def f_meetN : Nat → List Sl → Tr PyData
  | 0 => fun _ => .fail
  | n + 1 => runF 8 (b_meet (f_meetN n))
def f_meet : List Sl → Tr PyData := f_meetN 2
def l_meet_all_1 : Ss_ :=
      (zSeq (zAsg (xFn f_meet 3 (aCons (xVar 0) (aCons (xVar 2) (aCons (xVar 3) aNil)))) (tgName 2))
      (zIf (yB (xOp (o_isN id) (xVar 2) (xC PyData.none))) (zRet (xC PyData.none)) zNext))
def b_meet_all : Ss_ :=
      (zSeq (zAsg (xC (PyData.tuple [(PyData.int 0), (PyData.int 1)])) (tgName 2))
      (zSeq (zFor (iSeq itL (xVar 1)) (tgName 3) l_meet_all_1)
      (zRet (xVar 2))))
def f_meet_all : List Sl → Tr PyData := runF 2 b_meet_all
def b_numbered_count : Ss_ :=
      (zSeq (zAsg (xVar 1) (tgTup 2 (tgCons (tgName 3) (tgCons (tgName 4) tgNil))))
      (zSeq (zIf (yOr (yB (xOp (oEq id) (xVar 0) (xC (PyData.str "hours")))) (yB (xOp (oEq id) (xVar 4) (xC (PyData.int 0))))) (zRet (xOp o_add (xVar 3) (xOp o_mul (xVar 4) (xVar 2)))) zNext)
      (zSeq (zAsg (xOp o_shl (xVar 2) (xOp o_sub (xBits (xVar 4)) (xC (PyData.int 1)))) (tgName 5))
      (zRet (xOp o_xor (xOp o_xor (xVar 5) (xFn f_rest_by 3 (aCons (xVar 0) (aCons (xVar 5) (aCons (xVar 4) aNil))))) (xVar 3))))))
def f_numbered_count : List Sl → Tr PyData := runF 3 b_numbered_count
def b_met_rests : Ss_ :=
      (zSeq (zDrop (xFn f_check_kind 1 (aCons (xVar 0) aNil)))
      (zSeq (zDrop (xFn f_check_rests 2 (aCons (xVar 0) (aCons (xVar 1) aNil))))
      (zRet (xFn f_meet_all 2 (aCons (xVar 0) (aCons (xVar 1) aNil))))))
def f_met_rests : List Sl → Tr PyData := runF 0 b_met_rests
def l_first_apart_1 : Ss_ :=
      (zIf (yNot (yTru (xFn f_rests_agree 3 (aCons (xVar 0) (aCons (xVar 3) (aCons (xOp o_ix (xVar 1) (xVar 4)) aNil)))))) (zRet (xTup (aCons (xVar 2) (aCons (xVar 4) aNil)))) zNext)
def l_first_apart_2 : Ss_ :=
      (zFor (iCall rng2 (aCons (xOp o_add (xVar 2) (xC (PyData.int 1))) (aCons (xCb o_len (aCons (xVar 1) aNil)) aNil))) (tgName 4) l_first_apart_1)
def b_first_apart : Ss_ :=
      (zSeq (zDrop (xFn f_check_kind 1 (aCons (xVar 0) aNil)))
      (zSeq (zDrop (xFn f_check_rests 2 (aCons (xVar 0) (aCons (xVar 1) aNil))))
      (zSeq (zFor (iCall enu (aCons (xVar 1) aNil)) (tgTup 2 (tgCons (tgName 2) (tgCons (tgName 3) tgNil))) l_first_apart_2)
      (zRet (xC PyData.none)))))
def f_first_apart : List Sl → Tr PyData := runF 3 b_first_apart
def b_is_within : Ss_ :=
      (zSeq (zIf (yB (xOp (oEq id) (xVar 0) (xC (PyData.str "hours")))) (zRet (xChain o_le o_lt (xC (PyData.int 0)) (xVar 1) (xVar 2))) zNext)
      (zRet (xOp o_le (xBits (xVar 1)) (xVar 2))))
def f_is_within : List Sl → Tr PyData := runF 0 b_is_within
def b_how_many_keep : Ss_ :=
      (zSeq (zDrop (xFn f_check_kind 1 (aCons (xVar 0) aNil)))
      (zSeq (zDrop (xFn f_check_rests 2 (aCons (xVar 0) (aCons (xVar 1) aNil))))
      (zSeq (zDrop (xFn f_check_count 1 (aCons (xVar 2) aNil)))
      (zSeq (zAsg (xFn f_meet_all 2 (aCons (xVar 0) (aCons (xVar 1) aNil))) (tgName 3))
      (zSeq (zIf (yOr (yB (xOp (o_isN id) (xVar 3) (xC PyData.none))) (yNot (yTru (xFn f_is_within 3 (aCons (xVar 0) (aCons (xOp o_ix (xVar 3) (xC (PyData.int 0))) (aCons (xVar 2) aNil))))))) (zRet (xC (PyData.int 0))) zNext)
      (zSeq (zAsg (xVar 3) (tgTup 2 (tgCons (tgName 4) (tgCons (tgName 5) tgNil))))
      (zSeq (zIf (yB (xOp (oEq id) (xVar 5) (xC (PyData.int 0)))) (zRet (xC (PyData.int 1))) zNext)
      (zSeq (zIf (yB (xOp (oEq id) (xVar 0) (xC (PyData.str "hours")))) (zRet (xOp o_add (xOp o_div (xOp o_sub (xOp o_sub (xVar 2) (xC (PyData.int 1))) (xVar 4)) (xVar 5)) (xC (PyData.int 1)))) zNext)
      (zRet (xOp o_shl (xC (PyData.int 1)) (xCb o_max (aCons (xC (PyData.int 0)) (aCons (xOp o_sub (xOp o_add (xVar 2) (xC (PyData.int 1))) (xBits (xVar 5))) aNil)))))))))))))
def f_how_many_keep : List Sl → Tr PyData := runF 3 b_how_many_keep
def b_kept_numbered : Ss_ :=
      (zSeq (zDrop (xFn f_check_kind 1 (aCons (xVar 0) aNil)))
      (zSeq (zDrop (xFn f_check_rests 2 (aCons (xVar 0) (aCons (xVar 1) aNil))))
      (zSeq (zDrop (xFn f_check_count 1 (aCons (xVar 2) aNil)))
      (zSeq (zAsg (xFn f_meet_all 2 (aCons (xVar 0) (aCons (xVar 1) aNil))) (tgName 3))
      (zSeq (zIf (yOr (yB (xOp (o_isN id) (xVar 3) (xC PyData.none))) (yAnd (yB (xOp (oEq id) (xOp o_ix (xVar 3) (xC (PyData.int 1))) (xC (PyData.int 0)))) (yOr (yB (xOp o_lt (xOp o_ix (xVar 3) (xC (PyData.int 0))) (xC (PyData.int 0)))) (yB (xOp o_gt (xVar 2) (xC (PyData.int 0))))))) (zRet (xC PyData.none)) zNext)
      (zRet (xFn f_numbered_count 3 (aCons (xVar 0) (aCons (xVar 3) (aCons (xVar 2) aNil))))))))))
def f_kept_numbered : List Sl → Tr PyData := runF 1 b_kept_numbered
def b_thing_fits : Ss_ :=
      (zRet (xAnd (xIsi isTupD (xVar 0)) (xAnd (xOp (oEq id) (xCb o_len (aCons (xVar 0) aNil)) (xC (PyData.int 2))) (xAnd (xFn f_is_whole 1 (aCons (xOp o_ix (xVar 0) (xC (PyData.int 0))) aNil)) (xAnd (xFn f_is_whole 1 (aCons (xOp o_ix (xVar 0) (xC (PyData.int 1))) aNil)) (xOp o_ge (xOp o_ix (xVar 0) (xC (PyData.int 1))) (xC (PyData.int 1))))))))
def f_thing_fits : List Sl → Tr PyData := runF 0 b_thing_fits
def b_check_things : Ss_ :=
      (zIf (yOr (yNot (yTru (xIsi isListD (xVar 0)))) (yNot (yTru (xCb o_all (aCons (xEl (xLc (iSeq itL (xVar 0)) (tgName 1) yYes (xFn f_thing_fits 1 (aCons (xVar 1) aNil)) [1])) aNil))))) zNever zNext)
def f_check_things : List Sl → Tr PyData := runF 1 b_check_things
def b_check_hour : Ss_ :=
      (zIf (yNot (yTru (xFn f_is_whole 1 (aCons (xVar 0) aNil)))) zNever zNext)
def f_check_hour : List Sl → Tr PyData := runF 0 b_check_hour
def b_rests_of : Ss_ :=
      (zRet (xEl (xLc (iSeq itL (xVar 0)) (tgTup 2 (tgCons (tgName 1) (tgCons (tgName 2) tgNil))) yYes (xTup (aCons (xOp o_mod (xVar 1) (xVar 2)) (aCons (xVar 2) aNil))) [1, 2])))
def f_rests_of : List Sl → Tr PyData := runF 2 b_rests_of
def b_striking : Ss_ :=
      (zSeq (zDrop (xFn f_check_things 1 (aCons (xVar 0) aNil)))
      (zSeq (zDrop (xFn f_check_hour 1 (aCons (xVar 1) aNil)))
      (zRet (xEl (xLc (iCall enu (aCons (xVar 0) aNil)) (tgTup 2 (tgCons (tgName 2) (tgCons (tgTup 2 (tgCons (tgName 3) (tgCons (tgName 4) tgNil))) tgNil))) (yB (xOp (oEq id) (xOp o_mod (xOp o_sub (xVar 1) (xVar 3)) (xVar 4)) (xC (PyData.int 0)))) (xVar 2) [2, 3, 4])))))
def f_striking : List Sl → Tr PyData := runF 3 b_striking
def b_together : Ss_ :=
      (zSeq (zDrop (xFn f_check_things 1 (aCons (xVar 0) aNil)))
      (zRet (xFn f_meet_all 2 (aCons (xC (PyData.str "hours")) (aCons (xFn f_rests_of 1 (aCons (xVar 0) aNil)) aNil)))))
def f_together : List Sl → Tr PyData := runF 0 b_together
def b_apart : Ss_ :=
      (zSeq (zDrop (xFn f_check_things 1 (aCons (xVar 0) aNil)))
      (zRet (xFn f_first_apart 2 (aCons (xC (PyData.str "hours")) (aCons (xFn f_rests_of 1 (aCons (xVar 0) aNil)) aNil)))))
def f_apart : List Sl → Tr PyData := runF 0 b_apart
def b_next_together : Ss_ :=
      (zSeq (zDrop (xFn f_check_things 1 (aCons (xVar 0) aNil)))
      (zSeq (zDrop (xFn f_check_hour 1 (aCons (xVar 1) aNil)))
      (zSeq (zAsg (xFn f_meet_all 2 (aCons (xC (PyData.str "hours")) (aCons (xFn f_rests_of 1 (aCons (xVar 0) aNil)) aNil))) (tgName 2))
      (zSeq (zIf (yB (xOp (o_isN id) (xVar 2) (xC PyData.none))) (zRet (xC PyData.none)) zNext)
      (zRet (xOp o_add (xVar 1) (xOp o_mod (xOp o_sub (xOp o_ix (xVar 2) (xC (PyData.int 0))) (xVar 1)) (xOp o_ix (xVar 2) (xC (PyData.int 1))))))))))
def f_next_together : List Sl → Tr PyData := runF 1 b_next_together
def b_join : Ss_ :=
      (zSeq (zAsg (xFn f_common_divisor 3 (aCons (xVar 0) (aCons (xOp o_ix (xVar 1) (xC (PyData.int 1))) (aCons (xOp o_ix (xVar 2) (xC (PyData.int 1))) aNil)))) (tgName 3))
      (zRet (xTup (aCons (xFn f_rest_by 3 (aCons (xVar 0) (aCons (xFn f_plus 3 (aCons (xVar 0) (aCons (xOp o_ix (xVar 1) (xC (PyData.int 0))) (aCons (xOp o_ix (xVar 2) (xC (PyData.int 0))) aNil)))) (aCons (xVar 3) aNil)))) (aCons (xVar 3) aNil)))))
def f_join : List Sl → Tr PyData := runF 1 b_join
def b_shifts : Ss_ :=
      (zSeq (zDrop (xFn f_check_things 1 (aCons (xVar 0) aNil)))
      (zSeq (zDrop (xFn f_check_count 1 (aCons (xVar 1) aNil)))
      (zSeq (zIf (yB (xOp o_ge (xVar 1) (xCb o_len (aCons (xVar 0) aNil)))) zNever zNext)
      (zSeq (zAsg (xFn f_meet_all 2 (aCons (xC (PyData.str "hours")) (aCons (xFn f_rests_of 1 (aCons (xOp o_add (xSl (xVar 0) pNo (pSo (xVar 1))) (xSl (xVar 0) (pSo (xOp o_add (xVar 1) (xC (PyData.int 1)))) pNo)) aNil)) aNil))) (tgName 2))
      (zSeq (zIf (yB (xOp (o_isN id) (xVar 2) (xC PyData.none))) (zRet (xC PyData.none)) zNext)
      (zSeq (zAsg (xOp o_ix (xVar 0) (xVar 1)) (tgTup 2 (tgCons (tgName 3) (tgCons (tgName 4) tgNil))))
      (zRet (xFn f_join 3 (aCons (xC (PyData.str "hours")) (aCons (xVar 2) (aCons (xTup (aCons (xUn o_neg (xVar 3)) (aCons (xVar 4) aNil))) aNil)))))))))))
def f_shifts : List Sl → Tr PyData := runF 3 b_shifts
def b_check_number : Ss_ :=
      (zIf (yNot (yTru (xFn f_is_number 2 (aCons (xVar 0) (aCons (xVar 1) aNil))))) zNever zNext)
def f_check_number : List Sl → Tr PyData := runF 0 b_check_number
def b_check_two : Ss_ :=
      (zSeq (zDrop (xFn f_check_kind 1 (aCons (xVar 0) aNil)))
      (zSeq (zDrop (xFn f_check_number 2 (aCons (xVar 0) (aCons (xVar 1) aNil))))
      (zDrop (xFn f_check_number 2 (aCons (xVar 0) (aCons (xVar 2) aNil))))))
def f_check_two : List Sl → Tr PyData := runF 0 b_check_two
def b_added : Ss_ :=
      (zSeq (zDrop (xFn f_check_two 3 (aCons (xVar 0) (aCons (xVar 1) (aCons (xVar 2) aNil)))))
      (zRet (xFn f_plus 3 (aCons (xVar 0) (aCons (xVar 1) (aCons (xVar 2) aNil))))))
def f_added : List Sl → Tr PyData := runF 0 b_added
def b_less : Ss_ :=
      (zSeq (zDrop (xFn f_check_two 3 (aCons (xVar 0) (aCons (xVar 1) (aCons (xVar 2) aNil)))))
      (zRet (xFn f_minus 3 (aCons (xVar 0) (aCons (xVar 1) (aCons (xVar 2) aNil))))))
def f_less : List Sl → Tr PyData := runF 0 b_less
def b_product : Ss_ :=
      (zSeq (zDrop (xFn f_check_two 3 (aCons (xVar 0) (aCons (xVar 1) (aCons (xVar 2) aNil)))))
      (zRet (xFn f_times 3 (aCons (xVar 0) (aCons (xVar 1) (aCons (xVar 2) aNil))))))
def f_product : List Sl → Tr PyData := runF 0 b_product
def b_quotient : Ss_ :=
      (zSeq (zDrop (xFn f_check_two 3 (aCons (xVar 0) (aCons (xVar 1) (aCons (xVar 2) aNil)))))
      (zSeq (zIf (yB (xOp o_le (xVar 2) (xC (PyData.int 0)))) zNever zNext)
      (zRet (xOp o_ix (xFn f_split_by 3 (aCons (xVar 0) (aCons (xVar 1) (aCons (xVar 2) aNil)))) (xC (PyData.int 0))))))
def f_quotient : List Sl → Tr PyData := runF 0 b_quotient
def b_rest : Ss_ :=
      (zSeq (zDrop (xFn f_check_kind 1 (aCons (xVar 0) aNil)))
      (zSeq (zDrop (xFn f_check_number 2 (aCons (xVar 0) (aCons (xVar 1) aNil))))
      (zSeq (zDrop (xFn f_check_count 1 (aCons (xVar 2) aNil)))
      (zRet (xFn f_rest_by 3 (aCons (xVar 0) (aCons (xVar 1) (aCons (xVar 2) aNil))))))))
def f_rest : List Sl → Tr PyData := runF 0 b_rest
def b_is_multiple : Ss_ :=
      (zSeq (zDrop (xFn f_check_two 3 (aCons (xVar 0) (aCons (xVar 1) (aCons (xVar 2) aNil)))))
      (zRet (xFn f_has_factor 3 (aCons (xVar 0) (aCons (xVar 1) (aCons (xVar 2) aNil))))))
def f_is_multiple : List Sl → Tr PyData := runF 0 b_is_multiple
def b_common_multiple : Ss_ :=
      (zSeq (zIf (yOr (yB (xOp (oEq id) (xVar 1) (xC (PyData.int 0)))) (yB (xOp (oEq id) (xVar 2) (xC (PyData.int 0))))) (zRet (xC (PyData.int 0))) zNext)
      (zSeq (zAsg (xOp o_ix (xFn f_split_by 3 (aCons (xVar 0) (aCons (xVar 2) (aCons (xFn f_common_divisor 3 (aCons (xVar 0) (aCons (xVar 1) (aCons (xVar 2) aNil)))) aNil)))) (xC (PyData.int 0))) (tgName 3))
      (zRet (xCb o_abs (aCons (xFn f_times 3 (aCons (xVar 0) (aCons (xVar 1) (aCons (xVar 3) aNil)))) aNil)))))
def f_common_multiple : List Sl → Tr PyData := runF 1 b_common_multiple
def b_divisor : Ss_ :=
      (zSeq (zDrop (xFn f_check_two 3 (aCons (xVar 0) (aCons (xVar 1) (aCons (xVar 2) aNil)))))
      (zRet (xFn f_common_divisor 3 (aCons (xVar 0) (aCons (xVar 1) (aCons (xVar 2) aNil))))))
def f_divisor : List Sl → Tr PyData := runF 0 b_divisor
def b_multiple : Ss_ :=
      (zSeq (zDrop (xFn f_check_two 3 (aCons (xVar 0) (aCons (xVar 1) (aCons (xVar 2) aNil)))))
      (zRet (xFn f_common_multiple 3 (aCons (xVar 0) (aCons (xVar 1) (aCons (xVar 2) aNil))))))
def f_multiple : List Sl → Tr PyData := runF 0 b_multiple
def b_divisor_paper : Ss_ :=
      (zSeq (zDrop (xFn f_check_two 3 (aCons (xVar 0) (aCons (xVar 1) (aCons (xVar 2) aNil)))))
      (zRet (xFn f_divisor_with_factors 3 (aCons (xVar 0) (aCons (xVar 1) (aCons (xVar 2) aNil))))))
def f_divisor_paper : List Sl → Tr PyData := runF 0 b_divisor_paper
def b_is_divisor_paper : Ss_ :=
      (zSeq (zDrop (xFn f_check_two 3 (aCons (xVar 0) (aCons (xVar 1) (aCons (xVar 2) aNil)))))
      (zSeq (zIf (yOr (yNot (yTru (xIsi isTupD (xVar 3)))) (yB (xOp (oEq not) (xCb o_len (aCons (xVar 3) aNil)) (xC (PyData.int 5))))) (zRet (xC (PyData.bool false))) zNext)
      (zSeq (zIf (yOr (yNot (yTru (xCb o_all (aCons (xEl (xLc (iSeq itT (xVar 3)) (tgName 9) yYes (xFn f_is_number 2 (aCons (xVar 0) (aCons (xVar 9) aNil))) [9])) aNil)))) (yB (xOp o_lt (xOp o_ix (xVar 3) (xC (PyData.int 0))) (xC (PyData.int 0))))) (zRet (xC (PyData.bool false))) zNext)
      (zSeq (zAsg (xVar 3) (tgTup 5 (tgCons (tgName 4) (tgCons (tgName 5) (tgCons (tgName 6) (tgCons (tgName 7) (tgCons (tgName 8) tgNil)))))))
      (zSeq (zIf (yOr (yB (xOp (oEq not) (xFn f_times 3 (aCons (xVar 0) (aCons (xVar 4) (aCons (xVar 5) aNil)))) (xVar 1))) (yB (xOp (oEq not) (xFn f_times 3 (aCons (xVar 0) (aCons (xVar 4) (aCons (xVar 6) aNil)))) (xVar 2)))) (zRet (xC (PyData.bool false))) zNext)
      (zRet (xOp (oEq id) (xFn f_plus 3 (aCons (xVar 0) (aCons (xFn f_times 3 (aCons (xVar 0) (aCons (xVar 1) (aCons (xVar 7) aNil)))) (aCons (xFn f_times 3 (aCons (xVar 0) (aCons (xVar 2) (aCons (xVar 8) aNil)))) aNil)))) (xVar 4))))))))
def f_is_divisor_paper : List Sl → Tr PyData := runF 6 b_is_divisor_paper
def b_check_stretch : Ss_ :=
      (zSeq (zDrop (xFn f_check_things 1 (aCons (xVar 0) aNil)))
      (zSeq (zDrop (xFn f_check_hour 1 (aCons (xVar 1) aNil)))
      (zDrop (xFn f_check_hour 1 (aCons (xVar 2) aNil)))))
def f_check_stretch : List Sl → Tr PyData := runF 0 b_check_stretch
def b_how_many_between : Ss_ :=
      (zSeq (zAsg (xVar 0) (tgTup 2 (tgCons (tgName 3) (tgCons (tgName 4) tgNil))))
      (zRet (xCb o_max (aCons (xC (PyData.int 0)) (aCons (xOp o_sub (xOp o_div (xOp o_sub (xOp o_sub (xVar 2) (xC (PyData.int 1))) (xVar 3)) (xVar 4)) (xOp o_div (xOp o_sub (xOp o_sub (xVar 1) (xC (PyData.int 1))) (xVar 3)) (xVar 4))) aNil)))))
def f_how_many_between : List Sl → Tr PyData := runF 2 b_how_many_between
def l_strike_together_1 : Ss_ :=
      (zSeq (zAsg (xEl (xLc (iSeq itL (xVar 3)) (tgTup 2 (tgCons (tgName 5) (tgCons (tgName 6) tgNil))) yYes (xTup (aCons (xOp o_add (xVar 5) (xC (PyData.int 1))) (aCons (xFn f_meet 3 (aCons (xC (PyData.str "hours")) (aCons (xVar 6) (aCons (xVar 4) aNil)))) aNil))) [5, 6])) (tgName 7))
      (zAsg (xOp o_add (xVar 3) (xEl (xLc (iSeq itL (xVar 7)) (tgTup 2 (tgCons (tgName 5) (tgCons (tgName 6) tgNil))) (yB (xOp (o_isN not) (xVar 6) (xC PyData.none))) (xTup (aCons (xVar 5) (aCons (xVar 6) aNil))) [5, 6]))) (tgName 3)))
def l_strike_together_2 : Ss_ :=
      (zAug (oI0 fun i j => PyData.int (i + j)) 8 (xVar 5) (xFn f_how_many_between 3 (aCons (xVar 6) (aCons (xVar 1) (aCons (xVar 2) aNil)))))
def b_strike_together : Ss_ :=
      (zSeq (zAsg (xEl (xLst (aCons (xTup (aCons (xC (PyData.int 0)) (aCons (xC (PyData.tuple [(PyData.int 0), (PyData.int 1)])) aNil))) aNil))) (tgName 3))
      (zSeq (zFor (iSeq itL (xVar 0)) (tgName 4) l_strike_together_1)
      (zSeq (zAsgOwn (xLc (iCall rng1 (aCons (xOp o_add (xCb o_len (aCons (xVar 0) aNil)) (xC (PyData.int 1))) aNil)) (tgName 9) yYes (xC (PyData.int 0)) [9]) 8)
      (zSeq (zFor (iSeq itL (xVar 3)) (tgTup 2 (tgCons (tgName 5) (tgCons (tgName 6) tgNil))) l_strike_together_2)
      (zFrz 8 (zRet (xVar 8)))))))
def f_strike_together : List Sl → Tr PyData := runF 7 b_strike_together
def l_just_so_many_1 : Ss_ :=
      (zAug o_sub 1 (xVar 3) (xIxOwn 1 (xOp o_add (xVar 3) (xC (PyData.int 1)))))
def l_just_so_many_2 : Ss_ :=
      (zFor (iCall rng3 (aCons (xOp o_sub (xLenOwn 1) (xC (PyData.int 2))) (aCons (xOp o_sub (xVar 2) (xC (PyData.int 1))) (aCons (xUn o_neg (xC (PyData.int 1))) aNil)))) (tgName 3) l_just_so_many_1)
def b_just_so_many : Env → Tr (List PyData) :=
      (zSeqO (zAsgOwn (xList (aCons (xVar 0) aNil)) 1)
      (zSeqO (zFor (iCall rng1 (aCons (xLenOwn 1) aNil)) (tgName 2) l_just_so_many_2)
      (ownAt 1)))
def f_just_so_many : List Sl → Tr (List PyData) := runO 3 b_just_so_many
def b_how_often : Ss_ :=
      (zSeq (zDrop (xFn f_check_stretch 3 (aCons (xVar 0) (aCons (xVar 1) (aCons (xVar 2) aNil)))))
      (zSeq (zAsg (xFn f_meet_all 2 (aCons (xC (PyData.str "hours")) (aCons (xFn f_rests_of 1 (aCons (xVar 0) aNil)) aNil))) (tgName 3))
      (zRet (xIf (yB (xOp (o_isN id) (xVar 3) (xC PyData.none))) (xC (PyData.int 0)) (xFn f_how_many_between 3 (aCons (xVar 3) (aCons (xVar 1) (aCons (xVar 2) aNil))))))))
def f_how_often : List Sl → Tr PyData := runF 1 b_how_often
def b_how_many_strike : Env → Tr (List PyData) :=
      (zSeqO (zDrop (xFn f_check_stretch 3 (aCons (xVar 0) (aCons (xVar 1) (aCons (xVar 2) aNil)))))
      (xFnO f_just_so_many 1 (aCons (xFn f_strike_together 3 (aCons (xFn f_rests_of 1 (aCons (xVar 0) aNil)) (aCons (xVar 1) (aCons (xVar 2) aNil)))) aNil)))
def f_how_many_strike : List Sl → Tr (List PyData) := runO 0 b_how_many_strike
def b_without_lesser : Ss_ :=
      (zRet (xEl (xLc (iSeq itL (xVar 0)) (tgName 1) (yNot (yTru (xCb o_any (aCons (xEl (xLc (iSeq itL (xVar 0)) (tgName 2) (yB (xOp (oEq not) (xVar 2) (xVar 1))) (xOp (oEq id) (xOp o_odd (xVar 1) (xVar 2)) (xVar 1)) [2])) aNil)))) (xVar 1) [1])))
def f_without_lesser : List Sl → Tr PyData := runF 2 b_without_lesser
def l_greatest_bits_1 : Ss_ :=
      (zSeq (zAsg (xCb o_sum (aCons (xEl (xLc (iCall rng1 (aCons (xVar 2) aNil)) (tgName 6) (yTru (xFn f_rests_agree 3 (aCons (xC (PyData.str "hours")) (aCons (xOp o_ix (xVar 0) (xVar 6)) (aCons (xVar 3) aNil))))) (xOp o_shl (xC (PyData.int 1)) (xVar 6)) [6])) aNil)) (tgName 4))
      (zSeq (zAsg (xEl (xSortX (xCo (iSeq itL (xVar 1)) (tgName 7) yYes (eS (xOp o_orb (xOp o_odd (xVar 7) (xVar 4)) (xOp o_shl (xC (PyData.int 1)) (xVar 2)))) [7] []))) (tgName 5))
      (zAsg (xOp o_add (xEl (xLc (iSeq itL (xVar 1)) (tgName 7) (yB (xOp (oEq not) (xOp o_odd (xVar 7) (xVar 4)) (xVar 7))) (xVar 7) [7])) (xFn f_without_lesser 1 (aCons (xVar 5) aNil))) (tgName 1))))
def b_greatest_bits : Ss_ :=
      (zSeq (zAsg (xEl (xLst (aCons (xC (PyData.int 0)) aNil))) (tgName 1))
      (zSeq (zFor (iCall enu (aCons (xVar 0) aNil)) (tgTup 2 (tgCons (tgName 2) (tgCons (tgName 3) tgNil))) l_greatest_bits_1)
      (zRet (xVar 1))))
def f_greatest_bits : List Sl → Tr PyData := runF 7 b_greatest_bits
def b_greatest_of : Ss_ :=
      (zSeq (zAsg (xFn f_greatest_bits 1 (aCons (xFn f_rests_of 1 (aCons (xVar 0) aNil)) aNil)) (tgName 1))
      (zRet (xEl (xSort (aCons (xEl (xLc (iSeq itL (xVar 1)) (tgName 2) yYes (xEl (xLc (iCall rng1 (aCons (xCb o_len (aCons (xVar 0) aNil)) aNil)) (tgName 3) (yB (xOp (oEq id) (xOp o_odd (xOp o_shr (xVar 2) (xVar 3)) (xC (PyData.int 1))) (xC (PyData.int 1)))) (xVar 3) [3])) [2])) aNil)))))
def f_greatest_of : List Sl → Tr PyData := runF 3 b_greatest_of
def b_greatest_lots : Ss_ :=
      (zSeq (zDrop (xFn f_check_things 1 (aCons (xVar 0) aNil)))
      (zRet (xFn f_greatest_of 1 (aCons (xVar 0) aNil))))
def f_greatest_lots : List Sl → Tr PyData := runF 0 b_greatest_lots
def l_strikes_from_1 : Ss_ :=
      (zAug (oI0 fun i j => PyData.int (i + j)) 3 (xVar 6) (xOp o_ix (xOp o_ix (xVar 0) (xVar 6)) (xC (PyData.int 1))))
def t_strikes_from_1 : Ts_ :=
      (yAnd (yTru (xVar 0)) (yB (xOp o_lt (xLenOwn 4) (xVar 2))))
def l_strikes_from_2 : Ss_ :=
      (zSeq (zFrz 3 (zAsg (xCb o_min (aCons (xVar 3) aNil)) (tgName 5)))
      (zSeq (zFrz 3 (zAsg (xEl (xLc (iCall enu (aCons (xVar 3) aNil)) (tgTup 2 (tgCons (tgName 6) (tgCons (tgName 10) tgNil))) (yB (xOp (oEq id) (xVar 10) (xVar 5))) (xVar 6) [6, 10])) (tgName 7)))
      (zSeq (zApp 4 (xTup (aCons (xVar 5) (aCons (xVar 7) aNil))))
      (zFor (iSeq itL (xVar 7)) (tgName 6) l_strikes_from_1))))
def b_strikes_from : Ss_ :=
      (zSeq (zDrop (xFn f_check_things 1 (aCons (xVar 0) aNil)))
      (zSeq (zDrop (xFn f_check_hour 1 (aCons (xVar 1) aNil)))
      (zSeq (zDrop (xFn f_check_count 1 (aCons (xVar 2) aNil)))
      (zSeq (zAsgOwn (xLc (iSeq itL (xVar 0)) (tgTup 2 (tgCons (tgName 8) (tgCons (tgName 9) tgNil))) yYes (xOp o_add (xVar 1) (xOp o_mod (xOp o_sub (xVar 8) (xVar 1)) (xVar 9))) [8, 9]) 3)
      (zSeq (zAsgOwn (xLst aNil) 4)
      (zSeq (zWhile 100000 t_strikes_from_1 l_strikes_from_2)
      (zFrz 4 (zRet (xVar 4)))))))))
def f_strikes_from : List Sl → Tr PyData := runF 8 b_strikes_from
def b_fewest_put_off : Ss_ :=
      (zSeq (zDrop (xFn f_check_things 1 (aCons (xVar 0) aNil)))
      (zSeq (zAsg (xEl (xLc (iSeq itL (xFn f_greatest_of 1 (aCons (xVar 0) aNil))) (tgName 2) yYes (xEl (xLc (iCall rng1 (aCons (xCb o_len (aCons (xVar 0) aNil)) aNil)) (tgName 3) (yB (xOp (o_in not) (xVar 3) (xVar 2))) (xVar 3) [3])) [2])) (tgName 1))
      (zRet (xOp o_ix (xCb o_min (aCons (xEl (xLc (iSeq itL (xVar 1)) (tgName 2) yYes (xTup (aCons (xCb o_len (aCons (xVar 2) aNil)) (aCons (xVar 2) aNil))) [2])) aNil)) (xC (PyData.int 1))))))
def f_fewest_put_off : List Sl → Tr PyData := runF 3 b_fewest_put_off
def b_check_two_rests : Ss_ :=
      (zSeq (zDrop (xFn f_check_kind 1 (aCons (xVar 0) aNil)))
      (zSeq (zIf (yNot (yTru (xFn f_rest_fits 2 (aCons (xVar 0) (aCons (xVar 1) aNil))))) zNever zNext)
      (zIf (yNot (yTru (xFn f_rest_fits 2 (aCons (xVar 0) (aCons (xVar 2) aNil))))) zNever zNext)))
def f_check_two_rests : List Sl → Tr PyData := runF 0 b_check_two_rests
def b_agree : Ss_ :=
      (zSeq (zDrop (xFn f_check_two_rests 3 (aCons (xVar 0) (aCons (xVar 1) (aCons (xVar 2) aNil)))))
      (zRet (xFn f_rests_agree 3 (aCons (xVar 0) (aCons (xVar 1) (aCons (xVar 2) aNil))))))
def f_agree : List Sl → Tr PyData := runF 0 b_agree
def b_met_rest : Ss_ :=
      (zSeq (zDrop (xFn f_check_two_rests 3 (aCons (xVar 0) (aCons (xVar 1) (aCons (xVar 2) aNil)))))
      (zRet (xFn f_meet 3 (aCons (xVar 0) (aCons (xVar 1) (aCons (xVar 2) aNil))))))
def f_met_rest : List Sl → Tr PyData := runF 0 b_met_rest
def b_is_ascending : Ss_ :=
      (zRet (xCb o_all (aCons (xEl (xLc (iCall rng2 (aCons (xC (PyData.int 1)) (aCons (xCb o_len (aCons (xVar 0) aNil)) aNil))) (tgName 1) yYes (xOp o_lt (xOp o_ix (xVar 0) (xOp o_sub (xVar 1) (xC (PyData.int 1)))) (xOp o_ix (xVar 0) (xVar 1))) [1])) aNil)))
def f_is_ascending : List Sl → Tr PyData := runF 1 b_is_ascending
def b_is_name : Ss_ :=
      (zSeq (zIf (yNot (yTru (xIsi isStrD (xVar 0)))) (zRet (xC (PyData.bool false))) zNext)
      (zSeq (zAsg (xM1 o_rstrip (xVar 0) (xC (PyData.str "0123456789"))) (tgName 1))
      (zSeq (zAsg (xSl (xVar 0) (pSo (xCb o_len (aCons (xVar 1) aNil))) pNo) (tgName 2))
      (zSeq (zIf (yOr (yNot (yB (xChain o_le o_le (xC (PyData.int 1)) (xCb o_len (aCons (xVar 1) aNil)) (xC (PyData.int 6))))) (yNot (yTru (xCb o_all (aCons (xEl (xLc (iSeq itS (xVar 1)) (tgName 3) yYes (xOp (o_in id) (xVar 3) (xC (PyData.str "abcdefghijklmnopqrstuvwxyz"))) [3])) aNil))))) (zRet (xC (PyData.bool false))) zNext)
      (zRet (xAnd (xOp o_le (xCb o_len (aCons (xVar 2) aNil)) (xC (PyData.int 3))) (xOr (xOp (oEq id) (xVar 2) (xC (PyData.str "0"))) (xNot (xM1 o_starts (xVar 2) (xC (PyData.str "0")))))))))))
def f_is_name : List Sl → Tr PyData := runF 3 b_is_name
def b_line_fits : Ss_ :=
      (zSeq (zIf (yOr (yNot (yTru (xIsi isTupD (xVar 1)))) (yB (xOp (oEq not) (xCb o_len (aCons (xVar 1) aNil)) (xC (PyData.int 4))))) (zRet (xC (PyData.bool false))) zNext)
      (zSeq (zAsg (xVar 1) (tgTup 4 (tgCons (tgName 2) (tgCons (tgName 3) (tgCons (tgName 4) (tgCons (tgName 5) tgNil))))))
      (zRet (xAnd (xFn f_is_name 1 (aCons (xVar 2) aNil)) (xAnd (xFn f_is_name 1 (aCons (xVar 3) aNil)) (xAnd (xOp (oEq not) (xVar 2) (xVar 3)) (xFn f_may_tell 3 (aCons (xVar 0) (aCons (xVar 4) (aCons (xVar 5) aNil))))))))))
def f_line_fits : List Sl → Tr PyData := runF 4 b_line_fits
def b_lines_fit : Ss_ :=
      (zRet (xAnd (xIsi isListD (xVar 1)) (xCb o_all (aCons (xEl (xLc (iSeq itL (xVar 1)) (tgName 2) yYes (xFn f_line_fits 2 (aCons (xVar 0) (aCons (xVar 2) aNil))) [2])) aNil))))
def f_lines_fit : List Sl → Tr PyData := runF 1 b_lines_fit
def b_names_fit : Ss_ :=
      (zRet (xAnd (xIsi isListD (xVar 0)) (xAnd (xCb o_all (aCons (xEl (xLc (iSeq itL (xVar 0)) (tgName 1) yYes (xFn f_is_name 1 (aCons (xVar 1) aNil)) [1])) aNil)) (xFn f_is_ascending 1 (aCons (xVar 0) aNil)))))
def f_names_fit : List Sl → Tr PyData := runF 1 b_names_fit
def b_number_told : Ss_ :=
      (zRet (xAnd (xIsi isTupD (xVar 1)) (xAnd (xOp (oEq id) (xCb o_len (aCons (xVar 1) aNil)) (xC (PyData.int 2))) (xAnd (xFn f_is_name 1 (aCons (xOp o_ix (xVar 1) (xC (PyData.int 0))) aNil)) (xFn f_is_number 2 (aCons (xVar 0) (aCons (xOp o_ix (xVar 1) (xC (PyData.int 1))) aNil)))))))
def f_number_told : List Sl → Tr PyData := runF 0 b_number_told
def b_numbers_fit : Ss_ :=
      (zSeq (zIf (yOr (yNot (yTru (xIsi isListD (xVar 1)))) (yNot (yTru (xCb o_all (aCons (xEl (xLc (iSeq itL (xVar 1)) (tgName 2) yYes (xFn f_number_told 2 (aCons (xVar 0) (aCons (xVar 2) aNil))) [2])) aNil))))) (zRet (xC (PyData.bool false))) zNext)
      (zRet (xFn f_is_ascending 1 (aCons (xEl (xLc (iSeq itL (xVar 1)) (tgName 2) yYes (xOp o_ix (xVar 2) (xC (PyData.int 0))) [2])) aNil))))
def f_numbers_fit : List Sl → Tr PyData := runF 1 b_numbers_fit
def b_numbers_of : Ss_ :=
      (zRet (xAnd (xFn f_numbers_fit 2 (aCons (xVar 0) (aCons (xVar 2) aNil))) (xOp (oEq id) (xEl (xLc (iSeq itL (xVar 2)) (tgName 3) yYes (xOp o_ix (xVar 3) (xC (PyData.int 0))) [3])) (xVar 1))))
def f_numbers_of : List Sl → Tr PyData := runF 1 b_numbers_of
def b_is_line : Ss_ :=
      (zSeq (zDrop (xFn f_check_kind 1 (aCons (xVar 0) aNil)))
      (zRet (xFn f_line_fits 2 (aCons (xVar 0) (aCons (xVar 1) aNil)))))
def f_is_line : List Sl → Tr PyData := runF 0 b_is_line
def b_are_lines : Ss_ :=
      (zSeq (zDrop (xFn f_check_kind 1 (aCons (xVar 0) aNil)))
      (zRet (xFn f_lines_fit 2 (aCons (xVar 0) (aCons (xVar 1) aNil)))))
def f_are_lines : List Sl → Tr PyData := runF 0 b_are_lines
def b_is_book : Ss_ :=
      (zSeq (zIf (yOr (yNot (yTru (xIsi isTupD (xVar 0)))) (yB (xOp (oEq not) (xCb o_len (aCons (xVar 0) aNil)) (xC (PyData.int 2))))) (zRet (xC (PyData.bool false))) zNext)
      (zRet (xAnd (xFn f_is_kind 1 (aCons (xOp o_ix (xVar 0) (xC (PyData.int 0))) aNil)) (xFn f_lines_fit 2 (aCons (xOp o_ix (xVar 0) (xC (PyData.int 0))) (aCons (xOp o_ix (xVar 0) (xC (PyData.int 1))) aNil))))))
def f_is_book : List Sl → Tr PyData := runF 0 b_is_book
def b_check_names : Ss_ :=
      (zIf (yNot (yTru (xFn f_names_fit 1 (aCons (xVar 0) aNil)))) zNever zNext)
def f_check_names : List Sl → Tr PyData := runF 0 b_check_names
def b_are_numbers : Ss_ :=
      (zSeq (zDrop (xFn f_check_kind 1 (aCons (xVar 0) aNil)))
      (zSeq (zDrop (xFn f_check_names 1 (aCons (xVar 1) aNil)))
      (zRet (xFn f_numbers_of 3 (aCons (xVar 0) (aCons (xVar 1) (aCons (xVar 2) aNil)))))))
def f_are_numbers : List Sl → Tr PyData := runF 0 b_are_numbers
def b_check_book : Ss_ :=
      (zIf (yNot (yTru (xFn f_is_book 1 (aCons (xVar 0) aNil)))) zNever zNext)
def f_check_book : List Sl → Tr PyData := runF 0 b_check_book
def b_names_in : Env → Tr (List PyData) :=
      (xSortX (xCo (iSeq itL (xVar 0)) (tgName 1) yYes (cI (iSeq itT (xSl (xVar 1) pNo (pSo (xC (PyData.int 2))))) (tgName 2) yYes (eS (xVar 2)) [2]) [1, 2] []))
def f_names_in : List Sl → Tr (List PyData) := runO 2 b_names_in
def b_unknowns : Env → Tr (List PyData) :=
      (zSeqO (zDrop (xFn f_check_book 1 (aCons (xVar 0) aNil)))
      (xFnO f_names_in 1 (aCons (xOp o_ix (xVar 0) (xC (PyData.int 1))) aNil)))
def f_unknowns : List Sl → Tr (List PyData) := runO 0 b_unknowns
def b_check_name : Ss_ :=
      (zIf (yNot (yTru (xFn f_is_name 1 (aCons (xVar 0) aNil)))) zNever zNext)
def f_check_name : List Sl → Tr PyData := runF 0 b_check_name
def b_check_two_names : Ss_ :=
      (zSeq (zDrop (xFn f_check_name 1 (aCons (xVar 0) aNil)))
      (zSeq (zDrop (xFn f_check_name 1 (aCons (xVar 1) aNil)))
      (zIf (yB (xOp (oEq id) (xVar 0) (xVar 1))) zNever zNext)))
def f_check_two_names : List Sl → Tr PyData := runF 0 b_check_two_names
def b_check_line : Ss_ :=
      (zIf (yNot (yTru (xFn f_line_fits 2 (aCons (xVar 0) (aCons (xVar 1) aNil))))) zNever zNext)
def f_check_line : List Sl → Tr PyData := runF 0 b_check_line
def b_check_numbers : Ss_ :=
      (zSeq (zIf (yNot (yTru (xFn f_numbers_fit 2 (aCons (xVar 0) (aCons (xVar 1) aNil))))) zNever zNext)
      (zSeq (zAsg (xCb o_dict (aCons (xVar 1) aNil)) (tgName 3))
      (zIf (yNot (yTru (xCb o_all (aCons (xEl (xLc (iSeq itL (xVar 2)) (tgName 4) yYes (xOp (o_in id) (xVar 4) (xVar 3)) [4])) aNil)))) zNever zNext)))
def f_check_numbers : List Sl → Tr PyData := runF 2 b_check_numbers
def b_line_kept : Ss_ :=
      (zSeq (zAsg (xVar 1) (tgTup 4 (tgCons (tgName 3) (tgCons (tgName 4) (tgCons (tgName 5) (tgCons (tgName 6) tgNil))))))
      (zRet (xFn f_has_factor 3 (aCons (xVar 0) (aCons (xFn f_minus 3 (aCons (xVar 0) (aCons (xOp o_ix (xVar 2) (xVar 4)) (aCons (xFn f_plus 3 (aCons (xVar 0) (aCons (xVar 5) (aCons (xOp o_ix (xVar 2) (xVar 3)) aNil)))) aNil)))) (aCons (xVar 6) aNil))))))
def f_line_kept : List Sl → Tr PyData := runF 4 b_line_kept
def b_lines_unkept : Ss_ :=
      (zSeq (zAsg (xCb o_dict (aCons (xVar 2) aNil)) (tgName 3))
      (zRet (xEl (xLc (iCall enu (aCons (xVar 1) aNil)) (tgTup 2 (tgCons (tgName 4) (tgCons (tgName 5) tgNil))) (yNot (yTru (xFn f_line_kept 3 (aCons (xVar 0) (aCons (xVar 5) (aCons (xVar 3) aNil)))))) (xVar 4) [4, 5]))))
def f_lines_unkept : List Sl → Tr PyData := runF 3 b_lines_unkept
def b_keeps : Ss_ :=
      (zSeq (zDrop (xFn f_check_kind 1 (aCons (xVar 0) aNil)))
      (zSeq (zDrop (xFn f_check_line 2 (aCons (xVar 0) (aCons (xVar 1) aNil))))
      (zSeq (zDrop (xFn f_check_numbers 3 (aCons (xVar 0) (aCons (xVar 2) (aCons (xCb o_list (aCons (xSl (xVar 1) pNo (pSo (xC (PyData.int 2)))) aNil)) aNil)))))
      (zRet (xFn f_line_kept 3 (aCons (xVar 0) (aCons (xVar 1) (aCons (xCb o_dict (aCons (xVar 2) aNil)) aNil))))))))
def f_keeps : List Sl → Tr PyData := runF 0 b_keeps
def b_unkept : Ss_ :=
      (zSeq (zDrop (xFn f_check_book 1 (aCons (xVar 0) aNil)))
      (zSeq (zDrop (xFn f_check_numbers 3 (aCons (xOp o_ix (xVar 0) (xC (PyData.int 0))) (aCons (xVar 1) (aCons (xEl (xFnO f_names_in 1 (aCons (xOp o_ix (xVar 0) (xC (PyData.int 1))) aNil))) aNil)))))
      (zRet (xFn f_lines_unkept 3 (aCons (xOp o_ix (xVar 0) (xC (PyData.int 0))) (aCons (xOp o_ix (xVar 0) (xC (PyData.int 1))) (aCons (xVar 1) aNil)))))))
def f_unkept : List Sl → Tr PyData := runF 0 b_unkept
def b_is_keeping : Ss_ :=
      (zSeq (zDrop (xFn f_check_book 1 (aCons (xVar 0) aNil)))
      (zSeq (zAsg (xVar 0) (tgTup 2 (tgCons (tgName 2) (tgCons (tgName 3) tgNil))))
      (zRet (xAnd (xFn f_numbers_of 3 (aCons (xVar 2) (aCons (xEl (xFnO f_names_in 1 (aCons (xVar 3) aNil))) (aCons (xVar 1) aNil)))) (xNot (xFn f_lines_unkept 3 (aCons (xVar 2) (aCons (xVar 3) (aCons (xVar 1) aNil)))))))))
def f_is_keeping : List Sl → Tr PyData := runF 2 b_is_keeping
def b_moved : Ss_ :=
      (zSeq (zDrop (xFn f_check_kind 1 (aCons (xVar 0) aNil)))
      (zSeq (zDrop (xFn f_check_numbers 3 (aCons (xVar 0) (aCons (xVar 1) (aCons (xEl (xLst aNil)) aNil)))))
      (zSeq (zDrop (xFn f_check_number 2 (aCons (xVar 0) (aCons (xVar 2) aNil))))
      (zRet (xEl (xLc (iSeq itL (xVar 1)) (tgTup 2 (tgCons (tgName 3) (tgCons (tgName 4) tgNil))) yYes (xTup (aCons (xVar 3) (aCons (xFn f_plus 3 (aCons (xVar 0) (aCons (xVar 4) (aCons (xVar 2) aNil)))) aNil))) [3, 4]))))))
def f_moved : List Sl → Tr PyData := runF 2 b_moved
def b_plain_line : Ss_ :=
      (zSeq (zDrop (xFn f_check_kind 1 (aCons (xVar 0) aNil)))
      (zSeq (zDrop (xFn f_check_two_names 2 (aCons (xVar 1) (aCons (xVar 2) aNil))))
      (zSeq (zDrop (xFn f_check_number 2 (aCons (xVar 0) (aCons (xVar 3) aNil))))
      (zSeq (zDrop (xFn f_check_count 1 (aCons (xVar 4) aNil)))
      (zRet (xTup (aCons (xVar 1) (aCons (xVar 2) (aCons (xFn f_rest_by 3 (aCons (xVar 0) (aCons (xVar 3) (aCons (xVar 4) aNil)))) (aCons (xVar 4) aNil))))))))))
def f_plain_line : List Sl → Tr PyData := runF 0 b_plain_line
def b_check_two_lines : Ss_ :=
      (zSeq (zDrop (xFn f_check_kind 1 (aCons (xVar 0) aNil)))
      (zSeq (zDrop (xFn f_check_line 2 (aCons (xVar 0) (aCons (xVar 1) aNil))))
      (zDrop (xFn f_check_line 2 (aCons (xVar 0) (aCons (xVar 2) aNil))))))
def f_check_two_lines : List Sl → Tr PyData := runF 0 b_check_two_lines
def b_turn : Ss_ :=
      (zRet (xTup (aCons (xFn f_rest_by 3 (aCons (xVar 0) (aCons (xFn f_minus 3 (aCons (xVar 0) (aCons (xC (PyData.int 0)) (aCons (xOp o_ix (xVar 1) (xC (PyData.int 0))) aNil)))) (aCons (xOp o_ix (xVar 1) (xC (PyData.int 1))) aNil)))) (aCons (xOp o_ix (xVar 1) (xC (PyData.int 1))) aNil))))
def f_turn : List Sl → Tr PyData := runF 0 b_turn
def b_turned_line : Ss_ :=
      (zSeq (zDrop (xFn f_check_kind 1 (aCons (xVar 0) aNil)))
      (zSeq (zDrop (xFn f_check_line 2 (aCons (xVar 0) (aCons (xVar 1) aNil))))
      (zRet (xTup (aCons (xOp o_ix (xVar 1) (xC (PyData.int 1))) (aCons (xOp o_ix (xVar 1) (xC (PyData.int 0))) (aStar (xFn f_turn 2 (aCons (xVar 0) (aCons (xSl (xVar 1) (pSo (xC (PyData.int 2))) pNo) aNil))) aNil)))))))
def f_turned_line : List Sl → Tr PyData := runF 0 b_turned_line
def b_joined_line : Ss_ :=
      (zSeq (zDrop (xFn f_check_two_lines 3 (aCons (xVar 0) (aCons (xVar 1) (aCons (xVar 2) aNil)))))
      (zSeq (zIf (yOr (yB (xOp (oEq not) (xOp o_ix (xVar 2) (xC (PyData.int 0))) (xOp o_ix (xVar 1) (xC (PyData.int 1))))) (yB (xOp (oEq id) (xOp o_ix (xVar 2) (xC (PyData.int 1))) (xOp o_ix (xVar 1) (xC (PyData.int 0)))))) zNever zNext)
      (zRet (xTup (aCons (xOp o_ix (xVar 1) (xC (PyData.int 0))) (aCons (xOp o_ix (xVar 2) (xC (PyData.int 1))) (aStar (xFn f_join 3 (aCons (xVar 0) (aCons (xSl (xVar 1) (pSo (xC (PyData.int 2))) pNo) (aCons (xSl (xVar 2) (pSo (xC (PyData.int 2))) pNo) aNil)))) aNil)))))))
def f_joined_line : List Sl → Tr PyData := runF 0 b_joined_line
def b_told_between : Ss_ :=
      (zSeq (zIf (yB (xOp (oEq id) (xSl (xVar 1) pNo (pSo (xC (PyData.int 2)))) (xTup (aCons (xVar 2) (aCons (xVar 3) aNil))))) (zRet (xSl (xVar 1) (pSo (xC (PyData.int 2))) pNo)) zNext)
      (zSeq (zIf (yB (xOp (oEq id) (xSl (xVar 1) pNo (pSo (xC (PyData.int 2)))) (xTup (aCons (xVar 3) (aCons (xVar 2) aNil))))) (zRet (xFn f_turn 2 (aCons (xVar 0) (aCons (xSl (xVar 1) (pSo (xC (PyData.int 2))) pNo) aNil)))) zNext)
      (zRet (xC PyData.none))))
def f_told_between : List Sl → Tr PyData := runF 0 b_told_between
def b_met_line : Ss_ :=
      (zSeq (zDrop (xFn f_check_two_lines 3 (aCons (xVar 0) (aCons (xVar 1) (aCons (xVar 2) aNil)))))
      (zSeq (zAsg (xFn f_told_between 4 (aCons (xVar 0) (aCons (xVar 2) (aCons (xOp o_ix (xVar 1) (xC (PyData.int 0))) (aCons (xOp o_ix (xVar 1) (xC (PyData.int 1))) aNil))))) (tgName 3))
      (zSeq (zIf (yB (xOp (o_isN id) (xVar 3) (xC PyData.none))) zNever zNext)
      (zSeq (zAsg (xFn f_meet 3 (aCons (xVar 0) (aCons (xSl (xVar 1) (pSo (xC (PyData.int 2))) pNo) (aCons (xVar 3) aNil)))) (tgName 4))
      (zSeq (zIf (yB (xOp (o_isN id) (xVar 4) (xC PyData.none))) (zRet (xC PyData.none)) zNext)
      (zRet (xTup (aCons (xOp o_ix (xVar 1) (xC (PyData.int 0))) (aCons (xOp o_ix (xVar 1) (xC (PyData.int 1))) (aStar (xVar 4) aNil))))))))))
def f_met_line : List Sl → Tr PyData := runF 2 b_met_line
def b_is_weaker : Ss_ :=
      (zSeq (zDrop (xFn f_check_two_lines 3 (aCons (xVar 0) (aCons (xVar 1) (aCons (xVar 2) aNil)))))
      (zSeq (zIf (yB (xOp (oEq id) (xOp o_ix (xVar 2) (xC (PyData.int 3))) (xC (PyData.int 1)))) (zRet (xC (PyData.bool true))) zNext)
      (zSeq (zAsg (xFn f_told_between 4 (aCons (xVar 0) (aCons (xVar 2) (aCons (xOp o_ix (xVar 1) (xC (PyData.int 0))) (aCons (xOp o_ix (xVar 1) (xC (PyData.int 1))) aNil))))) (tgName 3))
      (zRet (xAnd (xOp (o_isN not) (xVar 3) (xC PyData.none)) (xAnd (xFn f_has_factor 3 (aCons (xVar 0) (aCons (xOp o_ix (xVar 1) (xC (PyData.int 3))) (aCons (xOp o_ix (xVar 3) (xC (PyData.int 1))) aNil)))) (xFn f_rests_agree 3 (aCons (xVar 0) (aCons (xSl (xVar 1) (pSo (xC (PyData.int 2))) pNo) (aCons (xVar 3) aNil))))))))))
def f_is_weaker : List Sl → Tr PyData := runF 1 b_is_weaker
end Hr
end
namespace Hr
open PySem PySem.Spec PyProof.Rows L2 Evl
theorem lcm_val {k : Kd} {a b : Int} (oa : Ok k a) (ob : Ok k b) (ha : a ≠ 0) (hb : b ≠ 0) : ((timesM k a (quoM k b (gcdM k a b))).natAbs : Int) = lcmM k a b := by
  have hg : 0 < gN k a.natAbs b.natAbs := by
    rcases Nat.eq_zero_or_pos (gN k a.natAbs b.natAbs) with z | z
    · have := ((gmN k).g_zero z).1; omega
    · exact z
  rw [times_abs oa ok_quo]
  show ((mulN k a.natAbs (quoM k b (gcdM k a b)).natAbs : Nat) : Int) = ((lN k a.natAbs b.natAbs : Nat) : Int)
  congr 1
  apply (gmN k).cancel _ _ _ hg
  rw [(lmN k).prod]
  obtain ⟨c, hc⟩ := (gmN k).gr a.natAbs b.natAbs
  have e : (quoM k b (gcdM k a b)).natAbs = c := by
    cases k
    · have d : gcdM .H a b ∣ b := Int.ofNat_dvd_left.mpr (Nat.gcd_dvd_right _ _)
      obtain ⟨u, hu⟩ := d
      have hz : gcdM .H a b ≠ 0 := by show ((Nat.gcd a.natAbs b.natAbs : Nat) : Int) ≠ 0; have : 0 < Nat.gcd a.natAbs b.natAbs := hg; omega
      have e1 : quoM .H b (gcdM .H a b) = u := by
        conv => lhs; arg 2; rw [hu]
        exact Int.mul_fdiv_cancel_left u hz
      rw [e1]
      have e2 : b.natAbs = Nat.gcd a.natAbs b.natAbs * u.natAbs := by
        conv => lhs; rw [hu]
        rw [Int.natAbs_mul]; rfl
      exact Nat.eq_of_mul_eq_mul_left hg (e2.symm.trans hc)
    · obtain ⟨n, rfl⟩ := oa.nn
      obtain ⟨m, rfl⟩ := ob.nn
      have hg' : 0 < Gf.gcd n m := hg
      have hc' : m = Gf.mul (Gf.gcd n m) c := hc
      show Gf.quo m (Gf.gcd n m) = c
      conv => lhs; arg 1; rw [hc']
      exact (Gf.quo_mul hg').1
  rw [e, ← (gmN k).assoc, (gmN k).comm (gN k a.natAbs b.natAbs) a.natAbs, (gmN k).assoc, ← hc]
theorem sz_gcd {k : Kd} {a b : Int} : a ≠ 0 ∨ b ≠ 0 → sz (gcdM k a b) ≤ max (sz a) (sz b) := by
  intro h
  have mono : ∀ {d n : Nat}, 0 < n → GM.D (mulN k) d n → Gf.bl d ≤ Gf.bl n := by
    intro d n hn hd
    cases k
    · exact Gf.bl_le.mpr (Nat.lt_of_le_of_lt (Nat.le_of_dvd hn hd) (Gf.bl_le.mp (Nat.le_refl _)))
    · exact Gf.Dv.le hn hd
  show Gf.bl (gN k a.natAbs b.natAbs) ≤ max (Gf.bl a.natAbs) (Gf.bl b.natAbs)
  rcases h with h | h
  · have := mono (by omega) ((gmN k).gl a.natAbs b.natAbs); omega
  · have := mono (by omega) ((gmN k).gr a.natAbs b.natAbs); omega
theorem gcd_pos {k : Kd} {a b : Int} : a ≠ 0 ∨ b ≠ 0 → 0 < gcdM k a b := by
  intro h
  show (0 : Int) < ((gN k a.natAbs b.natAbs : Nat) : Int)
  rcases Nat.eq_zero_or_pos (gN k a.natAbs b.natAbs) with z | z
  · have := (gmN k).g_zero z; omega
  · omega
theorem sz_lcm {k : Kd} {a b : Int} (oa : Ok k a) (ob : Ok k b) : sz (lcmM k a b) ≤ sz a + sz b := by
  by_cases ha : a = 0
  · show Gf.bl (lN k a.natAbs b.natAbs) ≤ _
    rw [(lmN k).none _ _ (.inl (by omega)), Gf.bl_zero]; omega
  · by_cases hb : b = 0
    · show Gf.bl (lN k a.natAbs b.natAbs) ≤ _
      rw [(lmN k).none _ _ (.inr (by omega)), Gf.bl_zero]; omega
    · rw [← lcm_val oa ob ha hb]
      have h1 := sz_times oa (ok_quo (k := k) (a := b) (b := gcdM k a b))
      have h2 := sz_quo (k := k) ob (gcd_pos (k := k) (a := a) (b := b) (.inl ha))
      show sz (timesM k a (quoM k b (gcdM k a b))) ≤ _
      omega
theorem times_one {k : Kd} {a : Int} (oa : Ok k a) : timesM k a 1 = a := by
  cases k
  · exact Int.mul_one a
  · obtain ⟨n, rfl⟩ := oa.nn
    show ((Gf.mul n 1 : Nat) : Int) = n; rw [Gf.mul_one]
theorem times_zero {k : Kd} {a : Int} (oa : Ok k a) : timesM k a 0 = 0 := by
  cases k
  · exact Int.mul_zero a
  · obtain ⟨n, rfl⟩ := oa.nn
    show ((Gf.mul n 0 : Nat) : Int) = 0; rw [Gf.mul_zero]; rfl
theorem plus_zero {k : Kd} {a : Int} (oa : Ok k a) : plusM k a 0 = a := by
  cases k
  · exact Int.add_zero a
  · obtain ⟨n, rfl⟩ := oa.nn
    show ((n ^^^ 0 : Nat) : Int) = n; rw [Nat.xor_zero]
theorem zero_plus {k : Kd} {a : Int} (oa : Ok k a) : plusM k 0 a = a := by rw [plus_comm]; exact plus_zero oa
theorem minus_zero {k : Kd} {a : Int} (oa : Ok k a) : minusM k a 0 = a := by
  cases k
  · exact Int.sub_zero a
  · obtain ⟨n, rfl⟩ := oa.nn
    show ((n ^^^ 0 : Nat) : Int) = n; rw [Nat.xor_zero]
theorem ok0 (k : Kd) : Ok k 0 := Ok.of_le (by decide)
theorem ok1 (k : Kd) : Ok k 1 := Ok.of_le (by decide)
theorem settled_lt {k : Kd} {f l : Int} (of : Ok k f) (ol : Ok k l) (h : Settled k f l) : l.natAbs < f.natAbs := by
  cases k
  · rcases h with ⟨h1, h2, h3⟩ | ⟨h1, h2, h3⟩ <;> omega
  · have h' : Gf.bl l.natAbs < Gf.bl f.natAbs := h
    rcases Nat.lt_or_ge l.natAbs f.natAbs with z | z
    · exact z
    · have := Gf.bl_le.mpr (Nat.lt_of_le_of_lt z (Gf.bl_le.mp (Nat.le_refl (Gf.bl l.natAbs)))); omega
theorem gcd_left {k : Kd} {a b : Int} (oa : Ok k a) (ob : Ok k b) : ∃ u, Ok k u ∧ a = timesM k (gcdM k a b) u := by
  cases k
  · obtain ⟨u, hu⟩ : gcdM .H a b ∣ a := Int.ofNat_dvd_left.mpr (Nat.gcd_dvd_left _ _)
    exact ⟨u, trivial, hu⟩
  · obtain ⟨n, rfl⟩ := oa.nn
    obtain ⟨m, rfl⟩ := ob.nn
    obtain ⟨u, hu⟩ := (Gf.gcd_dv n m).1
    exact ⟨u, Int.natCast_nonneg u, by show (n : Int) = ((Gf.mul (Gf.gcd n m) u : Nat) : Int); rw [← hu]⟩
theorem gcd_swap {k : Kd} (a b : Int) : gcdM k a b = gcdM k b a := by
  show ((gN k a.natAbs b.natAbs : Nat) : Int) = ((gN k b.natAbs a.natAbs : Nat) : Int)
  rw [(gmN k).g_comm]
theorem gcd_right {k : Kd} {a b : Int} (oa : Ok k a) (ob : Ok k b) : ∃ u, Ok k u ∧ b = timesM k (gcdM k a b) u := by
  rw [gcd_swap]; exact gcd_left ob oa
/-- what is left of a sum -/
theorem plus_left {k : Kd} {a b c : Int} (oa : Ok k a) (ob : Ok k b) (h : plusM k a b = c) : minusM k c a = b := by
  subst h
  cases k
  · show a + b - a = b; omega
  · obtain ⟨n, rfl⟩ := oa.nn
    obtain ⟨m, rfl⟩ := ob.nn
    show ((n ^^^ m ^^^ n : Nat) : Int) = (m : Int)
    congr 1
    have : n ^^^ m ^^^ n = (n ^^^ n) ^^^ m := by ac_rfl
    rw [this, Nat.xor_self, Nat.zero_xor]
/-- a divisor told by its factors -/
structure Pap (k : Kd) (a b c p q x y : Int) : Prop where
  val : c = gcdM k a b
  ok : Ok k p ∧ Ok k q ∧ Ok k x ∧ Ok k y
  lo : timesM k c p = a
  hi : timesM k c q = b
  sum : plusM k (timesM k a x) (timesM k b y) = c
  size : sz p ≤ sz a ∧ sz q ≤ sz b ∧ sz x ≤ 6 * sz b + 3
/-! ### rests: the mathematics -/
abbrev Mu (k : Kd) (d z : Int) : Prop := remM k z d = 0
theorem mu_iff {k : Kd} {z d : Int} (oz : Ok k z) (od : Ok k d) : Mu k d z ↔ GM.D (mulN k) d.natAbs z.natAbs := by
  cases k
  · exact remH_zero.trans Int.natAbs_dvd_natAbs.symm
  · obtain ⟨n, rfl⟩ := oz.nn
    obtain ⟨m, rfl⟩ := od.nn
    show ((Gf.rem n m : Nat) : Int) = 0 ↔ Gf.Dv m n
    rw [← Gf.dv_rem]; omega
theorem mu_minus {k : Kd} {u v d : Int} (ou : Ok k u) (ov : Ok k v) (od : Ok k d) (h1 : Mu k d u) (h2 : Mu k d v) : Mu k d (minusM k u v) := by
  cases k
  · exact remH_zero.mpr (Int.dvd_sub (remH_zero.mp h1) (remH_zero.mp h2))
  · obtain ⟨n, rfl⟩ := ou.nn
    obtain ⟨m, rfl⟩ := ov.nn
    have a1 := (mu_iff (k := .B) (Int.natCast_nonneg n) od).mp h1
    have a2 := (mu_iff (k := .B) (Int.natCast_nonneg m) od).mp h2
    refine (mu_iff (k := .B) (Int.natCast_nonneg _) od).mpr ?_
    exact Gf.Dv.xor a1 a2
theorem mu_back {k : Kd} {u v d : Int} (ou : Ok k u) (ov : Ok k v) (od : Ok k d) (h1 : Mu k d (minusM k u v)) (h2 : Mu k d v) : Mu k d u := by
  cases k
  · have a1 : d ∣ u - v := remH_zero.mp h1
    have a2 := remH_zero.mp h2
    refine remH_zero.mpr ?_
    have := Int.dvd_add a1 a2
    rwa [show u - v + v = u by omega] at this
  · have h := mu_minus (k := .B) (ok_minus ou ov) ov od h1 h2
    obtain ⟨n, rfl⟩ := ou.nn
    obtain ⟨m, rfl⟩ := ov.nn
    have e : minusM .B (minusM .B (n : Int) (m : Int)) (m : Int) = (n : Int) := by
      show ((n ^^^ m ^^^ m : Nat) : Int) = n
      rw [Nat.xor_assoc, Nat.xor_self, Nat.xor_zero]
    rw [e] at h; exact h
theorem minus_tri {k : Kd} {z a b : Int} (oz : Ok k z) (oa : Ok k a) (ob : Ok k b) : minusM k (minusM k z a) (minusM k z b) = minusM k b a := by
  cases k
  · show z - a - (z - b) = b - a; omega
  · obtain ⟨x, rfl⟩ := oz.nn
    obtain ⟨n, rfl⟩ := oa.nn
    obtain ⟨m, rfl⟩ := ob.nn
    show ((x ^^^ n ^^^ (x ^^^ m) : Nat) : Int) = ((m ^^^ n : Nat) : Int)
    congr 1
    have : x ^^^ n ^^^ (x ^^^ m) = (x ^^^ x) ^^^ (m ^^^ n) := by ac_rfl
    rw [this, Nat.xor_self, Nat.zero_xor]
theorem minus_chain {k : Kd} {z a c : Int} (oz : Ok k z) (oa : Ok k a) (oc : Ok k c) : minusM k (minusM k z a) (minusM k c a) = minusM k z c := by
  cases k
  · show z - a - (c - a) = z - c; omega
  · obtain ⟨x, rfl⟩ := oz.nn
    obtain ⟨n, rfl⟩ := oa.nn
    obtain ⟨m, rfl⟩ := oc.nn
    show ((x ^^^ n ^^^ (m ^^^ n) : Nat) : Int) = ((x ^^^ m : Nat) : Int)
    congr 1
    have : x ^^^ n ^^^ (m ^^^ n) = (n ^^^ n) ^^^ (x ^^^ m) := by ac_rfl
    rw [this, Nat.xor_self, Nat.zero_xor]
theorem minus_self {k : Kd} {a : Int} (oa : Ok k a) : minusM k a a = 0 := by
  cases k
  · exact Int.sub_self a
  · obtain ⟨n, rfl⟩ := oa.nn
    show ((n ^^^ n : Nat) : Int) = 0
    rw [Nat.xor_self]; rfl
theorem mu_zero {k : Kd} {d : Int} (od : Ok k d) : Mu k d 0 := (mu_iff (Ok.of_le (by decide)) od).mpr ((gmN k).zero_right _)
theorem mu_self {k : Kd} {d : Int} (od : Ok k d) : Mu k d d := (mu_iff od od).mpr ((gmN k).refl _)
theorem mu_trans {k : Kd} {d e z : Int} (od : Ok k d) (oe : Ok k e) (oz : Ok k z) (h1 : Mu k d e) (h2 : Mu k e z) : Mu k d z :=
  (mu_iff oz od).mpr ((gmN k).trans ((mu_iff oe od).mp h1) ((mu_iff oz oe).mp h2))
/-- the other way about -/
theorem mu_turn {k : Kd} {u v d : Int} (ou : Ok k u) (ov : Ok k v) (od : Ok k d) (h : Mu k d (minusM k u v)) : Mu k d (minusM k v u) := by
  cases k
  · have a1 : d ∣ u - v := remH_zero.mp h
    refine remH_zero.mpr ?_
    have := Int.dvd_neg.mpr a1
    rwa [show -(u - v) = v - u by omega] at this
  · obtain ⟨n, rfl⟩ := ou.nn
    obtain ⟨m, rfl⟩ := ov.nn
    have e : minusM .B (m : Int) (n : Int) = minusM .B (n : Int) (m : Int) := by
      show ((m ^^^ n : Nat) : Int) = ((n ^^^ m : Nat) : Int); rw [Nat.xor_comm]
    rw [e]; exact h
theorem gcd_mu_left {k : Kd} {m n : Int} (om : Ok k m) : Mu k (gcdM k m n) m := (mu_iff om ok_gcd).mpr ((gmN k).gl _ _)
theorem gcd_mu_right {k : Kd} {m n : Int} (on : Ok k n) : Mu k (gcdM k m n) n := (mu_iff on ok_gcd).mpr ((gmN k).gr _ _)
theorem lcm_mu_left {k : Kd} {m n : Int} (om : Ok k m) : Mu k m (lcmM k m n) := (mu_iff ok_lcm om).mpr ((gmN k).l_left (lmN k) _ _)
theorem lcm_mu_right {k : Kd} {m n : Int} (on : Ok k n) : Mu k n (lcmM k m n) := (mu_iff ok_lcm on).mpr ((gmN k).l_right (lmN k) _ _)
/-- a rest told in its least form -/
def Can : Kd → Int → Int → Prop
  | .H, a, m => m = 0 ∨ (0 ≤ a ∧ a < m)
  | .B, a, m => m = 0 ∨ sz a < sz m
def Rst (k : Kd) (a m : Int) : Prop := Ok k a ∧ 0 ≤ m ∧ Can k a m
theorem xor_sz {n m N : Nat} (h1 : Gf.bl n ≤ N) (h2 : Gf.bl m ≤ N) : Gf.bl (n ^^^ m) ≤ N := Gf.bl_le.mpr (Nat.xor_lt_two_pow (Gf.bl_le.mp h1) (Gf.bl_le.mp h2))
theorem can_one {k : Kd} {c c' l : Int} (oc : Ok k c) (oc' : Ok k c') (ol : 0 ≤ l) (h1 : Can k c l) (h2 : Can k c' l) (h : Mu k l (minusM k c c')) : c = c' := by
  cases k
  · have a1 : l ∣ c - c' := remH_zero.mp h
    by_cases z : l = 0
    · subst z
      obtain ⟨q, hq⟩ := a1
      rw [Int.zero_mul] at hq; omega
    · have b1 : 0 ≤ c ∧ c < l := h1.resolve_left (by omega)
      have b2 : 0 ≤ c' ∧ c' < l := h2.resolve_left (by omega)
      rcases Nat.eq_zero_or_pos (c - c').natAbs with e | e
      · omega
      · have := Nat.le_of_dvd e (Int.natAbs_dvd_natAbs.mpr a1)
        omega
  · obtain ⟨n, rfl⟩ := oc.nn
    obtain ⟨m, rfl⟩ := oc'.nn
    obtain ⟨L, rfl⟩ := Int.eq_ofNat_of_zero_le ol
    have d : Gf.Dv L (n ^^^ m) := (mu_iff (k := .B) (Int.natCast_nonneg _) (Int.natCast_nonneg _)).mp h
    have e0 : n ^^^ m = 0 := by
      rcases Nat.eq_zero_or_pos (n ^^^ m) with e | e
      · exact e
      · rcases Nat.eq_zero_or_pos L with z | z
        · subst z; exact Gf.dv_zero d
        · have b1 : Gf.bl n < Gf.bl L := h1.resolve_left (by omega)
          have b2 : Gf.bl m < Gf.bl L := h2.resolve_left (by omega)
          have := Gf.Dv.le e d
          have := xor_sz (N := Gf.bl L - 1) (n := n) (m := m) (by omega) (by omega)
          omega
    have : n = m := by
      have e1 : (n ^^^ m) ^^^ m = m := by rw [e0, Nat.zero_xor]
      rw [Nat.xor_assoc, Nat.xor_self, Nat.xor_zero] at e1; exact e1
    rw [this]
/-- what both tell together -/
structure Met (k : Kd) (a m b n c l : Int) : Prop where
  rst : Rst k c l
  lcm : l = lcmM k m n
  one : Mu k m (minusM k c a)
  two : Mu k n (minusM k c b)
theorem Met.keeps {k : Kd} {a m b n c l z : Int} (M : Met k a m b n c l) (oa : Ok k a) (om : Ok k m) (ob : Ok k b) (on : Ok k n) (oz : Ok k z) : (Mu k m (minusM k z a) ∧ Mu k n (minusM k z b)) ↔ Mu k l (minusM k z c) := by
  have oc := M.rst.1
  have oza := ok_minus oz oa
  have ozb := ok_minus oz ob
  have ozc := ok_minus oz oc
  have oca := ok_minus oc oa
  have ocb := ok_minus oc ob
  rw [M.lcm]
  constructor
  · rintro ⟨h1, h2⟩
    have d1 := mu_minus oza oca om h1 M.one
    have d2 := mu_minus ozb ocb on h2 M.two
    rw [minus_chain oz oa oc] at d1
    rw [minus_chain oz ob oc] at d2
    exact (mu_iff ozc ok_lcm).mpr ((gmN k).l_least (lmN k) ((mu_iff ozc om).mp d1) ((mu_iff ozc on).mp d2))
  · intro h
    have d1 := mu_trans om ok_lcm ozc (lcm_mu_left om) h
    have d2 := mu_trans on ok_lcm ozc (lcm_mu_right on) h
    rw [← minus_chain oz oa oc] at d1
    rw [← minus_chain oz ob oc] at d2
    exact ⟨mu_back oza oca om d1 M.one, mu_back ozb ocb on d2 M.two⟩
/-- who keeps both tells that they agree -/
theorem agree_of {k : Kd} {a m b n z : Int} (oa : Ok k a) (om : Ok k m) (ob : Ok k b) (on : Ok k n) (oz : Ok k z) (h1 : Mu k m (minusM k z a)) (h2 : Mu k n (minusM k z b)) : Mu k (gcdM k m n) (minusM k b a) := by
  have d1 := mu_trans ok_gcd om (ok_minus oz oa) (gcd_mu_left (n := n) om) h1
  have d2 := mu_trans ok_gcd on (ok_minus oz ob) (gcd_mu_right (m := m) on) h2
  have := mu_minus (ok_minus oz oa) (ok_minus oz ob) ok_gcd d1 d2
  rwa [minus_tri oz oa ob] at this
theorem Met.agree {k : Kd} {a m b n c l : Int} (M : Met k a m b n c l) (oa : Ok k a) (om : Ok k m) (ob : Ok k b) (on : Ok k n) : Mu k (gcdM k m n) (minusM k b a) := agree_of oa om ob on M.rst.1 M.one M.two
/-- one of them is the stronger one -/
theorem met_one {k : Kd} {a m b n : Int} (h1 : Rst k a m) (ob : Ok k b) (on : Ok k n) (hn : Mu k n m) (h : Mu k n (minusM k a b)) : Met k a m b n a m := by
  obtain ⟨oa, m0, hc⟩ := h1
  have om : Ok k m := Ok.of_le m0
  refine ⟨⟨oa, m0, hc⟩, ?_, by rw [minus_self oa]; exact mu_zero om, h⟩
  have := (gmN k).l_of (lmN k) ((mu_iff om on).mp hn)
  show m = ((lN k m.natAbs n.natAbs : Nat) : Int)
  rw [this]; omega
theorem Met.swap {k : Kd} {a m b n c l : Int} (M : Met k a m b n c l) : Met k b n a m c l := by
  refine ⟨M.rst, ?_, M.two, M.one⟩
  rw [M.lcm]
  show ((lN k m.natAbs n.natAbs : Nat) : Int) = ((lN k n.natAbs m.natAbs : Nat) : Int)
  rw [(gmN k).l_comm (lmN k)]
theorem Met.same {k : Kd} {a m b n c l c' l' : Int} (M : Met k a m b n c l) (M' : Met k a m b n c' l') (oa : Ok k a) (om : Ok k m) (ob : Ok k b) (on : Ok k n) : c = c' ∧ l = l' := by
  have e : l = l' := by rw [M.lcm, M'.lcm]
  subst e
  refine ⟨?_, rfl⟩
  have h := (M'.keeps oa om ob on M.rst.1).mp ⟨M.one, M.two⟩
  exact can_one M.rst.1 M'.rst.1 M.rst.2.1 M.rst.2.2 M'.rst.2.2 h
/-- the rest of two, by Bezout's numbers -/
theorem crt {α : Type} {add mul : α → α → α} (A : ∀ x y z, add (add x y) z = add x (add y z)) (C : ∀ x y, add x y = add y x) (A' : ∀ x y z, mul (mul x y) z = mul x (mul y z)) (C' : ∀ x y, mul x y = mul y x)
    (D : ∀ x y z, mul x (add y z) = add (mul x y) (mul x z)) {a m b n g p q x y s t u : α} (hm : mul g p = m) (hn : mul g q = n) (h1 : add (mul m x) (mul n y) = g) (h2 : add (mul q u) t = mul s x) (h3 : add a (mul g s) = b) :
    add (add a (mul m t)) (mul n (add (mul s y) (mul p u))) = b := by
  haveI : Std.Associative add := ⟨A⟩
  haveI : Std.Commutative add := ⟨C⟩
  haveI : Std.Associative mul := ⟨A'⟩
  haveI : Std.Commutative mul := ⟨C'⟩
  have e1 : mul n (mul p u) = mul m (mul q u) := by rw [← hm, ← hn]; ac_rfl
  have e2 : add (add a (mul m t)) (mul n (add (mul s y) (mul p u))) = add a (add (mul m (add (mul q u) t)) (mul n (mul s y))) := by
    rw [D n, D m, e1]; ac_rfl
  have e3 : add (mul m (mul s x)) (mul n (mul s y)) = mul g s := by
    have : mul s (add (mul m x) (mul n y)) = mul g s := by rw [h1, C']
    rw [← this, D]
    congr 1 <;> ac_rfl
  rw [e2, h2, e3, h3]
theorem crtM {k : Kd} {a m b n g p q x y s t u : Int} (oa : Ok k a) (om : Ok k m) (ob : Ok k b) (on : Ok k n) (og : Ok k g) (op : Ok k p) (oq : Ok k q) (ox : Ok k x) (oy : Ok k y) (os : Ok k s) (ot : Ok k t) (ou : Ok k u)
    (hm : timesM k g p = m) (hn : timesM k g q = n) (h1 : plusM k (timesM k m x) (timesM k n y) = g) (h2 : plusM k (timesM k q u) t = timesM k s x) (h3 : minusM k b a = timesM k g s) :
    plusM k (plusM k a (timesM k m t)) (timesM k n (plusM k (timesM k s y) (timesM k p u))) = b := by
  cases k
  · refine crt (add := fun x y : Int => x + y) (mul := fun x y : Int => x * y) (a := a) (g := g) Int.add_assoc Int.add_comm Int.mul_assoc Int.mul_comm Int.mul_add hm hn h1 h2 ?_
    have h3' : b - a = g * s := h3
    show a + g * s = b; omega
  · obtain ⟨a, rfl⟩ := oa.nn
    obtain ⟨m, rfl⟩ := om.nn
    obtain ⟨b, rfl⟩ := ob.nn
    obtain ⟨n, rfl⟩ := on.nn
    obtain ⟨g, rfl⟩ := og.nn
    obtain ⟨p, rfl⟩ := op.nn
    obtain ⟨q, rfl⟩ := oq.nn
    obtain ⟨x, rfl⟩ := ox.nn
    obtain ⟨y, rfl⟩ := oy.nn
    obtain ⟨s, rfl⟩ := os.nn
    obtain ⟨t, rfl⟩ := ot.nn
    obtain ⟨u, rfl⟩ := ou.nn
    have cv : ∀ {x y : Nat}, ((x : Nat) : Int) = ((y : Nat) : Int) → x = y := fun h => by omega
    have hm' : Gf.mul g p = m := cv hm
    have hn' : Gf.mul g q = n := cv hn
    have h1' : Gf.mul m x ^^^ Gf.mul n y = g := cv h1
    have h2' : Gf.mul q u ^^^ t = Gf.mul s x := cv h2
    have h3' : b ^^^ a = Gf.mul g s := cv h3
    have h4 : a ^^^ Gf.mul g s = b := by
      rw [← h3', Nat.xor_comm b a, ← Nat.xor_assoc, Nat.xor_self, Nat.zero_xor]
    have := crt (add := fun x y : Nat => x ^^^ y) (mul := Gf.mul) (a := a) (g := g) (b := b) Nat.xor_assoc Nat.xor_comm Gf.mul_assoc Gf.mul_comm Gf.mul_xor hm' hn' h1' h2' h4
    show (((a ^^^ Gf.mul m t) ^^^ Gf.mul n (Gf.mul s y ^^^ Gf.mul p u) : Nat) : Int) = (b : Int)
    rw [this]
theorem mu_mul {k : Kd} {d w : Int} (od : Ok k d) (ow : Ok k w) : Mu k d (timesM k d w) := (mu_iff (ok_times od ow) od).mpr ⟨w.natAbs, times_abs od ow⟩
theorem mu_sum {k : Kd} {c n w : Int} (oc : Ok k c) (on : Ok k n) (ow : Ok k w) : Mu k n (minusM k c (plusM k c (timesM k n w))) := by
  have h := mu_mul on ow
  have ot := ok_times on ow
  generalize timesM k n w = v at h ot
  cases k
  · have h' : n ∣ v := remH_zero.mp h
    refine remH_zero.mpr ?_
    show n ∣ c - (c + v)
    rw [show c - (c + v) = -v by omega]; exact Int.dvd_neg.mpr h'
  · obtain ⟨x, rfl⟩ := oc.nn
    obtain ⟨y, rfl⟩ := ot.nn
    have e : minusM .B (x : Int) (plusM .B (x : Int) (y : Int)) = (y : Int) := by
      show ((x ^^^ (x ^^^ y) : Nat) : Int) = y
      rw [← Nat.xor_assoc, Nat.xor_self, Nat.zero_xor]
    rw [e]; exact h
theorem mu_up {k : Kd} {a m t : Int} (oa : Ok k a) (om : Ok k m) (ot : Ok k t) : Mu k m (minusM k (plusM k a (timesM k m t)) a) := by
  have h := mu_mul om ot
  have ov := ok_times om ot
  generalize timesM k m t = v at h ov
  have e : minusM k (plusM k a v) a = v := plus_left oa ov rfl
  rw [e]; exact h
theorem can_up {k : Kd} {a m t q : Int} (oa : Ok k a) (m0 : 0 < m) (ot : Ok k t) (q0 : 0 < q) (ha : Can k a m) (ht : Can k t q) : Can k (plusM k a (timesM k m t)) (timesM k m q) ∧ 0 ≤ timesM k m q := by
  cases k
  · have a1 : 0 ≤ a ∧ a < m := ha.resolve_left (by omega)
    have t1 : 0 ≤ t ∧ t < q := ht.resolve_left (by omega)
    have l1 : 0 ≤ m * t := Int.mul_nonneg (by omega) t1.1
    have l2 : m * t ≤ m * (q - 1) := Int.mul_le_mul_of_nonneg_left (by omega) (by omega)
    rw [Int.mul_sub, Int.mul_one] at l2
    refine ⟨.inr ⟨?_, ?_⟩, ?_⟩
    · show 0 ≤ a + m * t; omega
    · show a + m * t < m * q; omega
    · show 0 ≤ m * q; omega
  · obtain ⟨a, rfl⟩ := oa.nn
    obtain ⟨m, rfl⟩ := Int.eq_ofNat_of_zero_le (Int.le_of_lt m0)
    obtain ⟨t, rfl⟩ := ot.nn
    obtain ⟨q, rfl⟩ := Int.eq_ofNat_of_zero_le (Int.le_of_lt q0)
    have a1 : Gf.bl a < Gf.bl m := ha.resolve_left (by omega)
    have t1 : Gf.bl t < Gf.bl q := ht.resolve_left (by omega)
    have pm := Gf.bl_pos (n := m) (by omega)
    have pq := Gf.bl_pos (n := q) (by omega)
    have bq := Gf.bl_mul (a := m) (b := q) (by omega) (by omega)
    refine ⟨.inr ?_, Int.natCast_nonneg _⟩
    show Gf.bl (a ^^^ Gf.mul m t) < Gf.bl (Gf.mul m q)
    have bt : Gf.bl (Gf.mul m t) ≤ Gf.bl m + Gf.bl q - 2 := by
      rcases Nat.eq_zero_or_pos t with z | z
      · subst z; rw [Gf.mul_zero, Gf.bl_zero]; omega
      · rw [Gf.bl_mul (by omega) z]; omega
    have := xor_sz (N := Gf.bl m + Gf.bl q - 2) (n := a) (m := Gf.mul m t) (by omega) bt
    omega
theorem can_rem {k : Kd} {z q : Int} (oz : Ok k z) (q0 : 0 < q) : Can k (remM k z q) q := by
  cases k
  · have := fmod_hi (a := z) (b := q) q0
    refine .inr ?_
    show 0 ≤ (if q = 0 then z else z.fmod q) ∧ (if q = 0 then z else z.fmod q) < q
    rw [if_neg (by omega)]; exact this
  · obtain ⟨n, rfl⟩ := oz.nn
    obtain ⟨m, rfl⟩ := Int.eq_ofNat_of_zero_le (Int.le_of_lt q0)
    exact .inr (Gf.rem_spec (n := n) (d := m) (by omega)).1
theorem pos_factor {k : Kd} {g q n : Int} (og : 0 < g) (oq : Ok k q) (n0 : 0 < n) (h : timesM k g q = n) : 0 < q := by
  cases k
  · have h' : g * q = n := h
    rcases Int.lt_or_le 0 q with z | z
    · exact z
    · have := Int.mul_le_mul_of_nonneg_left z (Int.le_of_lt og)
      rw [Int.mul_zero] at this; omega
  · obtain ⟨x, rfl⟩ := oq.nn
    rcases Nat.eq_zero_or_pos x with z | z
    · subst z
      obtain ⟨y, rfl⟩ := Int.eq_ofNat_of_zero_le (Int.le_of_lt og)
      have h' : ((Gf.mul y 0 : Nat) : Int) = n := h
      rw [Gf.mul_zero] at h'
      have : (0 : Int) = n := h'
      omega
    · omega
theorem met_main {k : Kd} {a m b n g p q x y s : Int} (hP : Pap k m n g p q x y) (h1 : Rst k a m) (h2 : Rst k b n) (m0 : m ≠ 0) (n0 : n ≠ 0) (os : Ok k s) (hs : minusM k b a = timesM k g s) :
    Met k a m b n (plusM k a (timesM k m (remM k (timesM k s x) q))) (timesM k m q) := by
  obtain ⟨oa, lm, ca⟩ := h1
  obtain ⟨ob, ln, cb⟩ := h2
  obtain ⟨op, oq, ox, oy⟩ := hP.ok
  have om : Ok k m := Ok.of_le lm
  have on : Ok k n := Ok.of_le ln
  have og : Ok k g := by rw [hP.val]; exact ok_gcd
  have gp : 0 < g := by rw [hP.val]; exact gcd_pos (.inl m0)
  have q0 : 0 < q := pos_factor gp oq (by omega) hP.hi
  have osx := ok_times os ox
  have otr : Ok k (remM k (timesM k s x) q) := ok_rem
  have ouq : Ok k (quoM k (timesM k s x) q) := ok_quo
  have hsum := crtM oa om ob on og op oq ox oy os otr ouq hP.lo hP.hi hP.sum (quo_rem' osx oq (by omega)) hs
  obtain ⟨cu, lq⟩ := can_up oa (by omega) otr q0 ca (can_rem osx q0)
  have oc := ok_plus oa (ok_times om otr)
  refine ⟨⟨oc, lq, cu⟩, ?_, mu_up oa om otr, ?_⟩
  · rw [← lcm_val om on m0 n0, ← hP.val]
    have e : quoM k n g = q := by
      have := (quo_exact og oq (by omega)).1
      rwa [hP.hi] at this
    rw [e]; omega
  · have := mu_sum (c := plusM k a (timesM k m (remM k (timesM k s x) q))) oc on (ok_plus (ok_times os oy) (ok_times op ouq))
    rwa [hsum] at this
theorem Rst.om {k : Kd} {a m : Int} (h : Rst k a m) : Ok k m := Ok.of_le h.2.1
theorem sz_gcd' {k : Kd} {a b : Int} : sz (gcdM k a b) ≤ max (sz a) (sz b) := by
  by_cases na : a = 0
  · by_cases nb : b = 0
    · subst na nb
      have : gcdM k 0 0 = 0 := by
        show ((gN k 0 0 : Nat) : Int) = 0
        rw [(gmN k).g_of ((gmN k).refl 0)]; rfl
      rw [this, sz_zero]; omega
    · exact sz_gcd (.inr nb)
  · exact sz_gcd (.inl na)
theorem Met.szc {k : Kd} {a m b n c l : Int} (M : Met k a m b n c l) (p1 : Rst k a m) (p2 : Rst k b n) : sz l ≤ sz m + sz n ∧ sz c ≤ max (max (sz a) (sz b)) (sz m + sz n) := by
  have zl := sz_lcm (k := k) p1.om p2.om
  rw [← M.lcm] at zl
  refine ⟨zl, ?_⟩
  by_cases hl : l = 0
  · have h0 : m = 0 ∨ n = 0 := by
      rcases Classical.em (m = 0) with z | z
      · exact .inl z
      · right
        rcases Classical.em (n = 0) with z' | z'
        · exact z'
        · exfalso
          have h := M.lcm
          rw [hl, ← lcm_val p1.om p2.om z z'] at h
          obtain ⟨u, ou, hu⟩ := gcd_right (k := k) p1.om p2.om
          have hg := gcd_pos (k := k) (a := m) (b := n) (.inl z)
          have nu : u ≠ 0 := fun e => by rw [e, times_zero ok_gcd] at hu; exact z' hu
          have e := (quo_exact (k := k) ok_gcd ou (show gcdM k m n ≠ 0 by omega)).1
          rw [← hu] at e
          rw [e] at h
          have h0 : (timesM k m u).natAbs = 0 := by omega
          rw [times_abs p1.om ou] at h0
          have := (gmN k).cancel m.natAbs u.natAbs 0 (by omega) (by rw [h0, (gmN k).zero])
          omega
    have ex : ∀ {u v : Int}, Ok k u → Ok k v → Mu k 0 (minusM k u v) → u = v := fun ou ov h => can_one ou ov (Int.le_refl 0) (by cases k <;> exact .inl rfl) (by cases k <;> exact .inl rfl) h
    rcases h0 with z | z
    · have h := M.one
      rw [z] at h
      rw [ex M.rst.1 p1.1 h]; omega
    · have h := M.two
      rw [z] at h
      rw [ex M.rst.1 p2.1 h]; omega
  · have hc := M.rst.2.2
    have hb : sz c ≤ sz l := by
      cases k
      · have := hc.resolve_left hl
        exact sz_mono (by omega)
      · have := hc.resolve_left hl
        omega
    omega

theorem sz_prod {a b : Int} (ha : a ≠ 0) (hb : b ≠ 0) : sz a + sz b ≤ sz (a * b) + 1 := by
  have p1 := Gf.bl_pos (n := a.natAbs) (by omega)
  have p2 := Gf.bl_pos (n := b.natAbs) (by omega)
  have s1 := (Gf.span (n := a.natAbs) (by omega)).1
  have s2 := (Gf.span (n := b.natAbs) (by omega)).1
  have h : 2 ^ (Gf.bl a.natAbs - 1 + (Gf.bl b.natAbs - 1)) ≤ (a * b).natAbs := by
    rw [Int.natAbs_mul, Nat.pow_add]; exact Nat.mul_le_mul s1 s2
  have := Gf.lt_bl.mpr h
  show Gf.bl a.natAbs + Gf.bl b.natAbs ≤ Gf.bl (a * b).natAbs + 1
  omega
theorem sz_quo_st {k : Kd} {c f : Int} (oc : Ok k c) (of : Ok k f) (h : Settled k c f) (hf : f ≠ 0) : sz (quoM k c f) + sz f ≤ sz c + 1 := by
  cases k
  · show sz (c.fdiv f) + sz f ≤ sz c + 1
    have e := Int.mul_fdiv_add_fmod c f
    have key : (f * c.fdiv f).natAbs ≤ c.natAbs ∧ c.fdiv f ≠ 0 := by
      rcases h with ⟨h1, h2, h3⟩ | ⟨h1, h2, h3⟩
      · have b := fmod_hi (a := c) (b := f) (by omega)
        have q : 1 ≤ c.fdiv f := by
          rcases Int.lt_or_le (c.fdiv f) 1 with z | z
          · have := Int.mul_le_mul_of_nonneg_left (show c.fdiv f ≤ 0 by omega) h2
            rw [Int.mul_zero] at this; omega
          · exact z
        have := Int.mul_nonneg h2 (show 0 ≤ c.fdiv f by omega)
        exact ⟨by omega, by omega⟩
      · have b := fmod_lo (a := c) (b := f) (by omega)
        have q : 1 ≤ c.fdiv f := by
          rcases Int.lt_or_le (c.fdiv f) 1 with z | z
          · have := Int.mul_le_mul_of_nonpos_left h2 (show c.fdiv f ≤ 0 by omega)
            rw [Int.mul_zero] at this; omega
          · exact z
        have := Int.mul_le_mul_of_nonpos_left h2 q
        rw [Int.mul_one] at this
        exact ⟨by omega, by omega⟩
    have := sz_prod hf key.2
    have := sz_mono key.1
    omega
  · obtain ⟨n, rfl⟩ := oc.nn
    obtain ⟨m, rfl⟩ := of.nn
    show Gf.bl (Gf.quo n m) + Gf.bl m ≤ Gf.bl n + 1
    have hm : 0 < m := by omega
    have sp := Gf.rem_spec (n := n) hm
    have hl : Gf.bl m < Gf.bl n := h
    rcases Nat.eq_zero_or_pos (Gf.quo n m) with z | z
    · rw [z, Gf.bl_zero]; omega
    · have hmul := Gf.bl_mul hm z
      have hz := Gf.bl_pos z
      have : Gf.bl (Gf.mul m (Gf.quo n m)) ≤ Gf.bl n := by
        rcases Nat.lt_or_ge (Gf.bl n) (Gf.bl (Gf.mul m (Gf.quo n m))) with w | w
        · exfalso
          have e : Gf.mul m (Gf.quo n m) = n ^^^ Gf.rem n m := by
            conv => rhs; lhs; rw [sp.2]
            rw [Nat.xor_assoc, Nat.xor_self, Nat.xor_zero]
          have := Gf.bl_xor n (Gf.rem n m) (k := Gf.bl n) (Nat.le_refl _) (by omega)
          rw [← e] at this; omega
        · exact w
      omega
end Hr
namespace Hr
open PySem PySem.Spec PyProof.Rows L2 Evl
/-! ### the functions of kinds.py, by their values -/
theorem plus_val {k : Kd} {a b : Int} (oa : Ok k a) (ob : Ok k b) : f_plus [dK k, dI a, dI b] = .done (.int (plusM k a b)) := by
  cases k
  · simp [f_plus, runF, b_plus, tmIte]; rfl
  · obtain ⟨n, rfl⟩ := oa.nn
    obtain ⟨m, rfl⟩ := ob.nn
    simp [f_plus, runF, b_plus, tmIte]; rfl
theorem minus_val {k : Kd} {a b : Int} (oa : Ok k a) (ob : Ok k b) : f_minus [dK k, dI a, dI b] = .done (.int (minusM k a b)) := by
  cases k
  · simp [f_minus, runF, b_minus, tmIte]; rfl
  · obtain ⟨n, rfl⟩ := oa.nn
    obtain ⟨m, rfl⟩ := ob.nn
    simp [f_minus, runF, b_minus, tmIte]; rfl
/-- one turn of a while -/
theorem while_go {mt : Ts_} {ms : Ss_} {f : Nat} {e e' : Env} (h : mt e = .done true) (h2 : ms e = .done (.nx e')) : whileM mt ms (f + 1) e = whileM mt ms f e' := by
  show (mt e).bind _ = _
  rw [h, Tr.bind_done, if_pos rfl, h2, Tr.bind_done]
theorem while_end {mt : Ts_} {ms : Ss_} {f : Nat} {e : Env} (h : mt e = .done false) : whileM mt ms (f + 1) e = .done (.nx e) := by
  show (mt e).bind _ = _
  rw [h, Tr.bind_done, if_neg (by decide)]
theorem times_loop : ∀ (f x y t : Nat), Gf.bl y < f → Gf.bl x + Gf.bl y ≤ 500000 →
    ∃ x' : Nat, whileM t_times_1 l_times_1 f [dK .B, dI (x : Int), dI (y : Int), dI (t : Int)] = .done (.nx [dK .B, dI (x' : Int), dI ((0 : Nat) : Int), dI ((t ^^^ Gf.mul x y : Nat) : Int)])
  | 0, _, _, _, h, _ => by omega
  | f + 1, x, y, t, h, h2 => by
    rcases Nat.eq_zero_or_pos y with e | e
    · subst e
      refine ⟨x, ?_⟩
      rw [while_end (by simp [t_times_1]), Gf.mul_zero, Nat.xor_zero]
    · have l1 := log_bl x
      have b1 := Gf.bl_double x
      have b2 := Gf.bl_half e
      obtain ⟨x', ih⟩ := times_loop f (x * 2) (y / 2) (if y % 2 = 1 then t ^^^ x else t) (by omega) (by rw [Nat.mul_comm x 2]; omega)
      refine ⟨x', ?_⟩
      have s := shl_nn (i := x) (j := 1) (by omega) (by decide)
      rw [while_go (e' := [dK .B, dI ((x * 2 : Nat) : Int), dI ((y / 2 : Nat) : Int), dI ((if y % 2 = 1 then t ^^^ x else t : Nat) : Int)]) (by simp [t_times_1]; omega) ?_, ih]
      · by_cases ho : y % 2 = 1
        · rw [if_pos ho, Gf.mul_odd ho, Nat.mul_comm x 2, Nat.xor_assoc]
        · rw [if_neg ho, Gf.mul_even ho, Nat.mul_comm x 2]
      · have s1 := shr_in (y : Int) 1
        have o := odd_n y
        have s' : o_shl (.int (x : Int)) (.int 1) = .done (.int ((x * 2 : Nat) : Int)) := by have := s; rw [Nat.pow_one] at this; exact this
        have s1' : o_shr (.int (y : Int)) (.int 1) = .done (.int ((y / 2 : Nat) : Int)) := s1
        by_cases ho : y % 2 = 1
        · rw [if_pos ho]
          simp [l_times_1, tmIte, o, ho, s', s1']
        · rw [if_neg ho]
          have h0 : y % 2 = 0 := by omega
          simp [l_times_1, tmIte, o, h0, s', s1']
theorem times_val {k : Kd} {a b : Int} (oa : Ok k a) (ob : Ok k b) (ha : sz a ≤ 90000) (hb : sz b ≤ 90000) : f_times [dK k, dI a, dI b] = .done (.int (timesM k a b)) := by
  cases k
  · have := mul_ii (i := a) (j := b) (by omega)
    simp [f_times, runF, b_times, tmIte, this]; rfl
  · obtain ⟨n, rfl⟩ := oa.nn
    obtain ⟨m, rfl⟩ := ob.nn
    rw [sz_nat] at ha hb
    obtain ⟨x', h⟩ := times_loop 100000 n m 0 (by omega) (by omega)
    rw [Nat.zero_xor] at h
    have h' : whileM t_times_1 l_times_1 100000 [dK .B, dI (n : Int), dI (m : Int), dI 0] = .done (.nx [dK .B, dI (x' : Int), dI 0, dI ((Gf.mul n m : Nat) : Int)]) := h
    simp [f_times, runF, b_times, tmIte]
    rw [h']
    simp; rfl
theorem split_loop (m : Nat) (hm : 0 < m) (hm8 : Gf.bl m ≤ 8000) : ∀ (f n t : Nat) (s : Sl), Gf.bl n < f → Gf.bl n ≤ 100000 → (∀ j, j + Gf.bl m ≤ Gf.bl n → t.testBit j = false) →
    ∃ s' : Sl, whileM t_split_by_1 l_split_by_1 f [dK .B, dI (n : Int), dI (m : Int), dI (t : Int), dI (Gf.bl m : Nat), s] = .done (.nx [dK .B, dI ((Gf.rem n m : Nat) : Int), dI (m : Int), dI ((t ^^^ Gf.quo n m : Nat) : Int), dI (Gf.bl m : Nat), s'])
  | 0, _, _, _, h, _, _ => by omega
  | f + 1, n, t, s, h, hl, hbit => by
    by_cases hy : Gf.bl m ≤ Gf.bl n
    · have l1 := log_bl m
      have lt := Gf.step_lt hm hy
      have ble : Gf.bl (n ^^^ m * 2 ^ (Gf.bl n - Gf.bl m)) ≤ Gf.bl n - 1 := Gf.bl_le.mpr lt
      have bp := Gf.bl_pos hm
      obtain ⟨s', ih⟩ := split_loop m hm hm8 f (n ^^^ m * 2 ^ (Gf.bl n - Gf.bl m)) (t ||| 1 * 2 ^ (Gf.bl n - Gf.bl m)) (dI ((Gf.bl n - Gf.bl m : Nat) : Int)) (by omega) (by omega) (by
        intro j hj
        rw [Nat.one_mul, Nat.testBit_or, hbit j (by omega), Nat.testBit_two_pow]
        simp only [Bool.false_or, decide_eq_false_iff_not]
        omega)
      refine ⟨s', ?_⟩
      rw [while_go (e' := [dK .B, dI ((n ^^^ m * 2 ^ (Gf.bl n - Gf.bl m) : Nat) : Int), dI (m : Int), dI ((t ||| 1 * 2 ^ (Gf.bl n - Gf.bl m) : Nat) : Int), dI (Gf.bl m : Nat), dI ((Gf.bl n - Gf.bl m : Nat) : Int)]) (by simp [t_split_by_1, sz_nat]; omega) ?_, ih]
      · rw [Nat.one_mul, or_bit (hbit _ (by omega)), Gf.quo_go hm hy, Gf.rem_go hm hy, Nat.xor_assoc]
      · have hs : (((sz (n : Int) : Nat) : Int) - ((Gf.bl m : Nat) : Int)) = ((Gf.bl n - Gf.bl m : Nat) : Int) := by rw [sz_nat]; omega
        have e1 : o_shl (.int 1) (.int ((Gf.bl n - Gf.bl m : Nat) : Int)) = .done (.int ((1 * 2 ^ (Gf.bl n - Gf.bl m) : Nat) : Int)) := shl_nn (i := 1) (by decide) (by omega)
        have e2 := shl_nn (i := m) (j := Gf.bl n - Gf.bl m) (by omega) (by omega)
        have e3 := orb_nn t (1 * 2 ^ (Gf.bl n - Gf.bl m))
        have e4 := xor_nn n (m * 2 ^ (Gf.bl n - Gf.bl m))
        simp only [l_split_by_1, zSeq, zAsg, tgName, xOp, opK, asgK, consK, tupK, lstK, slK, slK2, xBits, xVar, xC, rd_0, rd_s, Tr.bind_done, bits_i, sub_ii, hs, List.set_cons_succ, List.set_cons_zero, then_nx, e1, e2, e3, e4]
    · rw [while_end (by simp [t_split_by_1, sz_nat]; omega)]
      exact ⟨s, by rw [Gf.quo_end (by omega), Gf.rem_end (by omega), Nat.xor_zero]⟩
theorem split_val {k : Kd} {a b : Int} (oa : Ok k a) (ob : Ok k b) (nb : b ≠ 0) (ha : sz a ≤ 90000) (hb : sz b ≤ 8000) : f_split_by [dK k, dI a, dI b] = .done (.tuple [.int (quoM k a b), .int (remM k a b)]) := by
  cases k
  · have : o_divmod [dI a, dI b] = .done (.tuple [.int (a.fdiv b), .int (a.fmod b)]) := if_pos ⟨nb, by omega⟩
    simp [f_split_by, runF, b_split_by, tmIte, this]
    show a.fdiv b = a.fdiv b ∧ a.fmod b = (if b = 0 then a else a.fmod b)
    rw [if_neg nb]; exact ⟨rfl, rfl⟩
  · obtain ⟨n, rfl⟩ := oa.nn
    obtain ⟨m, rfl⟩ := ob.nn
    rw [sz_nat] at ha hb
    have hm : 0 < m := by omega
    obtain ⟨s', h⟩ := split_loop m hm hb 100000 n 0 .no (by omega) (by omega) (fun j _ => Nat.zero_testBit j)
    rw [Nat.zero_xor] at h
    have h' : whileM t_split_by_1 l_split_by_1 100000 [dK .B, dI (n : Int), dI (m : Int), dI 0, dI (Gf.bl m : Nat), .no] = _ := h
    simp [f_split_by, runF, b_split_by, tmIte, sz_nat, List.replicate]
    rw [h']
    simp; exact ⟨rfl, rfl⟩
theorem wrest_loop (m : Nat) (hm : 0 < m) (hm8 : Gf.bl m ≤ 8000) : ∀ (f n : Nat), Gf.bl n < f → Gf.bl n ≤ 100000 →
    ∃ s' : Sl, whileM t_word_rest_1 l_word_rest_1 f [dI (n : Int), dI (m : Int), dI (Gf.bl m : Nat), dI ((Gf.bl n : Int) - (Gf.bl m : Int))] = .done (.nx [dI ((Gf.rem n m : Nat) : Int), dI (m : Int), dI (Gf.bl m : Nat), s'])
  | 0, _, h, _ => by omega
  | f + 1, n, h, hl => by
    by_cases hy : Gf.bl m ≤ Gf.bl n
    · have l1 := log_bl m
      have lt := Gf.step_lt hm hy
      have ble : Gf.bl (n ^^^ m * 2 ^ (Gf.bl n - Gf.bl m)) ≤ Gf.bl n - 1 := Gf.bl_le.mpr lt
      have bp := Gf.bl_pos hm
      obtain ⟨s', ih⟩ := wrest_loop m hm hm8 f (n ^^^ m * 2 ^ (Gf.bl n - Gf.bl m)) (by omega) (by omega)
      refine ⟨s', ?_⟩
      rw [while_go (e' := [dI ((n ^^^ m * 2 ^ (Gf.bl n - Gf.bl m) : Nat) : Int), dI (m : Int), dI (Gf.bl m : Nat), dI ((Gf.bl (n ^^^ m * 2 ^ (Gf.bl n - Gf.bl m)) : Int) - (Gf.bl m : Int))]) (by simp [t_word_rest_1]; omega) ?_, ih, Gf.rem_go hm hy]
      have hs : ((Gf.bl n : Int) - (Gf.bl m : Int)) = ((Gf.bl n - Gf.bl m : Nat) : Int) := by omega
      have e2 := shl_nn (i := m) (j := Gf.bl n - Gf.bl m) (by omega) (by omega)
      have e4 := xor_nn n (m * 2 ^ (Gf.bl n - Gf.bl m))
      simp only [l_word_rest_1, zSeq, zAsg, tgName, xOp, opK, asgK, consK, tupK, lstK, slK, slK2, xBits, xVar, xC, rd_0, rd_s, Tr.bind_done, bits_i, sub_ii, hs, List.set_cons_succ, List.set_cons_zero, then_nx, e2, e4, sz_nat]
    · rw [while_end (by simp [t_word_rest_1]; omega)]
      exact ⟨_, by rw [Gf.rem_end (by omega)]⟩
theorem word_rest_val {n m : Nat} (hm : 0 < m) (hm8 : Gf.bl m ≤ 8000) (hn : Gf.bl n ≤ 90000) : f_word_rest [dI (n : Int), dI (m : Int)] = .done (.int ((Gf.rem n m : Nat) : Int)) := by
  obtain ⟨s', h⟩ := wrest_loop m hm hm8 100000 n (by omega) (by omega)
  simp [f_word_rest, runF, b_word_rest, sz_nat, List.replicate]
  rw [h]
  simp
theorem rest_val {k : Kd} {a b : Int} (oa : Ok k a) (ob : Ok k b) (ha : sz a ≤ 90000) (hb : sz b ≤ 8000) (hs : k = .B → sz a ≤ 1000 + 8 * sz b) : f_rest_by [dK k, dI a, dI b] = .done (.int (remM k a b)) := by
  by_cases hb0 : b = 0
  · subst hb0
    simp [f_rest_by, runF, b_rest_by, tmIte]
    cases k
    · show a = if (0 : Int) = 0 then a else a.fmod 0; rw [if_pos rfl]
    · obtain ⟨n, rfl⟩ := oa.nn
      show (n : Int) = ((Gf.rem n 0 : Nat) : Int); rw [Gf.rem_zero]
  · have e1 : (b == 0) = false := by simpa using hb0
    have e3 : o_mul (.int 8) (.int ((sz b : Nat) : Int)) = .done (.int (8 * (sz b : Nat))) := mul_ii (by
      have c8 : sz 8 ≤ 4 := by decide +kernel
      have : sz ((sz b : Nat) : Int) ≤ 20 := sz_le.mpr (by show sz b < 2 ^ 20; omega)
      omega)
    cases k
    · have e2 := mod_nz (i := a) hb0
      simp [f_rest_by, runF, b_rest_by, tmIte, e1, e2]
      show a.fmod b = if b = 0 then a else a.fmod b
      rw [if_neg hb0]
    · have h1 := hs rfl
      have e4 : ¬ (1000 + 8 * ((sz b : Nat) : Int) < ((sz a : Nat) : Int)) := by omega
      obtain ⟨n, rfl⟩ := oa.nn
      obtain ⟨m, rfl⟩ := ob.nn
      have e5 := word_rest_val (n := n) (m := m) (by omega) (by rw [sz_nat] at hb; exact hb) (by rw [sz_nat] at ha; exact ha)
      simp [f_rest_by, runF, b_rest_by, tmIte, e1, e3, e4, e5]
      rfl
theorem factor_val {k : Kd} {a b : Int} (oa : Ok k a) (ob : Ok k b) (ha : sz a ≤ 90000) (hb : sz b ≤ 8000) (hs : k = .B → sz a ≤ 1000 + 8 * sz b) : f_has_factor [dK k, dI a, dI b] = .done (.bool (decide (remM k a b = 0))) := by
  simp [f_has_factor, runF, b_has_factor, rest_val oa ob ha hb hs]
  exact Bool.beq_eq_decide_eq _ _
theorem e_seq' {ms mu : Ss_} {e e' : Env} (h : ms e = .done (.nx e')) : zSeq ms mu e = mu e' := by show (ms e).bind _ = _; rw [h]; rfl
theorem lt_nn (i j : Int) : o_lt (.int i) (.int j) = .done (.bool (decide (i < j))) := rfl
theorem gcd_in (m : Nat) (hm : 0 < m) (hm8 : Gf.bl m ≤ 8000) (k : Sl) : ∀ (f n : Nat), Gf.bl n < f → Gf.bl n ≤ 100000 →
    ∃ s' : Sl, whileM t_common_divisor_1 l_common_divisor_1 f [k, dI (n : Int), dI (m : Int), dI (Gf.bl m : Nat), dI ((Gf.bl n : Int) - (Gf.bl m : Int))] = .done (.nx [k, dI ((Gf.rem n m : Nat) : Int), dI (m : Int), dI (Gf.bl m : Nat), s'])
  | 0, _, h, _ => by omega
  | f + 1, n, h, hl => by
    by_cases hy : Gf.bl m ≤ Gf.bl n
    · have l1 := log_bl m
      have lt := Gf.step_lt hm hy
      have ble : Gf.bl (n ^^^ m * 2 ^ (Gf.bl n - Gf.bl m)) ≤ Gf.bl n - 1 := Gf.bl_le.mpr lt
      have bp := Gf.bl_pos hm
      obtain ⟨s', ih⟩ := gcd_in m hm hm8 k f (n ^^^ m * 2 ^ (Gf.bl n - Gf.bl m)) (by omega) (by omega)
      refine ⟨s', ?_⟩
      rw [while_go (e' := [k, dI ((n ^^^ m * 2 ^ (Gf.bl n - Gf.bl m) : Nat) : Int), dI (m : Int), dI (Gf.bl m : Nat), dI ((Gf.bl (n ^^^ m * 2 ^ (Gf.bl n - Gf.bl m)) : Int) - (Gf.bl m : Int))]) (by simp [t_common_divisor_1]; omega) ?_, ih, Gf.rem_go hm hy]
      have hs : ((Gf.bl n : Int) - (Gf.bl m : Int)) = ((Gf.bl n - Gf.bl m : Nat) : Int) := by omega
      have e2 := shl_nn (i := m) (j := Gf.bl n - Gf.bl m) (by omega) (by omega)
      have e4 := xor_nn n (m * 2 ^ (Gf.bl n - Gf.bl m))
      simp only [l_common_divisor_1, zSeq, zAsg, tgName, xOp, opK, asgK, consK, tupK, lstK, slK, slK2, xBits, xVar, xC, rd_0, rd_s, Tr.bind_done, bits_i, sub_ii, hs, List.set_cons_succ, List.set_cons_zero, then_nx, e2, e4, sz_nat]
    · rw [while_end (by simp [t_common_divisor_1]; omega)]
      exact ⟨_, by rw [Gf.rem_end (by omega)]⟩
theorem gcd_loop : ∀ (f x i : Nat) (s3 s4 : Sl), Gf.bl i < f → Gf.bl x ≤ 900 → Gf.bl i ≤ 900 →
    ∃ t3 t4 : Sl, whileM t_common_divisor_2 l_common_divisor_2 f [dK .B, dI (x : Int), dI (i : Int), s3, s4] = .done (.nx [dK .B, dI ((Gf.gcd x i : Nat) : Int), dI 0, t3, t4])
  | 0, _, _, _, _, h, _, _ => by omega
  | f + 1, x, i, s3, s4, h, hx, hi => by
    rcases Nat.eq_zero_or_pos i with e | e
    · subst e
      rw [while_end (by simp [t_common_divisor_2]), Gf.gcd_zero]; exact ⟨s3, s4, rfl⟩
    · have r := (Gf.rem_spec (n := x) e).1
      obtain ⟨s', hin⟩ := gcd_in i e (by omega) (dK .B) 100000 x (by omega) (by omega)
      obtain ⟨t3, t4, ih⟩ := gcd_loop f i (Gf.rem x i) (dI (Gf.bl i : Nat)) s' (by omega) hi (by omega)
      refine ⟨t3, t4, ?_⟩
      rw [while_go (e' := [dK .B, dI (i : Int), dI ((Gf.rem x i : Nat) : Int), dI (Gf.bl i : Nat), s']) (by simp [t_common_divisor_2]; exact e) ?_, ih, Gf.gcd_step e]
      simp [l_common_divisor_2, sz_nat]
      rw [hin]
      simp
theorem gcd_val {k : Kd} {a b : Int} (oa : Ok k a) (ob : Ok k b) (ha : sz a ≤ 900) (hb : sz b ≤ 900) : f_common_divisor [dK k, dI a, dI b] = .done (.int (gcdM k a b)) := by
  cases k
  · simp [f_common_divisor, runF, b_common_divisor, tmIte]; rfl
  · obtain ⟨n, rfl⟩ := oa.nn
    obtain ⟨m, rfl⟩ := ob.nn
    rw [sz_nat] at ha hb
    -- behind the exchange: x at least y
    have key : ∀ (x y : Nat), y ≤ x → Gf.bl x ≤ 900 → Gf.bl y ≤ 900 → ∃ t3 t4, (zSeq (zIf (yB (xOp o_gt (xVar 2) (xC (PyData.int 0)))) (zPar 1 2 (aCons (xVar 2) (aCons (xFn f_rest_by 3 (aCons (xVar 0) (aCons (xVar 1) (aCons (xVar 2) aNil)))) aNil))) zNext)
      (zWhile 100000 t_common_divisor_2 l_common_divisor_2)) [dK .B, dI (x : Int), dI (y : Int), .no, .no] = .done (.nx [dK .B, dI ((Gf.gcd x y : Nat) : Int), dI 0, t3, t4]) := fun x y hxy hx hy => by
      rcases Nat.eq_zero_or_pos y with e | e
      · subst e
        obtain ⟨t3, t4, h⟩ := gcd_loop 100000 x 0 .no .no (by rw [Gf.bl_zero]; omega) hx hy
        have h' : whileM t_common_divisor_2 l_common_divisor_2 100000 [dK .B, dI (x : Int), dI 0, .no, .no] = _ := h
        refine ⟨t3, t4, ?_⟩
        simp [tmIte, h']
      · have r := (Gf.rem_spec (n := x) e).1
        have hr : f_rest_by [dK .B, dI (x : Int), dI (y : Int)] = .done (.int ((Gf.rem x y : Nat) : Int)) := rest_val (k := .B) (Int.natCast_nonneg _) (Int.natCast_nonneg _) (by rw [sz_nat]; omega) (by rw [sz_nat]; omega) (fun _ => by rw [sz_nat]; omega)
        obtain ⟨t3, t4, h⟩ := gcd_loop 100000 y (Gf.rem x y) .no .no (by omega) hy (by omega)
        refine ⟨t3, t4, ?_⟩
        simp [tmIte, e, hr, h, Gf.gcd_step e]
    have fin2 : ∀ (x y : Nat), (zSeq (zIf (yB (xOp o_gt (xVar 2) (xC (PyData.int 0)))) (zPar 1 2 (aCons (xVar 2) (aCons (xFn f_rest_by 3 (aCons (xVar 0) (aCons (xVar 1) (aCons (xVar 2) aNil)))) aNil))) zNext)
      (zSeq (zWhile 100000 t_common_divisor_2 l_common_divisor_2) (zRet (xVar 1)))) [dK .B, dI (x : Int), dI (y : Int), .no, .no] = ((zSeq (zIf (yB (xOp o_gt (xVar 2) (xC (PyData.int 0)))) (zPar 1 2 (aCons (xVar 2) (aCons (xFn f_rest_by 3 (aCons (xVar 0) (aCons (xVar 1) (aCons (xVar 2) aNil)))) aNil))) zNext)
      (zWhile 100000 t_common_divisor_2 l_common_divisor_2)) [dK .B, dI (x : Int), dI (y : Int), .no, .no]).bind (then_ (zRet (xVar 1))) := fun x y => by
      show (Tr.bind _ _) = Tr.bind (Tr.bind _ _) _
      rw [Tr.bind_assoc]
      congr 1
      funext o
      cases o <;> rfl
    by_cases hlt : n < m
    · obtain ⟨t3, t4, h⟩ := key m n (by omega) hb ha
      have g : gcdM .B (n : Int) (m : Int) = ((Gf.gcd m n : Nat) : Int) := by
        show ((Gf.gcd n m : Nat) : Int) = _; rw [Gf.gcd_comm]
      rw [g]
      have f2 := fin2 m n
      rw [h] at f2
      have c1 : (n : Int) < (m : Int) := by omega
      simp only [f_common_divisor, runF, b_common_divisor, List.replicate, List.cons_append, List.nil_append]
      rw [e_seq' (e' := [dK .B, dI (n : Int), dI (m : Int), .no, .no]) (by simp [tmIte])]
      rw [e_seq' (e' := [dK .B, dI (m : Int), dI (n : Int), .no, .no]) (by simp [tmIte, lt_nn, c1]), f2]
      simp
    · obtain ⟨t3, t4, h⟩ := key n m (by omega) ha hb
      have f2 := fin2 n m
      rw [h] at f2
      have c1 : ¬ (n : Int) < (m : Int) := by omega
      simp only [f_common_divisor, runF, b_common_divisor, List.replicate, List.cons_append, List.nil_append]
      rw [e_seq' (e' := [dK .B, dI (n : Int), dI (m : Int), .no, .no]) (by simp [tmIte])]
      rw [e_seq' (e' := [dK .B, dI (n : Int), dI (m : Int), .no, .no]) (by simp [tmIte, lt_nn, c1]), f2]
      simp; rfl
structure DfI (one : Bool) (k : Kd) (a b c x f nx u v : Int) : Prop where
  ok : (Ok k c ∧ Ok k x) ∧ (Ok k f ∧ Ok k nx) ∧ Ok k u ∧ Ok k v
  s1 : plusM k (timesM k a x) (timesM k b u) = c
  s2 : plusM k (timesM k a nx) (timesM k b v) = f
  g : gcdM k c f = gcdM k a b
  zc : sz c ≤ 900
  zf : sz f ≤ sz b
  st : (one = true ∧ x = 1 ∧ nx = 0) ∨ (one = false ∧ Settled k c f ∧ sz c ≤ sz b ∧ sz x + 3 * (sz c + sz f) ≤ 6 * sz b + 2 ∧ sz nx + 3 * (sz c + sz f) ≤ 6 * sz b + 2)
structure DfStep (one : Bool) (k : Kd) (a b c x f nx u v : Int) : Prop where
  next : DfI false k a b f nx (remM k c f) (minusM k x (timesM k nx (quoM k c f))) v (minusM k u (timesM k v (quoM k c f)))
  less : sz f + sz (remM k c f) < (if one = true then 2 * sz b + 1 else sz c + sz f)
  xz : sz x ≤ 5500 ∧ sz nx ≤ 5500
  zq : sz (quoM k c f) ≤ 900
theorem df_step {k : Kd} {a b : Int} (oa : Ok k a) (ob : Ok k b) (zb : sz b ≤ 900) {one : Bool} {c x f nx u v : Int} (I : DfI one k a b c x f nx u v) (nf : f ≠ 0) : DfStep one k a b c x f nx u v := by
  obtain ⟨⟨oc, ox⟩, ⟨of, on⟩, ou, ov⟩ := I.ok
  have zc := I.zc
  have zf := I.zf
  have oq : Ok k (quoM k c f) := ok_quo
  have ol : Ok k (remM k c f) := ok_rem
  have zq := sz_quo' oc of nf
  have st := settle oc of nf
  have hdiv := quo_rem' oc of nf
  have otq := ok_times on oq
  have ztq := sz_times on oq
  have ll := settled_lt of ol st
  have zl : sz (remM k c f) ≤ sz f := sz_mono (by omega)
  have xz : sz x ≤ 5500 ∧ sz nx ≤ 5500 := by
    have z1 : sz 1 ≤ 1 := by decide +kernel
    rcases I.st with ⟨_, h1, h2⟩ | ⟨_, _, _, h1, h2⟩
    · rw [h1, h2]; exact ⟨by omega, by rw [sz_zero]; omega⟩
    · exact ⟨by omega, by omega⟩
  have zfp : 0 < sz f := Gf.bl_pos (by omega)
  refine ⟨⟨⟨⟨of, on⟩, ⟨ol, ok_minus ox otq⟩, ov, ok_minus ou (ok_times ov oq)⟩, I.s2, bez_step oa ob ox ou on ov oq ol I.s1 I.s2 hdiv, by rw [gcd_rem oc of nf, I.g], by omega, by omega, .inr ⟨rfl, st, zf, ?_, ?_⟩⟩, ?_, xz, by omega⟩
  · rcases I.st with ⟨ho, h1, h2⟩ | ⟨ho, hs, hb, h1, h2⟩
    · rw [h2, sz_zero]; omega
    · have := settled_step oc of hs nf; omega
  · rcases I.st with ⟨ho, h1, h2⟩ | ⟨ho, hs, hb, h1, h2⟩
    · have z1 : sz 1 ≤ 1 := by decide +kernel
      have e0 : minusM k 1 (timesM k 0 (quoM k c f)) = 1 := by rw [times_comm, times_zero oq, minus_zero (ok1 k)]
      rw [h1, h2, e0]; omega
    · have sp := settled_step oc of hs nf
      have sq := sz_quo_st oc of hs nf
      have zm := sz_minus (n := 6 * sz b + 2 - 3 * (sz c + sz f) + (sz c + 1 - sz f)) ox otq (by omega) (by omega)
      omega
  · rcases I.st with ⟨ho, h1, h2⟩ | ⟨ho, hs, hb, h1, h2⟩
    · rw [ho, if_pos rfl]; omega
    · have := settled_step oc of hs nf
      rw [ho, if_neg (by decide)]; omega
abbrev hfE (c f x nx : Int) (s4 s5 : Sl) : Env := [dI c, dI f, dI x, dI nx, s4, s5]
theorem hf_loop {a b : Int} (zb : sz b ≤ 900) : ∀ (n : Nat) (one : Bool) (c x f nx u v : Int) (s4 s5 : Sl), DfI one .H a b c x f nx u v → (if one = true then 2 * sz b + 1 else sz c + sz f) < n →
    ∃ (one' : Bool) (c' x' nx' u' v' : Int) (t4 t5 : Sl), whileM t_hours_factor_1 l_hours_factor_1 n (hfE c f x nx s4 s5) = .done (.nx (hfE c' 0 x' nx' t4 t5)) ∧ DfI one' .H a b c' x' 0 nx' u' v'
  | 0, _, _, _, _, _, _, _, _, _, _, h => by omega
  | n + 1, one, c, x, f, nx, u, v, s4, s5, I, h => by
    by_cases nf : f = 0
    · subst nf
      exact ⟨one, c, x, nx, u, v, s4, s5, while_end (by simp [t_hours_factor_1]), I⟩
    · have S := df_step (k := .H) (a := a) (b := b) True.intro True.intro zb I nf
      have zf := I.zf
      have zq := S.zq
      have xz := S.xz
      have sl := S.less
      obtain ⟨one', c', x', nx', u', v', t4, t5, ih, I2⟩ := hf_loop zb n false f nx (remM .H c f) (minusM .H x (timesM .H nx (quoM .H c f))) v (minusM .H u (timesM .H v (quoM .H c f))) (dI (quoM .H c f)) (dI (remM .H c f)) S.next (by
        rw [if_neg (by decide)]; omega)
      refine ⟨one', c', x', nx', u', v', t4, t5, ?_, I2⟩
      have e1 : o_divmod [dI c, dI f] = .done (.tuple [.int (quoM .H c f), .int (remM .H c f)]) := by
        have : o_divmod [dI c, dI f] = .done (.tuple [.int (c.fdiv f), .int (c.fmod f)]) := if_pos ⟨nf, by omega⟩
        rw [this]
        show Tr.done (PyData.tuple [.int (c.fdiv f), .int (c.fmod f)]) = Tr.done (PyData.tuple [.int (c.fdiv f), .int (if f = 0 then c else c.fmod f)])
        rw [if_neg nf]
      have e2 : o_mul (.int nx) (.int (quoM .H c f)) = .done (.int (nx * quoM .H c f)) := mul_ii (by omega)
      rw [while_go (e' := hfE f (remM .H c f) nx (minusM .H x (timesM .H nx (quoM .H c f))) (dI (quoM .H c f)) (dI (remM .H c f))) (by simp [t_hours_factor_1, nf]) (by simp [l_hours_factor_1, e1, e2, untup]; rfl), ih]
theorem wf_in (m : Nat) (hm : 0 < m) (hm8 : Gf.bl m ≤ 8000) (y : Nat) (hy8 : Gf.bl y ≤ 8000) : ∀ (f n x : Nat), Gf.bl n < f → Gf.bl n ≤ 100000 →
    ∃ s' : Sl, whileM t_word_factor_1 l_word_factor_1 f [dI (n : Int), dI (m : Int), dI (x : Int), dI (y : Int), dI (Gf.bl m : Nat), dI ((Gf.bl n : Int) - (Gf.bl m : Int))] = .done (.nx [dI ((Gf.rem n m : Nat) : Int), dI (m : Int), dI ((x ^^^ Gf.mul y (Gf.quo n m) : Nat) : Int), dI (y : Int), dI (Gf.bl m : Nat), s'])
  | 0, _, _, h, _ => by omega
  | f + 1, n, x, h, hl => by
    by_cases hy : Gf.bl m ≤ Gf.bl n
    · have l1 := log_bl m
      have l2 := log_bl y
      have lt := Gf.step_lt hm hy
      have ble : Gf.bl (n ^^^ m * 2 ^ (Gf.bl n - Gf.bl m)) ≤ Gf.bl n - 1 := Gf.bl_le.mpr lt
      have bp := Gf.bl_pos hm
      obtain ⟨s', ih⟩ := wf_in m hm hm8 y hy8 f (n ^^^ m * 2 ^ (Gf.bl n - Gf.bl m)) (x ^^^ y * 2 ^ (Gf.bl n - Gf.bl m)) (by omega) (by omega)
      refine ⟨s', ?_⟩
      rw [while_go (e' := [dI ((n ^^^ m * 2 ^ (Gf.bl n - Gf.bl m) : Nat) : Int), dI (m : Int), dI ((x ^^^ y * 2 ^ (Gf.bl n - Gf.bl m) : Nat) : Int), dI (y : Int), dI (Gf.bl m : Nat), dI ((Gf.bl (n ^^^ m * 2 ^ (Gf.bl n - Gf.bl m)) : Int) - (Gf.bl m : Int))]) (by simp [t_word_factor_1]; omega) ?_, ih, Gf.rem_go hm hy, Gf.quo_go hm hy, Gf.mul_xor, Gf.mul_pow, Nat.xor_assoc]
      have hs : ((Gf.bl n : Int) - (Gf.bl m : Int)) = ((Gf.bl n - Gf.bl m : Nat) : Int) := by omega
      have e2 := shl_nn (i := m) (j := Gf.bl n - Gf.bl m) (by omega) (by omega)
      have e3 := shl_nn (i := y) (j := Gf.bl n - Gf.bl m) (by omega) (by omega)
      have e4 := xor_nn n (m * 2 ^ (Gf.bl n - Gf.bl m))
      have e5 := xor_nn x (y * 2 ^ (Gf.bl n - Gf.bl m))
      simp only [l_word_factor_1, zSeq, zAsg, tgName, xOp, opK, asgK, consK, tupK, lstK, slK, slK2, xBits, xVar, xC, rd_0, rd_s, Tr.bind_done, bits_i, sub_ii, hs, List.set_cons_succ, List.set_cons_zero, then_nx, e2, e3, e4, e5, sz_nat]
    · rw [while_end (by simp [t_word_factor_1]; omega)]
      exact ⟨_, by rw [Gf.rem_end (by omega), Gf.quo_end (by omega), Gf.mul_zero, Nat.xor_zero]⟩
theorem wf_loop {a b : Int} (oa : Ok .B a) (ob : Ok .B b) (zb : sz b ≤ 900) : ∀ (n : Nat) (one : Bool) (c x f nx u v : Int) (s4 s5 : Sl), DfI one .B a b c x f nx u v → (if one = true then 2 * sz b + 1 else sz c + sz f) < n →
    ∃ (one' : Bool) (c' x' nx' u' v' : Int) (t4 t5 : Sl), whileM t_word_factor_2 l_word_factor_2 n (hfE c f x nx s4 s5) = .done (.nx (hfE c' 0 x' nx' t4 t5)) ∧ DfI one' .B a b c' x' 0 nx' u' v'
  | 0, _, _, _, _, _, _, _, _, _, _, h => by omega
  | n + 1, one, c, x, f, nx, u, v, s4, s5, I, h => by
    by_cases nf : f = 0
    · subst nf
      exact ⟨one, c, x, nx, u, v, s4, s5, while_end (by simp [t_word_factor_2]), I⟩
    · have S := df_step oa ob zb I nf
      have zf := I.zf
      have zc := I.zc
      have zq := S.zq
      have xz := S.xz
      have sl := S.less
      obtain ⟨⟨oc, ox⟩, ⟨of, on⟩, ou, ov⟩ := I.ok
      obtain ⟨cn, rfl⟩ := oc.nn
      obtain ⟨fn, rfl⟩ := of.nn
      obtain ⟨xn, rfl⟩ := ox.nn
      obtain ⟨yn, rfl⟩ := on.nn
      rw [sz_nat] at zc
      have zf' : Gf.bl fn ≤ 900 := by rw [sz_nat] at zf; omega
      have zy : Gf.bl yn ≤ 8000 := by have := xz.2; rw [sz_nat] at this; omega
      have fp : 0 < fn := by omega
      obtain ⟨s', hin⟩ := wf_in fn fp (by omega) yn zy 100000 cn xn (by omega) (by omega)
      obtain ⟨one', c', x', nx', u', v', t4, t5, ih, I2⟩ := wf_loop oa ob zb n false fn yn (remM .B cn fn) (minusM .B xn (timesM .B yn (quoM .B cn fn))) v (minusM .B u (timesM .B v (quoM .B cn fn))) (dI (Gf.bl fn : Nat)) s' S.next (by
        rw [if_neg (by decide)]; omega)
      refine ⟨one', c', x', nx', u', v', t4, t5, ?_, I2⟩
      rw [while_go (e' := hfE fn (remM .B cn fn) yn (minusM .B xn (timesM .B yn (quoM .B cn fn))) (dI (Gf.bl fn : Nat)) s') (by simp [t_word_factor_2]; omega) ?_, ih]
      simp [l_word_factor_2, sz_nat]
      rw [hin]
      simp
      exact ⟨rfl, rfl⟩
theorem fac_val {k : Kd} {a b : Int} (oa : Ok k a) (ob : Ok k b) (za : sz a ≤ 900) (zb : sz b ≤ 900) :
    ∃ one' c x nx u v, (xIf (yB (xOp (oEq id) (xVar 0) (xC (PyData.str "hours")))) (xFn f_hours_factor 2 (aCons (xVar 1) (aCons (xVar 2) aNil))) (xFn f_word_factor 2 (aCons (xVar 1) (aCons (xVar 2) aNil)))) [dK k, dI a, dI b, .no, .no, .no] = .done (.tuple [.int c, .int x]) ∧ DfI one' k a b c x 0 nx u v := by
  have z1 : sz 1 ≤ 1 := by decide +kernel
  have I0 : DfI true k a b a 1 b 0 0 1 := ⟨⟨⟨oa, ok1 k⟩, ⟨ob, ok0 k⟩, ok0 k, ok1 k⟩, by rw [times_one oa, times_zero ob, plus_zero oa], by rw [times_zero oa, times_one ob, zero_plus ob], rfl, za, Nat.le_refl _, .inl ⟨rfl, rfl, rfl⟩⟩
  cases k
  · obtain ⟨one', c, x, nx, u, v, t4, t5, hl, I⟩ := hf_loop zb 100000 true a 1 b 0 0 1 .no .no I0 (by rw [if_pos rfl]; omega)
    refine ⟨one', c, x, nx, u, v, ?_, I⟩
    simp [tmIte, f_hours_factor, runF, b_hours_factor, List.replicate, untup]
    rw [hl]
    simp
  · obtain ⟨one', c, x, nx, u, v, t4, t5, hl, I⟩ := wf_loop oa ob zb 100000 true a 1 b 0 0 1 .no .no I0 (by rw [if_pos rfl]; omega)
    refine ⟨one', c, x, nx, u, v, ?_, I⟩
    simp [tmIte, f_word_factor, runF, b_word_factor, List.replicate, untup]
    rw [hl]
    simp
theorem neg_pair {k : Kd} {a b x u c : Int} (h : k = .H) (hs : plusM k (timesM k a x) (timesM k b u) = c) : plusM k (timesM k a (-x)) (timesM k b (-u)) = -c := by
  subst h
  have h : a * x + b * u = c := hs
  show a * -x + b * -u = -c
  rw [Int.mul_neg, Int.mul_neg]; omega
noncomputable def dfTail : Ss_ :=
      (zSeq (zIf (yB (xOp (oEq id) (xVar 3) (xC (PyData.int 0)))) (zRet (xTup (aCons (xC (PyData.int 0)) (aCons (xC (PyData.int 0)) (aCons (xC (PyData.int 0)) (aCons (xC (PyData.int 0)) (aCons (xC (PyData.int 0)) aNil))))))) zNext)
      (zSeq (zAsg (xC (PyData.int 0)) (tgName 5))
      (zSeq (zIf (yB (xOp (oEq not) (xVar 2) (xC (PyData.int 0)))) (zAsg (xOp o_ix (xFn f_split_by 3 (aCons (xVar 0) (aCons (xFn f_minus 3 (aCons (xVar 0) (aCons (xVar 3) (aCons (xFn f_times 3 (aCons (xVar 0) (aCons (xVar 1) (aCons (xVar 4) aNil)))) aNil)))) (aCons (xVar 2) aNil)))) (xC (PyData.int 0))) (tgName 5)) zNext)
      (zRet (xTup (aCons (xVar 3) (aCons (xOp o_ix (xFn f_split_by 3 (aCons (xVar 0) (aCons (xVar 1) (aCons (xVar 3) aNil)))) (xC (PyData.int 0))) (aCons (xOp o_ix (xFn f_split_by 3 (aCons (xVar 0) (aCons (xVar 2) (aCons (xVar 3) aNil)))) (xC (PyData.int 0))) (aCons (xVar 4) (aCons (xVar 5) aNil))))))))))
/-- the greatest divisor with its factors -/
theorem df_val {k : Kd} {a b : Int} (oa : Ok k a) (ob : Ok k b) (za : sz a ≤ 900) (zb : sz b ≤ 900) (nz : a ≠ 0 ∨ b ≠ 0) :
    ∃ c p q x y, f_divisor_with_factors [dK k, dI a, dI b] = .done (.tuple [.int c, .int p, .int q, .int x, .int y]) ∧ Pap k a b c p q x y := by
  have z1 : sz 1 ≤ 1 := by decide +kernel
  obtain ⟨one', c, x, nx, u, v, hl, I⟩ := fac_val oa ob za zb
  obtain ⟨⟨oc, ox⟩, _, ou, _⟩ := I.ok
  have hg := I.g
  rw [gcd_end] at hg
  have xz : sz x ≤ 6 * sz b + 2 := by
    rcases I.st with ⟨_, h1, _⟩ | ⟨_, _, _, h1, _⟩
    · rw [h1]; omega
    · omega
  have gp := gcd_pos (k := k) nz
  have gz := sz_gcd (k := k) nz
  -- behind the sign
  have key : ∃ x' u', (c < 0 → x' = -x) ∧ (¬ c < 0 → x' = x) ∧ Ok k x' ∧ Ok k u' ∧ plusM k (timesM k a x') (timesM k b u') = gcdM k a b ∧ sz x' ≤ 6 * sz b + 2 := by
    by_cases hc : c < 0
    · have hk : k = .H := by cases k; rfl; exact absurd oc (by show ¬ 0 ≤ c; omega)
      refine ⟨-x, -u, fun _ => rfl, fun h => absurd hc h, by subst hk; trivial, by subst hk; trivial, ?_, by rw [sz_neg]; exact xz⟩
      rw [neg_pair hk I.s1, ← hg]; omega
    · exact ⟨x, u, fun h => absurd h hc, fun _ => rfl, ox, ou, by rw [I.s1, ← hg]; omega, xz⟩
  obtain ⟨x', u', e1, e2, ox', ou', hs, xz'⟩ := key
  obtain ⟨p, op, hp⟩ := gcd_left (k := k) oa ob
  obtain ⟨q, oq, hq⟩ := gcd_right (k := k) oa ob
  have og : Ok k (gcdM k a b) := ok_gcd
  have ng : gcdM k a b ≠ 0 := by omega
  have vp : quoM k a (gcdM k a b) = p := by
    have := (quo_exact (k := k) og op ng).1
    rw [← hp] at this; exact this
  have vq : quoM k b (gcdM k a b) = q := by
    have := (quo_exact (k := k) og oq ng).1
    rw [← hq] at this; exact this
  have zp := sz_quo (k := k) oa gp
  have zq := sz_quo (k := k) ob gp
  rw [vp] at zp; rw [vq] at zq
  have s1 := split_val oa og ng (by omega) (by omega)
  have s2 := split_val ob og ng (by omega) (by omega)
  rw [vp] at s1; rw [vq] at s2
  have hy : ∃ y, (if b = 0 then y = 0 else f_split_by [dK k, dI (timesM k b u'), dI b] = .done (.tuple [.int y, .int (remM k (timesM k b u') b)])) ∧ Ok k y ∧ plusM k (timesM k a x') (timesM k b y) = gcdM k a b := by
    by_cases hb : b = 0
    · refine ⟨0, by rw [if_pos hb], ok0 k, ?_⟩
      rw [hb] at hs ⊢
      rw [times_comm (a := 0) (b := u'), times_zero ou'] at hs
      rw [times_zero (ok0 k)]; exact hs
    · have otb := ok_times ob ou'
      have h1 := plus_left (ok_times oa ox') otb hs
      have ztb : sz (timesM k b u') ≤ 90000 := by
        rw [← h1]
        have := sz_times oa ox'
        have := sz_minus (n := 8000) (k := k) og (ok_times oa ox') (by omega) (by omega)
        omega
      refine ⟨quoM k (timesM k b u') b, ?_, ok_quo, ?_⟩
      · rw [if_neg hb]; exact split_val otb ob hb ztb (by omega)
      · rw [(quo_exact (k := k) ob ou' hb).1]; exact hs
  obtain ⟨y, hy1, oy, hy2⟩ := hy
  refine ⟨gcdM k a b, p, q, x', y, ?_, ⟨rfl, ⟨op, oq, ox', oy⟩, hp.symm, hq.symm, hy2, ⟨zp, zq, by omega⟩⟩⟩
  have em := times_val oa ox' (by omega) (by omega)
  have en := minus_val og (ok_times oa ox')
  have h1 := plus_left (ok_times oa ox') (ok_times ob ou') hs
  rw [h1] at en
  have eb : (b == 0) = decide (b = 0) := rfl
  have go : ∀ c x, (xIf (yB (xOp (oEq id) (xVar 0) (xC (PyData.str "hours")))) (xFn f_hours_factor 2 (aCons (xVar 1) (aCons (xVar 2) aNil))) (xFn f_word_factor 2 (aCons (xVar 1) (aCons (xVar 2) aNil)))) [dK k, dI a, dI b, .no, .no, .no] = .done (.tuple [.int c, .int x]) →
      f_divisor_with_factors [dK k, dI a, dI b] = (zSeq (zIf (yB (xOp o_lt (xVar 3) (xC (PyData.int 0)))) (zPar 3 4 (aCons (xUn o_neg (xVar 3)) (aCons (xUn o_neg (xVar 4)) aNil))) zNext) dfTail [dK k, dI a, dI b, dI c, dI x, .no]).bind fin := fun c x h => by
    show (zSeq (zAsg _ _) (zSeq _ dfTail) [dK k, dI a, dI b, .no, .no, .no]).bind fin = _
    rw [e_seq' (e' := [dK k, dI a, dI b, dI c, dI x, .no])]
    show (Tr.bind _ _) = _
    rw [h]
    simp [untup]
  have tl : (dfTail [dK k, dI a, dI b, dI (gcdM k a b), dI x', .no]).bind fin = .done (.tuple [.int (gcdM k a b), .int p, .int q, .int x', .int y]) := by
    by_cases hb : b = 0
    · rw [if_pos hb] at hy1
      subst hy1
      subst hb
      simp [dfTail, tmIte, ng, s1, s2]
    · rw [if_neg hb] at hy1
      simp [dfTail, tmIte, ng, hb, s1, s2, em, en, hy1]
  rw [go c x hl]
  by_cases hc : c < 0
  · have hcc : c = -gcdM k a b := by omega
    have hxx : x = -x' := by rw [e1 hc]; omega
    rw [e_seq' (e' := [dK k, dI a, dI b, dI (gcdM k a b), dI x', .no]) (by rw [hcc, hxx]; simp [tmIte, lt_nn, gp]), tl]
  · have hcc : c = gcdM k a b := by omega
    have hxx : x = x' := (e2 hc).symm
    rw [e_seq' (e' := [dK k, dI a, dI b, dI (gcdM k a b), dI x', .no]) (by rw [hcc, hxx]; simp [tmIte, lt_nn]; omega), tl]
end Hr
namespace Hr
open PySem PySem.Spec PyProof.Rows L2 Evl
/-! ### what is judged: kinds, numbers, rests -/
theorem flat_kinds : ([.str "hours", .str "bits"] : List PyData).all flatD = true := rfl
theorem is_kind_val (k : Kd) : f_is_kind [dK k] = .done (.bool true) := by
  have e : o_in id (.str (ks k)) (.tuple [.str "hours", .str "bits"]) = .done (.bool true) := by
    show (if flatD (.str (ks k)) = true ∧ ([.str "hours", .str "bits"] : List PyData).all flatD = true then Tr.done (PyData.bool (id (inD (.str (ks k)) [.str "hours", .str "bits"]))) else .fail) = _
    rw [if_pos ⟨rfl, rfl⟩]
    cases k
    · rw [show inD (.str (ks .H)) [.str "hours", .str "bits"] = true by decide +kernel]; rfl
    · rw [show inD (.str (ks .B)) [.str "hours", .str "bits"] = true by decide +kernel]; rfl
  simp [f_is_kind, runF, b_is_kind, isStrD, e]
@[simp] theorem check_kind_val (k : Kd) : f_check_kind [dK k] = .done .none := by
  simp [f_check_kind, runF, b_check_kind, tmIte, is_kind_val]
@[simp] theorem is_whole_val (i : Int) : f_is_whole [dI i] = .done (.bool true) := by
  simp [f_is_whole, runF, b_is_whole, isIntD, isBoolD]
@[simp] theorem is_count_val (i : Int) : f_is_count [dI i] = .done (.bool (decide (0 ≤ i))) := by
  simp [f_is_count, runF, b_is_count]
theorem check_count_val {i : Int} (h : 0 ≤ i) : f_check_count [dI i] = .done .none := by
  simp [f_check_count, runF, b_check_count, tmIte, h]
theorem is_number_val {k : Kd} {i : Int} (h : Ok k i) : f_is_number [dK k, dI i] = .done (.bool true) := by
  cases k
  · simp [f_is_number, runF, b_is_number]
  · have h' : 0 ≤ i := h
    simp [f_is_number, runF, b_is_number, h']
theorem may_tell_val {k : Kd} {a m : Int} (h : Rst k a m) : f_may_tell [dK k, dI a, dI m] = .done (.bool true) := by
  obtain ⟨oa, m0, hc⟩ := h
  have m0' : 0 ≤ m := m0
  by_cases hm : m = 0
  · subst hm
    simp [f_may_tell, runF, b_may_tell, tmIte, is_number_val oa]
  · cases k
    · have hb : 0 ≤ a ∧ a < m := Or.resolve_left hc hm
      simp [f_may_tell, runF, b_may_tell, tmIte, is_number_val oa, m0', hm, hb.1, hb.2]
    · have hb : sz a < sz m := Or.resolve_left hc hm
      simp [f_may_tell, runF, b_may_tell, tmIte, is_number_val oa, m0', hm, hb]
@[simp] theorem rest_fits_val {k : Kd} {a m : Int} (h : Rst k a m) : f_rest_fits [dK k, .dat (dR a m)] = .done (.bool true) := by
  simp [f_rest_fits, runF, b_rest_fits, isTupD, may_tell_val h]
/-- a list of rests -/
abbrev dRs (rs : List (Int × Int)) : PyData := .list (rs.map fun r => dR r.1 r.2)
theorem comp_all {mg : Gs_} {me : Ex_} {e : Env} : ∀ (ds : List PyData), (∀ d ∈ ds, ∃ e', mg d e = .done e' ∧ me e' = .done (.bool true)) → compM mg yYes me ds e = .done (ds.map fun _ => .bool true)
  | [], _ => rfl
  | d :: ds, h => by
    obtain ⟨e', h1, h2⟩ := h d (List.mem_cons_self ..)
    have ih := comp_all (e := e) ds fun x hx => h x (List.mem_cons_of_mem _ hx)
    show (mg d e).bind _ = _
    rw [h1, Tr.bind_done]
    show (Tr.done true).bind _ = _
    rw [Tr.bind_done, if_pos rfl, h2, Tr.bind_done, ih]; rfl
theorem bools_true (ds : List PyData) : boolsD (ds.map fun _ => .bool true) = some (ds.map fun _ => true) := by
  induction ds with
  | nil => rfl
  | cons d ds ih => show (boolsD (ds.map fun _ => PyData.bool true)).map _ = _; rw [ih]; rfl
theorem all_true (ds : List PyData) : o_all [.dat (.list (ds.map fun _ => .bool true))] = .done (.bool true) := by
  show (match boolsD (ds.map fun _ => PyData.bool true) with | some bs => Tr.done (PyData.bool (bs.all id)) | none => .fail) = _
  rw [bools_true]
  show Tr.done (PyData.bool ((ds.map fun _ => true).all id)) = _
  rw [List.all_map]
  congr 2
  rw [List.all_eq_true]; intros; rfl
theorem check_rests_val {k : Kd} {rs : List (Int × Int)} (h : ∀ r ∈ rs, Rst k r.1 r.2) (hl : rs.length ≤ 100000) : f_check_rests [dK k, .dat (dRs rs)] = .done .none := by
  have hc : ∀ e : Env, compM (tgName 2) yYes (xFn f_rest_fits 2 (aCons (xVar 0) (aCons (xVar 2) aNil))) (rs.map fun r => dR r.1 r.2) [dK k, .dat (dRs rs), .no] = .done ((rs.map fun r => dR r.1 r.2).map fun _ => .bool true) := fun e => by
    refine comp_all _ fun d hd => ?_
    obtain ⟨r, hr, rfl⟩ := List.mem_map.mp hd
    exact ⟨_, rfl, by simp [rest_fits_val (h r hr)]⟩
  have hc' : compL (tgName 2) yYes (xFn f_rest_fits 2 (aCons (xVar 0) (aCons (xVar 2) aNil))) [2] (rs.map fun r => dR r.1 r.2) [dK k, .dat (dRs rs), .no] = .done ((rs.map fun r => dR r.1 r.2).map fun _ => .bool true) := by
    unfold compL
    rw [if_pos (by rw [List.length_map]; exact hl)]
    exact hc []
  have ha := all_true (rs.map fun r => dR r.1 r.2)
  simp only [f_check_rests, runF, b_check_rests, List.replicate, List.cons_append, List.nil_append]
  simp [tmIte, isListD, itL]
  rw [hc']
  simp only [Tr.bind_done, ha]
  simp
/-! ### rests of two -/
theorem agree_val {k : Kd} {a m b n : Int} (p1 : Rst k a m) (p2 : Rst k b n) (za : sz a ≤ 800) (zm : sz m ≤ 400) (zb : sz b ≤ 800) (zn : sz n ≤ 400) : f_rests_agree [dK k, .dat (dR a m), .dat (dR b n)] = .done (.bool (decide (Mu k (gcdM k m n) (minusM k a b)))) := by
  have zg := sz_gcd' (k := k) (a := m) (b := n)
  have zd := sz_minus p1.1 p2.1 za zb
  have e1 := minus_val p1.1 p2.1
  have e2 := gcd_val (k := k) p1.om p2.om (by omega) (by omega)
  have e3 := factor_val (k := k) (ok_minus p1.1 p2.1) (ok_gcd (k := k) (a := m) (b := n)) (by omega) (by omega) (fun _ => by omega)
  simp [f_rests_agree, runF, b_rests_agree, e1, e2, e3]
/-! ### what two tell together -/
theorem rem_add {k : Kd} {q w z : Int} (oq : Ok k q) (ow : Ok k w) (oz : Ok k z) (q0 : 0 < q) : remM k (plusM k (timesM k q w) z) q = remM k z q := by
  cases k
  · show (if q = 0 then q * w + z else (q * w + z).fmod q) = (if q = 0 then z else z.fmod q)
    rw [if_neg (by omega), if_neg (by omega), Int.fmod_eq_emod_of_nonneg _ (by omega), Int.fmod_eq_emod_of_nonneg _ (by omega), Int.mul_add_emod_self_left]
  · obtain ⟨n, rfl⟩ := oq.nn
    obtain ⟨u, rfl⟩ := ow.nn
    obtain ⟨v, rfl⟩ := oz.nn
    have hn : 0 < n := by omega
    show ((Gf.rem (Gf.mul n u ^^^ v) n : Nat) : Int) = ((Gf.rem v n : Nat) : Int)
    congr 1
    have a := Gf.rem_spec (n := Gf.mul n u ^^^ v) hn
    have b := Gf.rem_spec (n := v) hn
    have e : Gf.mul n (u ^^^ Gf.quo v n) ^^^ Gf.rem v n = Gf.mul n (Gf.quo (Gf.mul n u ^^^ v) n) ^^^ Gf.rem (Gf.mul n u ^^^ v) n := by
      rw [← a.2, Gf.mul_xor, Nat.xor_assoc, ← b.2]
    exact (Gf.div_one hn b.1 a.1 e).2.symm
theorem bez_up {k : Kd} {n Q l x y c : Int} (on : Ok k n) (oQ : Ok k Q) (ol : Ok k l) (ox : Ok k x) (oy : Ok k y) (h : plusM k (timesM k l x) (timesM k n y) = c) :
    plusM k (timesM k (plusM k (timesM k n Q) l) x) (timesM k n (minusM k y (timesM k Q x))) = c := by
  cases k
  · have h : l * x + n * y = c := h
    show (n * Q + l) * x + n * (y - Q * x) = c
    rw [Int.add_mul, Int.mul_sub, ← Int.mul_assoc]; omega
  · obtain ⟨n, rfl⟩ := on.nn
    obtain ⟨Q, rfl⟩ := oQ.nn
    obtain ⟨l, rfl⟩ := ol.nn
    obtain ⟨x, rfl⟩ := ox.nn
    obtain ⟨y, rfl⟩ := oy.nn
    rw [← h]
    show ((Gf.mul (Gf.mul n Q ^^^ l) x ^^^ Gf.mul n (y ^^^ Gf.mul Q x) : Nat) : Int) = ((Gf.mul l x ^^^ Gf.mul n y : Nat) : Int)
    congr 1
    rw [Gf.xor_mul, Gf.mul_xor, ← Gf.mul_assoc]
    have : Gf.mul (Gf.mul n Q) x ^^^ Gf.mul l x ^^^ (Gf.mul n y ^^^ Gf.mul (Gf.mul n Q) x) = (Gf.mul (Gf.mul n Q) x ^^^ Gf.mul (Gf.mul n Q) x) ^^^ (Gf.mul l x ^^^ Gf.mul n y) := by ac_rfl
    rw [this, Nat.xor_self, Nat.zero_xor]
theorem up_two {k : Kd} {c q Q s : Int} (oc : Ok k c) (oq : Ok k q) (oQ : Ok k Q) (os : Ok k s) : plusM k (timesM k (timesM k c q) Q) (timesM k c s) = timesM k c (plusM k (timesM k q Q) s) := by
  cases k
  · show c * q * Q + c * s = c * (q * Q + s)
    rw [Int.mul_add, Int.mul_assoc]
  · obtain ⟨c, rfl⟩ := oc.nn
    obtain ⟨q, rfl⟩ := oq.nn
    obtain ⟨Q, rfl⟩ := oQ.nn
    obtain ⟨s, rfl⟩ := os.nn
    show ((Gf.mul (Gf.mul c q) Q ^^^ Gf.mul c s : Nat) : Int) = ((Gf.mul c (Gf.mul q Q ^^^ s) : Nat) : Int)
    rw [Gf.mul_xor, Gf.mul_assoc]
theorem up_x {k : Kd} {q Q s x : Int} (oq : Ok k q) (oQ : Ok k Q) (os : Ok k s) (ox : Ok k x) : timesM k (plusM k (timesM k q Q) s) x = plusM k (timesM k q (timesM k Q x)) (timesM k s x) := by
  cases k
  · show (q * Q + s) * x = q * (Q * x) + s * x
    rw [Int.add_mul, Int.mul_assoc]
  · obtain ⟨q, rfl⟩ := oq.nn
    obtain ⟨Q, rfl⟩ := oQ.nn
    obtain ⟨s, rfl⟩ := os.nn
    obtain ⟨x, rfl⟩ := ox.nn
    show ((Gf.mul (Gf.mul q Q ^^^ s) x : Nat) : Int) = ((Gf.mul q (Gf.mul Q x) ^^^ Gf.mul s x : Nat) : Int)
    rw [Gf.xor_mul, Gf.mul_assoc]
/-- what meet tells -/
def MeetR (k : Kd) (a m b n : Int) (r : PyData) : Prop := (¬ Mu k (gcdM k m n) (minusM k b a) ∧ r = .none) ∨ ∃ c l, r = dR c l ∧ Met k a m b n c l
theorem MeetR.swap {k : Kd} {a m b n : Int} {r : PyData} (oa : Ok k a) (ob : Ok k b) (h : MeetR k a m b n r) : MeetR k b n a m r := by
  rcases h with ⟨h, e⟩ | ⟨c, l, e, M⟩
  · refine .inl ⟨fun z => h ?_, e⟩
    rw [gcd_swap] at z
    exact mu_turn oa ob ok_gcd z
  · exact .inr ⟨c, l, e, M.swap⟩
theorem eq_H' (k : Kd) : oEq id (.str (ks k)) (.str "hours") = .done (.bool (isH k)) := eq_H k
theorem rem_mu {k : Kd} {z n c : Int} (oz : Ok k z) (on : Ok k n) (nn : n ≠ 0) (oc : Ok k c) (h : Mu k c n) : Mu k c (remM k z n) ↔ Mu k c z := by
  have e := quo_rem' (k := k) oz on nn
  have om := ok_times (k := k) on (ok_quo (k := k) (a := z) (b := n))
  have hm : Mu k c (timesM k n (quoM k z n)) := mu_trans oc on om h (mu_mul on ok_quo)
  have hl := plus_left om ok_rem e
  constructor
  · intro h1
    rw [← hl] at h1
    exact mu_back oz om oc h1 hm
  · intro h1
    rw [← hl]
    exact mu_minus oz om oc h1 hm
theorem meet_high {k : Kd} {a m b n : Int} (self : List Sl → Tr PyData) (p1 : Rst k a m) (p2 : Rst k b n) (za : sz a ≤ 700) (zm : sz m ≤ 140) (zb : sz b ≤ 700) (zn : sz n ≤ 140) (hmn : Mu k n m ∨ Mu k m n ∨ ¬ m < n) :
    ∃ r, runF 8 (b_meet self) [dK k, .dat (dR a m), .dat (dR b n)] = .done r ∧ MeetR k a m b n r := by
  have zd := sz_minus p2.1 p1.1 zb za
  have od := ok_minus p2.1 p1.1
  have om := p1.om
  have on := p2.om
  have e1 := minus_val p2.1 p1.1
  have f1 := factor_val om on (by omega) (by omega) (fun _ => by omega)
  have f2 := factor_val on om (by omega) (by omega) (fun _ => by omega)
  have f3 := factor_val od on (by omega) (by omega) (fun _ => by omega)
  have f4 := factor_val od om (by omega) (by omega) (fun _ => by omega)
  by_cases h1 : Mu k n m
  · have hr : remM k m n = 0 := h1
    have eg : gcdM k m n = n := by
      have := (gmN k).g_of ((mu_iff om on).mp h1)
      have n0 := p2.2.1
      rw [gcd_swap]
      show ((gN k n.natAbs m.natAbs : Nat) : Int) = n
      rw [this]; omega
    by_cases hd : Mu k n (minusM k b a)
    · have hd' : remM k (minusM k b a) n = 0 := hd
      refine ⟨dR a m, ?_, .inr ⟨a, m, rfl, met_one p1 p2.1 on h1 (mu_turn p2.1 p1.1 on hd)⟩⟩
      simp [runF, b_meet, tmIte, List.replicate, e1, f1, f3, hr, hd']
    · have hd' : remM k (minusM k b a) n ≠ 0 := hd
      refine ⟨.none, ?_, .inl ⟨by rw [eg]; exact hd, rfl⟩⟩
      simp [runF, b_meet, tmIte, List.replicate, e1, f1, f3, hr, hd']
  · have hr : remM k m n ≠ 0 := h1
    by_cases h2 : Mu k m n
    · have hr2 : remM k n m = 0 := h2
      have eg : gcdM k m n = m := by
        have := (gmN k).g_of ((mu_iff on om).mp h2)
        have m0 := p1.2.1
        show ((gN k m.natAbs n.natAbs : Nat) : Int) = m
        rw [this]; omega
      by_cases hd : Mu k m (minusM k b a)
      · have hd' : remM k (minusM k b a) m = 0 := hd
        refine ⟨dR b n, ?_, .inr ⟨b, n, rfl, (met_one p2 p1.1 om h2 hd).swap⟩⟩
        simp [runF, b_meet, tmIte, List.replicate, e1, f1, f2, f4, hr, hr2, hd']
      · have hd' : remM k (minusM k b a) m ≠ 0 := hd
        refine ⟨.none, ?_, .inl ⟨by rw [eg]; exact hd, rfl⟩⟩
        simp [runF, b_meet, tmIte, List.replicate, e1, f1, f2, f4, hr, hr2, hd']
    · have hr2 : remM k n m ≠ 0 := h2
      have hlt : ¬ m < n := (hmn.resolve_left h1).resolve_left h2
      have n0 : n ≠ 0 := fun z => h2 (by rw [z]; exact mu_zero om)
      have m0 : m ≠ 0 := fun z => h1 (by rw [z]; exact mu_zero on)
      have np : 0 < n := by have := p2.2.1; omega
      have ol : Ok k (remM k m n) := ok_rem
      have zl := sz_rem (k := k) om np
      have g1 := rest_val om on (by omega) (by omega) (fun _ => by omega)
      obtain ⟨c, p, q, x, y, g2, hP⟩ := df_val ol on (by omega) (by omega) (.inr n0)
      have hc : c = gcdM k m n := by rw [hP.val, gcd_swap, gcd_rem om on n0]
      have cp : 0 < c := by rw [hc]; exact gcd_pos (.inl m0)
      have oc : Ok k c := by rw [hc]; exact ok_gcd
      have zc : sz c ≤ 140 := by rw [hc]; exact Nat.le_trans sz_gcd' (by omega)
      obtain ⟨op, oq, ox, oy⟩ := hP.ok
      obtain ⟨_, zq, zx⟩ := hP.size
      have or_ : Ok k (remM k (minusM k b a) n) := ok_rem
      have zr := sz_rem (k := k) od np
      have g3 := rest_val od on (by omega) (by omega) (fun _ => by omega)
      have g4 := split_val or_ oc (by omega) (by omega) (by omega)
      have hcn : Mu k c n := by rw [hc]; exact gcd_mu_right on
      by_cases hd : remM k (remM k (minusM k b a) n) c = 0
      · have hs : remM k (minusM k b a) n = timesM k c (quoM k (remM k (minusM k b a) n) c) := by
          have := quo_rem' (k := k) or_ oc (by omega)
          rw [hd, plus_zero (ok_times oc ok_quo)] at this
          exact this.symm
        have os : Ok k (quoM k (remM k (minusM k b a) n) c) := ok_quo
        have zs := sz_quo (k := k) or_ cp
        have q0 : 0 < q := pos_factor cp oq np hP.hi
        have e0 := quo_rem' (k := k) od on n0
        have oQ : Ok k (quoM k (minusM k b a) n) := ok_quo
        generalize hQ : quoM k (minusM k b a) n = Q at *
        generalize hS : quoM k (remM k (minusM k b a) n) c = s at *
        have hap : minusM k b a = timesM k c (plusM k (timesM k q Q) s) := by
          rw [← up_two oc oq oQ os, hP.hi, ← hs]; exact e0.symm
        obtain ⟨p', op', hp'⟩ := gcd_left (k := k) om on
        have em := quo_rem' (k := k) om on n0
        have oQm : Ok k (quoM k m n) := ok_quo
        have sum' : plusM k (timesM k m x) (timesM k n (minusM k y (timesM k (quoM k m n) x))) = c := by
          have := bez_up on oQm ol ox oy hP.sum
          rw [em] at this; exact this
        have zp' : sz p' ≤ sz m := by
          have := (quo_exact (k := k) ok_gcd op' (show gcdM k m n ≠ 0 by omega)).1
          rw [← hp'] at this
          rw [← this]
          exact sz_quo (k := k) om (by omega)
        have P2 : Pap k m n c p' q x (minusM k y (timesM k (quoM k m n) x)) := ⟨hc, ⟨op', oq, ox, ok_minus oy (ok_times oQm ox)⟩, by rw [hc]; exact hp'.symm, hP.hi, sum', ⟨zp', zq, zx⟩⟩
        have M := met_main P2 p1 p2 m0 n0 (ok_plus (ok_times oq oQ) os) hap
        rw [up_x oq oQ os ox, rem_add oq (ok_times oQ ox) (ok_times os ox) q0] at M
        have osx := ok_times os ox
        have zsx := sz_times os ox
        have zxx : sz x ≤ 845 := by omega
        have g5 := times_val os ox (by omega) (by omega)
        have g6 := rest_val osx oq (by omega) (by omega) (fun _ => by omega)
        have zt := sz_rem (k := k) osx q0
        have ot : Ok k (remM k (timesM k s x) q) := ok_rem
        have g7 := times_val om ot (by omega) (by omega)
        have g8 := times_val om oq (by omega) (by omega)
        have g9 := plus_val p1.1 (ok_times om ot)
        refine ⟨dR _ _, ?_, .inr ⟨_, _, rfl, M⟩⟩
        simp [runF, b_meet, tmIte, List.replicate, untup, e1, f1, f2, hr, hr2, hlt, g1, g2, g3, g4, hd, g5, g6, g7, g8, g9]
      · refine ⟨.none, ?_, .inl ⟨fun z => hd ?_, rfl⟩⟩
        · simp [runF, b_meet, tmIte, List.replicate, untup, e1, f1, f2, hr, hr2, hlt, g1, g2, g3, g4, hd]
        · rw [← hc] at z
          exact (rem_mu od on n0 oc hcn).mpr z
theorem meet_val {k : Kd} {a m b n : Int} (p1 : Rst k a m) (p2 : Rst k b n) (za : sz a ≤ 700) (zm : sz m ≤ 140) (zb : sz b ≤ 700) (zn : sz n ≤ 140) : ∃ r, f_meet [dK k, .dat (dR a m), .dat (dR b n)] = .done r ∧ MeetR k a m b n r := by
  show ∃ r, runF 8 (b_meet (f_meetN 1)) [dK k, .dat (dR a m), .dat (dR b n)] = .done r ∧ MeetR k a m b n r
  by_cases h : Mu k n m ∨ Mu k m n ∨ ¬ m < n
  · exact meet_high _ p1 p2 za zm zb zn h
  · obtain ⟨r, e, M⟩ := meet_high (f_meetN 0) p2 p1 zb zn za zm (.inr (.inr (by omega)))
    have e' : f_meetN 1 [dK k, .dat (dR b n), .dat (dR a m)] = .done r := e
    refine ⟨r, ?_, M.swap p2.1 p1.1⟩
    have h1 : ¬ Mu k n m := fun z => h (.inl z)
    have h2 : ¬ Mu k m n := fun z => h (.inr (.inl z))
    have hlt : m < n := by
      rcases Classical.em (m < n) with z | z
      · exact z
      · exact absurd (.inr (.inr z)) h
    have hr : remM k m n ≠ 0 := h1
    have hr2 : remM k n m ≠ 0 := h2
    have e1 := minus_val p2.1 p1.1
    have f1 := factor_val p1.om p2.om (by omega) (by omega) (fun _ => by omega)
    have f2 := factor_val p2.om p1.om (by omega) (by omega) (fun _ => by omega)
    simp [runF, b_meet, tmIte, List.replicate, e1, f1, f2, hr, hr2, hlt, e']
end Hr
namespace Hr
open PySem PySem.Spec PyProof.Rows L2 Evl
/-! ### what all rests tell together -/
/-- a number keeps all -/
def KA (k : Kd) (rs : List (Int × Int)) (z : Int) : Prop := ∀ r ∈ rs, Mu k r.2 (minusM k z r.1)
/-- each two agree -/
def PA (k : Kd) (rs : List (Int × Int)) : Prop := rs.Pairwise fun r s => Mu k (gcdM k r.2 s.2) (minusM k s.1 r.1)
/-- they fit, and are of these sizes -/
def Fits (k : Kd) (rs : List (Int × Int)) : Prop := ∀ r ∈ rs, Rst k r.1 r.2 ∧ sz r.1 ≤ 600
def szs : List (Int × Int) → Nat
  | [] => 0
  | r :: rs => sz r.2 + szs rs
structure AllM (k : Kd) (rs : List (Int × Int)) (c l : Int) : Prop where
  rst : Rst k c l
  keeps : ∀ z, Ok k z → (KA k rs z ↔ Mu k l (minusM k z c))
  ag : ∀ b n, Ok k b → Ok k n → (∀ r ∈ rs, Mu k (gcdM k r.2 n) (minusM k b r.1)) → Mu k (gcdM k l n) (minusM k b c)
theorem gcd_lcm {k : Kd} {m n d : Int} : gcdM k (lcmM k m n) d = lcmM k (gcdM k m d) (gcdM k n d) := by
  have h := (gmN k).distr (lmN k) d.natAbs m.natAbs n.natAbs
  show ((gN k (lN k m.natAbs n.natAbs) d.natAbs : Nat) : Int) = ((lN k (gN k m.natAbs d.natAbs) (gN k n.natAbs d.natAbs) : Nat) : Int)
  congr 1
  rw [(gmN k).g_comm, h, (gmN k).g_comm d.natAbs, (gmN k).g_comm d.natAbs]
theorem lcm_least {k : Kd} {m n z : Int} (om : Ok k m) (on : Ok k n) (oz : Ok k z) (h1 : Mu k m z) (h2 : Mu k n z) : Mu k (lcmM k m n) z :=
  (mu_iff oz ok_lcm).mpr ((gmN k).l_least (lmN k) ((mu_iff oz om).mp h1) ((mu_iff oz on).mp h2))
theorem allM_step {k : Kd} {rs : List (Int × Int)} {c l b n c' l' : Int} (I : AllM k rs c l) (p : Rst k b n) (M : Met k c l b n c' l') : AllM k (rs ++ [(b, n)]) c' l' := by
  have oc := I.rst.1
  have ol := I.rst.om
  have ob := p.1
  have on := p.om
  have oc' := M.rst.1
  refine ⟨M.rst, fun z oz => ?_, fun b' n' ob' on' h => ?_⟩
  · rw [← M.keeps oc ol ob on oz, ← I.keeps z oz]
    unfold KA
    simp only [List.mem_append, List.mem_singleton]
    constructor
    · intro h; exact ⟨fun r hr => h r (.inl hr), h (b, n) (.inr rfl)⟩
    · rintro ⟨h1, h2⟩ r (hr | rfl)
      · exact h1 r hr
      · exact h2
  · have h1 := I.ag b' n' ob' on' fun r hr => h r (List.mem_append_left _ hr)
    have h2 : Mu k (gcdM k n n') (minusM k b' b) := h (b, n) (List.mem_append_right _ (List.mem_singleton.mpr rfl))
    rw [M.lcm, gcd_lcm]
    have d1 := mu_trans (k := k) ok_gcd ol (ok_minus oc' oc) (gcd_mu_left (n := n') ol) M.one
    have d2 := mu_trans (k := k) ok_gcd on (ok_minus oc' ob) (gcd_mu_left (n := n') on) M.two
    have e1 := mu_minus (ok_minus ob' oc) (ok_minus oc' oc) ok_gcd h1 d1
    have e2 := mu_minus (ok_minus ob' ob) (ok_minus oc' ob) ok_gcd h2 d2
    rw [minus_chain ob' oc oc'] at e1
    rw [minus_chain ob' ob oc'] at e2
    exact lcm_least ok_gcd ok_gcd (ok_minus ob' oc') e1 e2
theorem allM_nil (k : Kd) : AllM k [] 0 1 := by
  have o0 := ok0 k
  have m1 : ∀ z, Ok k z → Mu k 1 z := fun z oz => (mu_iff oz (ok1 k)).mpr ⟨z.natAbs, (by rw [(gmN k).comm, show ((1 : Int)).natAbs = 1 from rfl, (gmN k).one])⟩
  refine ⟨⟨o0, by decide, by cases k; exact .inr ⟨by decide, by decide⟩; exact .inr (by decide +kernel)⟩, fun z oz => ⟨fun _ => m1 _ (ok_minus oz o0), fun _ r hr => by cases hr⟩, fun b n ob on _ => ?_⟩
  have e : gcdM k 1 n = 1 := by
    show ((gN k 1 n.natAbs : Nat) : Int) = 1
    rw [(gmN k).g_of ⟨n.natAbs, by rw [(gmN k).comm, (gmN k).one]⟩]; rfl
  rw [e]; exact m1 _ (ok_minus ob o0)
theorem for_nil {body : PyData → Env → Tr Out} {e : Env} : forM body [] e = .done (.nx e) := rfl
theorem for_nx {body : PyData → Env → Tr Out} {d : PyData} {ds : List PyData} {e e' : Env} (h : body d e = .done (.nx e')) : forM body (d :: ds) e = forM body ds e' := by
  show (body d e).bind _ = _; rw [h]; rfl
theorem for_rt {body : PyData → Env → Tr Out} {d v : PyData} {ds : List PyData} {e : Env} (h : body d e = .done (.rt v)) : forM body (d :: ds) e = .done (.rt v) := by
  show (body d e).bind _ = _; rw [h]; rfl
theorem meet_fold {k : Kd} {R : PyData} : ∀ (rs done : List (Int × Int)) (c l : Int) (s : Sl), AllM k done c l → Fits k rs → sz l + szs rs ≤ 140 → sz c ≤ 700 →
    ∃ o, forM (loopBody (tgName 3) l_meet_all_1) (rs.map fun r => dR r.1 r.2) [dK k, .dat R, .dat (dR c l), s] = .done o ∧
      ((o = .rt .none ∧ (∀ z, Ok k z → ¬ KA k (done ++ rs) z) ∧ ¬ PA k (done ++ rs)) ∨ ∃ c' l' s', o = .nx [dK k, .dat R, .dat (dR c' l'), s'] ∧ AllM k (done ++ rs) c' l' ∧ sz l' ≤ 140 ∧ sz c' ≤ 700)
  | [], done, c, l, s, I, _, hz, hc => ⟨_, for_nil, .inr ⟨c, l, s, rfl, by rw [List.append_nil]; exact I, by unfold szs at hz; omega, hc⟩⟩
  | (b, n) :: rs, done, c, l, s, I, hf, hz, hc => by
    have p : Rst k b n := (hf (b, n) (List.mem_cons_self ..)).1
    have zb : sz b ≤ 600 := (hf (b, n) (List.mem_cons_self ..)).2
    have hz' : sz l + (sz n + szs rs) ≤ 140 := hz
    obtain ⟨r, e, M⟩ := meet_val I.rst p hc (by omega) (by omega) (by omega)
    rcases M with ⟨hn, rfl⟩ | ⟨c', l', rfl, M⟩
    · refine ⟨.rt .none, for_rt (by simp [loopBody, l_meet_all_1, tmIte, e]), .inl ⟨rfl, fun z oz h => hn ?_, fun h => hn ?_⟩⟩
      · have h1 := (I.keeps z oz).mp fun r hr => h r (List.mem_append_left _ hr)
        have h2 : Mu k n (minusM k z b) := h (b, n) (List.mem_append_right _ (List.mem_cons_self ..))
        exact agree_of I.rst.1 I.rst.om p.1 p.om oz h1 h2
      · refine I.ag b n p.1 p.om fun r hr => ?_
        exact (List.pairwise_append.mp h).2.2 r hr (b, n) (List.mem_cons_self ..)
    · have sz' := M.szc I.rst p
      have I' := allM_step I p M
      obtain ⟨o, e2, h2⟩ := meet_fold rs (done ++ [(b, n)]) c' l' (.dat (dR b n)) I' (fun r hr => hf r (List.mem_cons_of_mem _ hr)) (by omega) (by omega)
      rw [List.append_assoc, List.singleton_append] at h2
      refine ⟨o, ?_, h2⟩
      rw [List.map_cons, for_nx (e' := [dK k, .dat R, .dat (dR c' l'), .dat (dR b n)]) (by simp [loopBody, l_meet_all_1, tmIte, e])]
      exact e2
/-- what meet_all tells -/
def AllR (k : Kd) (rs : List (Int × Int)) (r : PyData) : Prop := (r = .none ∧ (∀ z, Ok k z → ¬ KA k rs z) ∧ ¬ PA k rs) ∨ ∃ c l, r = dR c l ∧ AllM k rs c l ∧ sz l ≤ 140 ∧ sz c ≤ 700
theorem meet_all_val {k : Kd} {rs : List (Int × Int)} (h : Fits k rs) (hz : szs rs ≤ 139) : ∃ r, f_meet_all [dK k, .dat (dRs rs)] = .done r ∧ AllR k rs r := by
  have s1 : sz 1 ≤ 1 := by decide +kernel
  obtain ⟨o, e, h2⟩ := meet_fold (R := dRs rs) rs [] 0 1 .no (allM_nil k) h (by omega) (by rw [sz_zero]; omega)
  rw [List.nil_append] at h2
  have e' : forM (loopBody (tgName 3) l_meet_all_1) (rs.map fun r => dR r.1 r.2) [dK k, .dat (dRs rs), .dat (.tuple [.int 0, .int 1]), .no] = .done o := e
  rcases h2 with ⟨rfl, h3, h4⟩ | ⟨c, l, s', rfl, I, h3, h4⟩
  · exact ⟨.none, by simp [f_meet_all, runF, b_meet_all, List.replicate, itL, e'], .inl ⟨rfl, h3, h4⟩⟩
  · exact ⟨dR c l, by simp [f_meet_all, runF, b_meet_all, List.replicate, itL, e'], .inr ⟨c, l, rfl, I, h3, h4⟩⟩
theorem met_rests_val {k : Kd} {rs : List (Int × Int)} (h : Fits k rs) (hz : szs rs ≤ 139) (hl : rs.length ≤ 100000) : ∃ r, f_met_rests [dK k, .dat (dRs rs)] = .done r ∧ AllR k rs r := by
  obtain ⟨r, e, h2⟩ := meet_all_val h hz
  have c := check_rests_val (k := k) (rs := rs) (fun r hr => (h r hr).1) hl
  exact ⟨r, by simp [f_met_rests, runF, b_met_rests, c, e], h2⟩
/-! ### the first two that do not agree -/
theorem szs_mem : ∀ {rs : List (Int × Int)} {r : Int × Int}, r ∈ rs → sz r.2 ≤ szs rs
  | x :: rs, r, h => by
    have e : szs (x :: rs) = sz x.2 + szs rs := rfl
    rcases List.mem_cons.mp h with rfl | h
    · omega
    · have := szs_mem h; omega
theorem span_cons (lo : Int) (n : Nat) : spanD lo (n + 1) = .int lo :: spanD (lo + 1) n := by
  unfold spanD
  rw [List.range_succ_eq_map, List.map_cons, List.map_map]
  congr 1
  · show PyData.int (lo + ((0 : Nat) : Int)) = .int lo
    congr 1; omega
  · apply List.map_congr_left
    intro i _
    show PyData.int (lo + ((i + 1 : Nat) : Int)) = .int (lo + 1 + (i : Int))
    congr 1; omega
@[simp] theorem span_0 (lo : Int) : spanD lo 0 = [] := rfl
def Ag (k : Kd) (r s : Int × Int) : Prop := Mu k (gcdM k r.2 s.2) (minusM k r.1 s.1)
instance (k : Kd) (r s : Int × Int) : Decidable (Ag k r s) := by unfold Ag Mu; infer_instance
theorem fa_in {k : Kd} {rs : List (Int × Int)} {i : Int} {r : Int × Int} (hf : Fits k rs) (hz : szs rs ≤ 139) (hr : r ∈ rs) : ∀ (cnt j : Nat) (s4 : Sl), j + cnt = rs.length →
    ∃ o, forM (loopBody (tgName 4) l_first_apart_1) (spanD (j : Int) cnt) [dK k, .dat (dRs rs), dI i, .dat (dR r.1 r.2), s4] = .done o ∧
      ((∃ (j' : Nat) (hj : j' < rs.length), o = .rt (.tuple [.int i, .int (j' : Int)]) ∧ j ≤ j' ∧ ¬ Ag k r rs[j'] ∧ ∀ (j2 : Nat) (h2 : j2 < rs.length), j ≤ j2 → j2 < j' → Ag k r rs[j2]) ∨
       ∃ s', o = .nx [dK k, .dat (dRs rs), dI i, .dat (dR r.1 r.2), s'] ∧ ∀ (j2 : Nat) (h2 : j2 < rs.length), j ≤ j2 → Ag k r rs[j2])
  | 0, j, s4, h => ⟨_, for_nil, .inr ⟨s4, rfl, fun j2 h2 h3 => by omega⟩⟩
  | cnt + 1, j, s4, h => by
    have hj : j < rs.length := by omega
    have hix : o_ix (dRs rs) (.int (j : Int)) = .done (dR rs[j].1 rs[j].2) := ix_l (by rw [List.getElem?_map, List.getElem?_eq_getElem hj]; rfl)
    have p1 := hf r hr
    have p2 := hf rs[j] (List.getElem_mem hj)
    have z1 := szs_mem hr
    have z2 := szs_mem (List.getElem_mem hj)
    have ea := agree_val p1.1 p2.1 (by omega) (by omega) (by omega) (by omega)
    rw [span_cons]
    by_cases ha : Ag k r rs[j]
    · have ha' : Mu k (gcdM k r.2 rs[j].2) (minusM k r.1 rs[j].1) := ha
      obtain ⟨o, e, h2⟩ := fa_in (i := i) hf hz hr cnt (j + 1) (dI (j : Int)) (by omega)
      refine ⟨o, ?_, ?_⟩
      · rw [for_nx (e' := [dK k, .dat (dRs rs), dI i, .dat (dR r.1 r.2), dI (j : Int)]) (by simp [loopBody, l_first_apart_1, tmIte, hix, ea, ha'])]
        exact e
      · rcases h2 with ⟨j', hj', e1, h3, h4, h5⟩ | ⟨s', e1, h3⟩
        · refine .inl ⟨j', hj', e1, by omega, h4, fun j2 h2 l1 l2 => ?_⟩
          by_cases e2 : j2 = j
          · subst e2; exact ha
          · exact h5 j2 h2 (by omega) l2
        · refine .inr ⟨s', e1, fun j2 h2 l1 => ?_⟩
          by_cases e2 : j2 = j
          · subst e2; exact ha
          · exact h3 j2 h2 (by omega)
    · have ha' : ¬ Mu k (gcdM k r.2 rs[j].2) (minusM k r.1 rs[j].1) := ha
      exact ⟨_, for_rt (v := .tuple [.int i, .int (j : Int)]) (by simp [loopBody, l_first_apart_1, tmIte, hix, ea, ha']), .inl ⟨j, hj, rfl, Nat.le_refl _, ha, fun j2 _ l1 l2 => by omega⟩⟩
theorem rng2_ok {i j : Int} (h0 : -1000000 ≤ i) (h1 : i ≤ 1000000) (h2 : -1000000 ≤ j) (h3 : j ≤ 1000000) : rng2 [dI i, dI j] = .done (spanD i (j - i).toNat) := by
  unfold rng2
  dsimp only
  rw [if_pos ⟨(inB i).mpr (by omega), (inB j).mpr (by omega)⟩]
/-- the first two in order that do not agree -/
def FirstA (k : Kd) (rs : List (Int × Int)) (r : PyData) : Prop := (r = .none ∧ ∀ (i j : Nat) (hi : i < rs.length) (hj : j < rs.length), i < j → Ag k rs[i] rs[j]) ∨
  ∃ (i j : Nat) (hi : i < rs.length) (hj : j < rs.length), r = .tuple [.int (i : Int), .int (j : Int)] ∧ i < j ∧ ¬ Ag k rs[i] rs[j] ∧
    ∀ (i2 j2 : Nat) (hi2 : i2 < rs.length) (hj2 : j2 < rs.length), i2 < j2 → (i2 < i ∨ (i2 = i ∧ j2 < j)) → Ag k rs[i2] rs[j2]
theorem fa_out {k : Kd} {rs : List (Int × Int)} (hf : Fits k rs) (hz : szs rs ≤ 139) (hl : rs.length ≤ 10000) : ∀ (m i : Nat) (s2 s3 s4 : Sl), i + m = rs.length →
    (∀ (i2 j2 : Nat) (hi2 : i2 < rs.length) (hj2 : j2 < rs.length), i2 < j2 → i2 < i → Ag k rs[i2] rs[j2]) →
    ∃ o, forM (loopBody (tgTup 2 (tgCons (tgName 2) (tgCons (tgName 3) tgNil))) l_first_apart_2) (numD i ((rs.drop i).map fun r => dR r.1 r.2)) [dK k, .dat (dRs rs), s2, s3, s4] = .done o ∧
      (∃ r, FirstA k rs r ∧ (o = .rt r ∧ r ≠ .none ∨ ∃ e, o = .nx e ∧ r = .none))
  | 0, i, s2, s3, s4, h, hA => by
    have : rs.drop i = [] := List.drop_eq_nil_of_le (by omega)
    rw [this]
    exact ⟨_, for_nil, .none, .inl ⟨rfl, fun i2 j2 h1 h2 l => hA i2 j2 h1 h2 l (by omega)⟩, .inr ⟨_, rfl, rfl⟩⟩
  | m + 1, i, s2, s3, s4, h, hA => by
    have hi : i < rs.length := by omega
    rw [List.drop_eq_getElem_cons hi, List.map_cons]
    show ∃ o, forM _ (.tuple [.int (i : Int), dR rs[i].1 rs[i].2] :: numD (i + 1) _) _ = .done o ∧ _
    obtain ⟨o, e, h2⟩ := fa_in (i := (i : Int)) (r := rs[i]) hf hz (List.getElem_mem hi) (rs.length - (i + 1)) (i + 1) s4 (by omega)
    have hr : rng2 [dI ((i : Int) + 1), dI (rs.length : Int)] = .done (spanD ((i + 1 : Nat) : Int) (rs.length - (i + 1))) := by
      have e1 : ((rs.length : Int) - ((i : Int) + 1)).toNat = rs.length - (i + 1) := by omega
      rw [← e1]
      exact rng2_ok (by omega) (by omega) (by omega) (by omega)
    have body : loopBody (tgTup 2 (tgCons (tgName 2) (tgCons (tgName 3) tgNil))) l_first_apart_2 (.tuple [.int (i : Int), dR rs[i].1 rs[i].2]) [dK k, .dat (dRs rs), s2, s3, s4] = .done o := by
      have u : tgTup 2 (tgCons (tgName 2) (tgCons (tgName 3) tgNil)) (.tuple [.int (i : Int), dR rs[i].1 rs[i].2]) [dK k, .dat (dRs rs), s2, s3, s4] = .done [dK k, .dat (dRs rs), dI (i : Int), .dat (dR rs[i].1 rs[i].2), s4] := rfl
      have v : iCall rng2 (aCons (xOp o_add (xVar 2) (xC (PyData.int 1))) (aCons (xCb o_len (aCons (xVar 1) aNil)) aNil)) [dK k, .dat (dRs rs), dI (i : Int), .dat (dR rs[i].1 rs[i].2), s4] = .done (spanD ((i + 1 : Nat) : Int) (rs.length - (i + 1))) := by
        rw [← hr]
        have : o_len [.dat (dRs rs)] = .done (.int (rs.length : Int)) := by rw [← List.length_map (f := fun r : Int × Int => dR r.1 r.2)]; rfl
        simp only [iCall, aCons, aNil, xOp, opK, asgK, consK, tupK, lstK, slK, slK2, xVar, xC, xCb, rd_0, rd_s, Tr.bind_done, add_ii, this]
      show (tgTup 2 (tgCons (tgName 2) (tgCons (tgName 3) tgNil)) (.tuple [.int (i : Int), dR rs[i].1 rs[i].2]) [dK k, .dat (dRs rs), s2, s3, s4]).bind l_first_apart_2 = .done o
      rw [u, Tr.bind_done]
      show (iCall rng2 (aCons (xOp o_add (xVar 2) (xC (PyData.int 1))) (aCons (xCb o_len (aCons (xVar 1) aNil)) aNil)) [dK k, .dat (dRs rs), dI (i : Int), .dat (dR rs[i].1 rs[i].2), s4]).bind (fun ds => forM (loopBody (tgName 4) l_first_apart_1) ds [dK k, .dat (dRs rs), dI (i : Int), .dat (dR rs[i].1 rs[i].2), s4]) = .done o
      rw [v, Tr.bind_done]
      exact e
    rcases h2 with ⟨j', hj', e1, h3, h4, h5⟩ | ⟨s', e1, h3⟩
    · subst e1
      refine ⟨_, for_rt body, _, .inr ⟨i, j', hi, hj', rfl, by omega, h4, fun i2 j2 hi2 hj2 l1 l2 => ?_⟩, .inl ⟨rfl, nofun⟩⟩
      rcases l2 with l2 | ⟨rfl, l2⟩
      · exact hA i2 j2 hi2 hj2 l1 l2
      · exact h5 j2 hj2 (by omega) l2
    · subst e1
      obtain ⟨o2, e2, r, h6⟩ := fa_out hf hz hl m (i + 1) (dI (i : Int)) (.dat (dR rs[i].1 rs[i].2)) s' (by omega) (fun i2 j2 hi2 hj2 l1 l2 => by
        by_cases e3 : i2 = i
        · subst e3; exact h3 j2 hj2 (by omega)
        · exact hA i2 j2 hi2 hj2 l1 (by omega))
      exact ⟨o2, by rw [for_nx body]; exact e2, r, h6⟩
theorem first_apart_val {k : Kd} {rs : List (Int × Int)} (hf : Fits k rs) (hz : szs rs ≤ 139) (hl : rs.length ≤ 10000) : ∃ r, f_first_apart [dK k, .dat (dRs rs)] = .done r ∧ FirstA k rs r := by
  have c := check_rests_val (k := k) (rs := rs) (fun r hr => (hf r hr).1) (by omega)
  obtain ⟨o, e, r, h1, h2⟩ := fa_out hf hz hl rs.length 0 .no .no .no (by omega) (fun _ _ _ _ _ l => by omega)
  have he : enu [.dat (dRs rs)] = .done (numD 0 (rs.map fun r => dR r.1 r.2)) := rfl
  rw [List.drop_zero] at e
  refine ⟨r, ?_, h1⟩
  rcases h2 with ⟨rfl, _⟩ | ⟨e2, rfl, rfl⟩
  · have e' := e
    simp [f_first_apart, runF, b_first_apart, List.replicate, c, he, e']
  · have e' := e
    simp [f_first_apart, runF, b_first_apart, List.replicate, c, he, e']
end Hr
namespace Hr
open PySem PySem.Spec PyProof.Rows L2 Evl
/-! ### how many keep, and which -/
def Wi : Kd → Int → Int → Prop
  | .H, c, s => 0 ≤ c ∧ c < s
  | .B, c, s => (sz c : Int) ≤ s
instance (k : Kd) (c s : Int) : Decidable (Wi k c s) := by cases k <;> (unfold Wi; infer_instance)
theorem within_val (k : Kd) (c s : Int) : f_is_within [dK k, dI c, dI s] = .done (.bool (decide (Wi k c s))) := by
  cases k
  · by_cases h : 0 ≤ c <;> simp [f_is_within, runF, b_is_within, tmIte, h, Wi]
  · simp [f_is_within, runF, b_is_within, tmIte, Wi]
def howV (k : Kd) (c l s : Int) : Int := if Wi k c s then (if l = 0 then 1 else match k with | .H => (s - 1 - c) / l + 1 | .B => ((2 ^ (s + 1 - sz l).toNat : Nat) : Int)) else 0
theorem how_none {k : Kd} {rs : List (Int × Int)} {s : Int} (hf : Fits k rs) (hl : rs.length ≤ 100000) (s0 : 0 ≤ s) (hm : f_meet_all [dK k, .dat (dRs rs)] = .done .none) : f_how_many_keep [dK k, .dat (dRs rs), dI s] = .done (.int 0) := by
  have c1 := check_rests_val (k := k) (rs := rs) (fun r hr => (hf r hr).1) hl
  simp [f_how_many_keep, runF, b_how_many_keep, tmIte, List.replicate, c1, check_count_val s0, hm]
theorem shl_one {j : Int} (h0 : 0 ≤ j) (h : j ≤ 1000000) : o_shl (.int 1) (.int j) = .done (.int ((2 ^ j.toNat : Nat) : Int)) := by
  obtain ⟨n, rfl⟩ := Int.eq_ofNat_of_zero_le h0
  have := shl_nn (i := 1) (j := n) (by decide +kernel) (by omega)
  rw [show ((n : Int)).toNat = n from rfl]
  rw [Nat.one_mul] at this
  exact this
theorem how_some {k : Kd} {rs : List (Int × Int)} {s c l : Int} (hf : Fits k rs) (hl : rs.length ≤ 100000) (s0 : 0 ≤ s) (sb : k = .B → s ≤ 100000) (hm : f_meet_all [dK k, .dat (dRs rs)] = .done (dR c l)) (zl : sz l ≤ 8000) (l0 : 0 ≤ l) : f_how_many_keep [dK k, .dat (dRs rs), dI s] = .done (.int (howV k c l s)) := by
  have c1 := check_rests_val (k := k) (rs := rs) (fun r hr => (hf r hr).1) hl
  by_cases hw : Wi k c s
  · by_cases z : l = 0
    · subst z
      simp [f_how_many_keep, runF, b_how_many_keep, tmIte, List.replicate, c1, check_count_val s0, hm, within_val, hw, howV, untup]
    · cases k
      · have := div_ii (i := s - 1 - c) (j := l) (by omega) (by omega)
        simp [f_how_many_keep, runF, b_how_many_keep, tmIte, List.replicate, c1, check_count_val s0, hm, within_val, hw, howV, untup, z, this]
      · have hb := sb rfl
        have e : (if (sz l : Int) < s + 1 then s + 1 - (sz l : Int) else 0) = ((s + 1 - (sz l : Int)).toNat : Int) := by split <;> omega
        have := shl_one (j := ((s + 1 - (sz l : Int)).toNat : Int)) (by omega) (by omega)
        rw [show (((s + 1 - (sz l : Int)).toNat : Int)).toNat = (s + 1 - (sz l : Int)).toNat from rfl] at this
        simp [f_how_many_keep, runF, b_how_many_keep, tmIte, List.replicate, c1, check_count_val s0, hm, within_val, hw, howV, untup, z]
        rw [e, this]
        simp
  · simp [f_how_many_keep, runF, b_how_many_keep, tmIte, List.replicate, c1, check_count_val s0, hm, within_val, hw, howV]
def numV (k : Kd) (c l s : Int) : Int := match k with
  | .H => c + l * s
  | .B => if l = 0 then c + l * s else plusM .B (plusM .B (((s.toNat * 2 ^ (sz l - 1) : Nat)) : Int) (remM .B (((s.toNat * 2 ^ (sz l - 1) : Nat)) : Int) l)) c
theorem sz_up {n d : Nat} : sz ((n * 2 ^ d : Nat) : Int) ≤ sz (n : Int) + d := by
  rw [sz_nat, sz_nat]
  refine Gf.bl_le.mpr ?_
  rw [Nat.pow_add]
  exact Nat.mul_lt_mul_of_pos_right (Gf.bl_le.mp (Nat.le_refl _)) (Nat.two_pow_pos d)
theorem numbered_val {k : Kd} {s c l : Int} (p : Rst k c l) (zl : sz l ≤ 140) (s0 : 0 ≤ s) (zs : sz s ≤ 600) : f_numbered_count [dK k, .dat (dR c l), dI s] = .done (.int (numV k c l s)) := by
  have m1 := mul_ii (i := l) (j := s) (by omega)
  cases k
  · simp [f_numbered_count, runF, b_numbered_count, tmIte, List.replicate, untup, m1, numV]
  · by_cases z : l = 0
    · subst z
      simp [f_numbered_count, runF, b_numbered_count, tmIte, List.replicate, untup, m1, numV]
    · obtain ⟨n, rfl⟩ := Int.eq_ofNat_of_zero_le s0
      obtain ⟨d, hd⟩ : ∃ d, sz l = d + 1 := ⟨sz l - 1, by
        have : sz l ≠ 0 := fun e => z (by
          have : l.natAbs = 0 := Gf.bl_eq_zero.mp e
          omega)
        omega⟩
      have hb : n.log2 ≤ 1000000 := by
        rcases Nat.eq_zero_or_pos n with q | q
        · rw [q]; decide +kernel
        · have : n.log2 ≤ n.log2 + 1 := by omega
          have e : sz (n : Int) = n.log2 + 1 := by rw [sz_nat]; unfold Gf.bl; rw [if_neg (by omega)]
          omega
      have e1 := shl_nn (i := n) (j := d) hb (by omega)
      have zu := sz_up (n := n) (d := d)
      have e2 := rest_val (k := .B) (a := ((n * 2 ^ d : Nat) : Int)) (b := l) (Int.natCast_nonneg _) p.om (by omega) (by omega) (fun _ => by omega)
      have hq : ∀ x y : Int, 0 ≤ x → 0 ≤ y → o_xor (.int x) (.int y) = .done (.int (plusM .B x y)) := fun x y hx hy => by
        obtain ⟨i, rfl⟩ := Int.eq_ofNat_of_zero_le hx
        obtain ⟨j, rfl⟩ := Int.eq_ofNat_of_zero_le hy
        rfl
      have c0 : (0 : Int) ≤ c := p.1
      have r0 : (0 : Int) ≤ remM .B ((n * 2 ^ d : Nat) : Int) l := ok_rem (k := .B)
      have e3 := hq ((n * 2 ^ d : Nat) : Int) (remM .B ((n * 2 ^ d : Nat) : Int) l) (Int.natCast_nonneg _) r0
      have e4 := hq (plusM .B ((n * 2 ^ d : Nat) : Int) (remM .B ((n * 2 ^ d : Nat) : Int) l)) c (ok_plus (k := .B) (Int.natCast_nonneg _) r0) c0
      have e5 : (sz l : Int) - 1 = (d : Int) := by omega
      have e6 : numV .B c l n = plusM .B (plusM .B ((n * 2 ^ d : Nat) : Int) (remM .B ((n * 2 ^ d : Nat) : Int) l)) c := by
        unfold numV; dsimp only; rw [if_neg z, hd]; rfl
      rw [e6]
      generalize plusM .B (plusM .B ((n * 2 ^ d : Nat) : Int) (remM .B ((n * 2 ^ d : Nat) : Int) l)) c = R4 at *
      generalize plusM .B ((n * 2 ^ d : Nat) : Int) (remM .B ((n * 2 ^ d : Nat) : Int) l) = R3 at *
      generalize remM .B ((n * 2 ^ d : Nat) : Int) l = R2 at *
      generalize ((n * 2 ^ d : Nat) : Int) = R1 at *
      simp [f_numbered_count, runF, b_numbered_count, tmIte, List.replicate, untup, z, e1, e2, e3, e4, hd]
theorem kept_none {k : Kd} {rs : List (Int × Int)} {s : Int} (hf : Fits k rs) (hl : rs.length ≤ 100000) (s0 : 0 ≤ s) (hm : f_meet_all [dK k, .dat (dRs rs)] = .done .none) : f_kept_numbered [dK k, .dat (dRs rs), dI s] = .done .none := by
  have c1 := check_rests_val (k := k) (rs := rs) (fun r hr => (hf r hr).1) hl
  simp [f_kept_numbered, runF, b_kept_numbered, tmIte, List.replicate, c1, check_count_val s0, hm]
def keptV (k : Kd) (c l s : Int) : PyData := if l = 0 ∧ (c < 0 ∨ 0 < s) then .none else .int (numV k c l s)
theorem kept_some {k : Kd} {rs : List (Int × Int)} {s c l : Int} (hf : Fits k rs) (hl : rs.length ≤ 100000) (s0 : 0 ≤ s) (zs : sz s ≤ 600) (hm : f_meet_all [dK k, .dat (dRs rs)] = .done (dR c l)) (p : Rst k c l) (zl : sz l ≤ 140) : f_kept_numbered [dK k, .dat (dRs rs), dI s] = .done (keptV k c l s) := by
  have c1 := check_rests_val (k := k) (rs := rs) (fun r hr => (hf r hr).1) hl
  have n1 := numbered_val p zl s0 zs
  by_cases z : l = 0
  · by_cases z1 : c < 0
    · simp [f_kept_numbered, runF, b_kept_numbered, tmIte, List.replicate, c1, check_count_val s0, hm, keptV, z, z1]
    · by_cases z2 : 0 < s
      · simp [f_kept_numbered, runF, b_kept_numbered, tmIte, List.replicate, c1, check_count_val s0, hm, keptV, z, z1, z2]
      · subst z
        simp [f_kept_numbered, runF, b_kept_numbered, tmIte, List.replicate, c1, check_count_val s0, hm, keptV, z1, z2, n1]
  · simp [f_kept_numbered, runF, b_kept_numbered, tmIte, List.replicate, c1, check_count_val s0, hm, keptV, z, n1]
/-- the same run tells what met_rests tells -/
theorem met_of_all {k : Kd} {rs : List (Int × Int)} {r : PyData} (hf : Fits k rs) (hl : rs.length ≤ 100000) (hm : f_meet_all [dK k, .dat (dRs rs)] = .done r) : f_met_rests [dK k, .dat (dRs rs)] = .done r := by
  have c := check_rests_val (k := k) (rs := rs) (fun r hr => (hf r hr).1) hl
  simp [f_met_rests, runF, b_met_rests, c, hm]
end Hr
namespace Hr
open PySem PySem.Spec PyProof.Rows L2 Evl
/-! ### data of numbers: what repr tells of them, when they are equal -/
theorem ok_app (a b : Str) : PyData.strOk (a ++ b) = (PyData.strOk a && PyData.strOk b) := by
  show ((a.cps ++ b.cps).all fun c => decide (c < 0x110000)) = _
  rw [Array.all_append]; rfl
theorem ok_of (s : String) : PyData.strOk (Str.ofString s) = true := by
  rw [Str.ofString_eq_toList]
  unfold PyData.strOk
  simp only [List.all_toArray, List.all_map, List.all_eq_true, Function.comp_def]
  intro c hc
  refine decide_eq_true ?_
  have : c.toNat < 0x110000 := by
    have h := c.valid
    have e : c.toNat = c.val.toNat := rfl
    have h : c.val.toNat.isValidChar := h
    rw [e]
    rcases h with h | h
    · omega
    · exact h.2
  exact this
theorem ok_from : ∀ (ts : List Str) (k : Nat) (acc : Str), (∀ t ∈ ts, PyData.strOk t = true) → PyData.strOk acc = true → PyData.strOk (textFrom k acc ts) = true
  | [], _, _, _, h => h
  | t :: ts, k, acc, h1, h2 => by
    refine ok_from ts (k + 1) _ (fun x hx => h1 x (List.mem_cons_of_mem _ hx)) ?_
    rw [ok_app, ok_app, h2, h1 t (List.mem_cons_self ..), ok_of]; rfl
theorem ok_list {ts : List Str} (h : ∀ t ∈ ts, PyData.strOk t = true) : PyData.strOk (listText ts) = true := by
  unfold listText
  rw [ok_app, ok_from ts 0 _ h (ok_of _), ok_of]; rfl
theorem ok_join : ∀ {ts : List Str}, (∀ t ∈ ts, PyData.strOk t = true) → PyData.strOk (Str.join ", " ts) = true
  | [], _ => ok_of ""
  | [x], h => h x (List.mem_cons_self ..)
  | x :: y :: ts, h => by
    show PyData.strOk (x ++ ", " ++ Str.join ", " (y :: ts)) = true
    rw [ok_app, ok_app, h x (List.mem_cons_self ..), ok_of, ok_join fun t ht => h t (List.mem_cons_of_mem _ ht)]; rfl
theorem ok_tuple {ts : List Str} (h : ∀ t ∈ ts, PyData.strOk t = true) : PyData.strOk (tupleText ts) = true := by
  unfold tupleText
  rw [ok_app, ok_app, ok_of, ok_join h, ok_of]; rfl
mutual
def numy : PyData → Bool
  | .none | .bool _ | .int _ => true
  | .list xs | .tuple xs => numyA xs
  | _ => false
def numyA : List PyData → Bool
  | [] => true
  | x :: xs => numy x && numyA xs
end
mutual
theorem numy_ok : ∀ d : PyData, numy d = true → PyData.strOk d.shown = true ∧ d.canLay0 = true
  | .none, _ => ⟨ok_of _, rfl⟩
  | .bool b, _ => ⟨by cases b <;> exact ok_of _, rfl⟩
  | .int i, _ => ⟨ok_of _, rfl⟩
  | .list xs, h => ⟨ok_list (numyA_ok xs h).1, (numyA_ok xs h).2⟩
  | .tuple xs, h => ⟨ok_tuple (numyA_ok xs h).1, (numyA_ok xs h).2⟩
  | .str _, h => by cases h
  | .dict _, h => by cases h
theorem numyA_ok : ∀ xs : List PyData, numyA xs = true → (∀ t ∈ PyData.shownAll xs, PyData.strOk t = true) ∧ PyData.canLayAll0 xs = true
  | [], _ => ⟨fun _ h => (by cases h), rfl⟩
  | x :: xs, h => by
    have h' : (numy x && numyA xs) = true := h
    rw [Bool.and_eq_true] at h'
    obtain ⟨a, b⟩ := numy_ok x h'.1
    obtain ⟨c, e⟩ := numyA_ok xs h'.2
    refine ⟨fun t ht => ?_, ?_⟩
    · have ht : t ∈ x.shown :: PyData.shownAll xs := ht
      rcases List.mem_cons.mp ht with rfl | ht
      · exact a
      · exact c t ht
    · show (PyData.canLay0 x && PyData.canLayAll0 xs) = true
      rw [b, e]; rfl
end
structure Tame (d : PyData) : Prop where
  num : numy d = true
  nt : neat d = true
  cs : cost d ≤ 10000000
  dp : d.depth ≤ 50
theorem Tame.rep {d : PyData} (h : Tame d) : o_repr [.dat d] = .done (.str d.shown) := if_pos ⟨h.nt, h.cs, h.dp⟩
theorem shp_str {x : Str} (h : PyData.strOk x = true) : shp (.str x) = true := by
  show (PyData.strOk x && decide (PyData.depth (.str x) ≤ 64)) = true
  rw [h, Bool.true_and]; exact decide_eq_true (show (0 : Nat) ≤ 64 by decide)
theorem Tame.shs {d : PyData} (h : Tame d) : shp (.str d.shown) = true := shp_str (numy_ok d h.num).1
theorem Tame.shd {d : PyData} (h : Tame d) : shp d = true := by
  have := h.dp
  show (d.canLay0 && decide (d.depth ≤ 64)) = true
  rw [(numy_ok d h.num).2, Bool.true_and]; exact decide_eq_true (by omega)
/-- reprs of equal things are equal -/
theorem Tame.eqs {d : PyData} {f : Bool → Bool} (h : Tame d) : oEq f (.str d.shown) (.str d.shown) = .done (.bool (f true)) := by
  rw [oEq_ok h.shs h.shs, eqv_str, beq_self_eq_true]
theorem Tame.eqd {d : PyData} {f : Bool → Bool} (h : Tame d) : oEq f d d = .done (.bool (f true)) := by
  rw [oEq_ok h.shd h.shd, SeqAt.eqv_refl d (numy_ok d h.num).2]
theorem tame_int {i : Int} (h : sz i ≤ 1900) : Tame (.int i) := ⟨rfl, decide_eq_true (by have := log_sz i; omega), by show (1921 : Nat) ≤ _; decide, Nat.zero_le _⟩
theorem tame_none : Tame .none := ⟨rfl, rfl, by show (5 : Nat) ≤ _; decide, Nat.zero_le _⟩
theorem tame_bool (b : Bool) : Tame (.bool b) := ⟨rfl, rfl, by show (5 : Nat) ≤ _; decide, Nat.zero_le _⟩
/-- lists and tuples of tame things, each not dear -/
theorem all_num : ∀ {ds : List PyData}, (∀ d ∈ ds, numy d = true) → numyA ds = true
  | [], _ => rfl
  | d :: ds, h => by
    show (numy d && numyA ds) = true
    rw [h d (List.mem_cons_self ..), all_num fun x hx => h x (List.mem_cons_of_mem _ hx)]; rfl
theorem all_neat : ∀ {ds : List PyData}, (∀ d ∈ ds, neat d = true) → neats ds = true
  | [], _ => rfl
  | d :: ds, h => by
    show (neat d && neats ds) = true
    rw [h d (List.mem_cons_self ..), all_neat fun x hx => h x (List.mem_cons_of_mem _ hx)]; rfl
theorem all_cost {B : Nat} : ∀ {ds : List PyData}, (∀ d ∈ ds, cost d ≤ B) → costs ds ≤ ds.length * (B + 2)
  | [], _ => Nat.zero_le _
  | d :: ds, h => by
    have h1 := h d (List.mem_cons_self ..)
    have h2 := all_cost (B := B) fun x hx => h x (List.mem_cons_of_mem _ hx)
    show cost d + 2 + costs ds ≤ _
    rw [List.length_cons, Nat.succ_mul]; omega
theorem all_dep {B : Nat} : ∀ {ds : List PyData}, (∀ d ∈ ds, d.depth ≤ B) → PyData.depthAll ds ≤ B
  | [], _ => Nat.zero_le _
  | d :: ds, h => by
    have h1 := h d (List.mem_cons_self ..)
    have h2 := all_dep (B := B) fun x hx => h x (List.mem_cons_of_mem _ hx)
    show max d.depth (PyData.depthAll ds) ≤ B
    omega
/-- tame things of a given depth and cost -/
structure TameB (B D : Nat) (d : PyData) : Prop where
  num : numy d = true
  nt : neat d = true
  cs : cost d ≤ B
  dp : d.depth ≤ D
theorem TameB.tame {B D : Nat} {d : PyData} (h : TameB B D d) (hb : B ≤ 10000000) (hd : D ≤ 50) : Tame d := ⟨h.num, h.nt, Nat.le_trans h.cs hb, Nat.le_trans h.dp hd⟩
theorem tb_int {i : Int} (h : sz i ≤ 1900) : TameB 1921 0 (.int i) := ⟨rfl, decide_eq_true (by have := log_sz i; omega), Nat.le_refl _, Nat.zero_le _⟩
theorem tb_list {B D N : Nat} {ds : List PyData} (h : ∀ d ∈ ds, TameB B D d) (hl : ds.length ≤ N) : TameB (N * (B + 2) + 3) (D + 1) (.list ds) := by
  refine ⟨all_num fun d hd => (h d hd).num, all_neat fun d hd => (h d hd).nt, ?_, ?_⟩
  · have := all_cost (B := B) fun d hd => (h d hd).cs
    have h2 := Nat.mul_le_mul_right (B + 2) hl
    show costs ds + 3 ≤ _
    omega
  · have := all_dep (B := D) fun d hd => (h d hd).dp
    show PyData.depthAll ds + 1 ≤ _
    omega
theorem tb_tuple {B D N : Nat} {ds : List PyData} (h : ∀ d ∈ ds, TameB B D d) (hl : ds.length ≤ N) : TameB (N * (B + 2) + 3) (D + 1) (.tuple ds) := by
  refine ⟨all_num fun d hd => (h d hd).num, all_neat fun d hd => (h d hd).nt, ?_, ?_⟩
  · have := all_cost (B := B) fun d hd => (h d hd).cs
    have h2 := Nat.mul_le_mul_right (B + 2) hl
    show costs ds + 3 ≤ _
    omega
  · have := all_dep (B := D) fun d hd => (h d hd).dp
    show PyData.depthAll ds + 1 ≤ _
    omega
theorem tb_rest {a m : Int} (ha : sz a ≤ 1900) (hm : sz m ≤ 1900) : TameB 3849 1 (dR a m) := tb_tuple (B := 1921) (D := 0) (N := 2) (fun d hd => by
  rcases List.mem_cons.mp hd with rfl | hd
  · exact tb_int ha
  · rcases List.mem_cons.mp hd with rfl | hd
    · exact tb_int hm
    · cases hd) (Nat.le_refl _)
/-- lists of numbers -/
abbrev dL (xs : List Int) : PyData := .list (xs.map .int)
theorem eqvA_ints : ∀ xs ys : List Int, PyData.eqvAll (xs.map .int) (ys.map .int) = decide (xs = ys)
  | [], [] => rfl
  | [], _ :: _ => rfl
  | _ :: _, [] => rfl
  | x :: xs, y :: ys => by
    show (PyData.eqv (.int x) (.int y) && PyData.eqvAll (xs.map .int) (ys.map .int)) = _
    rw [eqvA_ints xs ys, eqv_ii]
    by_cases h1 : x = y <;> by_cases h2 : xs = ys <;> simp [h1, h2]
theorem eqv_dL (xs ys : List Int) : PyData.eqv (dL xs) (dL ys) = decide (xs = ys) := eqvA_ints xs ys
theorem shp_dL (xs : List Int) : shp (dL xs) = true := by
  have h1 := numyA_ok (xs.map .int) (all_num fun d hd => by
    obtain ⟨i, _, rfl⟩ := List.mem_map.mp hd; rfl)
  have h2 := all_dep (B := 0) (ds := xs.map .int) fun d hd => by
    obtain ⟨i, _, rfl⟩ := List.mem_map.mp hd; exact Nat.le_refl _
  show (PyData.canLayAll0 (xs.map .int) && decide (PyData.depthAll (xs.map .int) + 1 ≤ 64)) = true
  rw [h1.2, Bool.true_and]; exact decide_eq_true (by omega)
theorem eq_dL (f : Bool → Bool) (xs ys : List Int) : oEq f (dL xs) (dL ys) = .done (.bool (f (decide (xs = ys)))) := by rw [oEq_ok (shp_dL xs) (shp_dL ys), eqv_dL]
theorem eq_dL0 (f : Bool → Bool) (xs : List Int) : oEq f (dL xs) (.list []) = .done (.bool (f (decide (xs = [])))) := eq_dL f xs []
end Hr
namespace Hr
open PySem PySem.Spec PyProof.Rows L2 Evl
/-! ### ways with mirrors that draw -/
@[simp] theorem bind_draw {α β : Type} (b : Int) (k : Int → Tr α) (f : α → Tr β) : (Tr.draw b k).bind f = .draw b fun z => (k z).bind f := rfl
@[simp] theorem all_draw {α : Type} (P : α → Nat → Prop) (b : Int) (k : Int → Tr α) (n : Nat) : (Tr.draw b k).all P n = (0 < b ∧ sz b ≤ 2000 ∧ 0 < n ∧ ∀ z, 0 ≤ z → z < b → (k z).all P (n - 1)) := rfl
theorem bind_okS {α : Type} (t : Tr α) : (t.bind fun a => Tr.done a) = t := Tr.bind_ok t
theorem all_seq {α β : Type} {t : Tr α} {f : α → Tr β} {P : α → Nat → Prop} {Q : β → Nat → Prop} {n : Nat} (h : t.all P n) (h2 : ∀ a m, P a m → (f a).all Q m) : (t.bind f).all Q n := Tr.all_bind.mpr (Tr.all_mono h2 h)
theorem all_eq {α : Type} {t : Tr α} {a : α} {P : α → Nat → Prop} {n : Nat} (e : t = .done a) (h : P a n) : t.all P n := by rw [e]; exact h
theorem forM_all {body : PyData → Env → Tr Out} (I : Nat → Env → Nat → Prop) : ∀ (ds : List PyData) (j : Nat) (e : Env) (n : Nat), I j e n →
    (∀ i d e m, ds[i]? = some d → I (j + i) e m → (body d e).all (fun o m' => ∃ e', o = .nx e' ∧ I (j + i + 1) e' m') m) →
    (forM body ds e).all (fun o m' => ∃ e', o = .nx e' ∧ I (j + ds.length) e' m') n
  | [], j, e, n, h, _ => ⟨e, rfl, h⟩
  | d :: ds, j, e, n, h, hb => by
    show ((body d e).bind _).all _ n
    refine all_seq (hb 0 d e n rfl h) ?_
    rintro o m ⟨e', rfl, h'⟩
    have := forM_all I ds (j + 1) e' m h' (fun i d e m hi he => by
      have h3 := hb (i + 1) d e m hi (by rw [show j + (i + 1) = j + 1 + i by omega]; exact he)
      rw [show j + (i + 1) + 1 = j + 1 + i + 1 by omega] at h3
      exact h3)
    rw [show j + 1 + ds.length = j + (d :: ds).length by rw [List.length_cons]; omega] at this
    exact this
theorem comp_map {α : Type} {mg : Gs_} {mt : Ts_} {me : Ex_} {e : Env} (g : α → PyData) (q : α → Bool) : ∀ xs : List α, (∀ x ∈ xs, ∃ e', mg (g x) e = .done e' ∧ mt e' = .done (q x) ∧ me e' = .done (g x)) → compM mg mt me (xs.map g) e = .done ((xs.filter q).map g)
  | [], _ => rfl
  | x :: xs, h => by
    obtain ⟨e', h1, h2, h3⟩ := h x (List.mem_cons_self ..)
    have ih := comp_map g q xs fun y hy => h y (List.mem_cons_of_mem _ hy)
    show (mg (g x) e).bind _ = _
    rw [h1, Tr.bind_done]
    show (mt e').bind _ = _
    rw [h2, Tr.bind_done, h3, Tr.bind_done, ih]
    cases hq : q x
    · rw [List.filter_cons_of_neg (by rw [hq]; exact nofun)]; rfl
    · rw [List.filter_cons_of_pos hq]; rfl
theorem compL_map {α : Type} {mg : Gs_} {mt : Ts_} {me : Ex_} {e : Env} {vs : List Nat} (g : α → PyData) (q : α → Bool) (xs : List α) (hl : xs.length ≤ 100000) (h : ∀ x ∈ xs, ∃ e', mg (g x) (noM vs e) = .done e' ∧ mt e' = .done (q x) ∧ me e' = .done (g x)) :
    compL mg mt me vs (xs.map g) e = .done ((xs.filter q).map g) := by
  unfold compL
  rw [if_pos (by rw [List.length_map]; exact hl)]
  exact comp_map g q xs h
theorem random_all {b : Int} {n : Nat} (h0 : 0 < b) (hb : sz b ≤ 2000) (hn : 0 < n) : (f_law_random [.gen, dI b]).all (fun d m => ∃ z, 0 ≤ z ∧ z < b ∧ d = .int z ∧ m = n - 1) n :=
  ⟨h0, hb, hn, fun z z0 zb => ⟨z, z0, zb, rfl, rfl⟩⟩
/-! ### one step of a mirror after the other -/
section
variable {ms mu : Ss_} {mt mt2 : Ts_} {ma mb me : Ex_} {e e' : Env} {n : Nat} {d x y : PyData} {b : Bool} {Q : Out → Nat → Prop}
theorem e_seq (h : ms e = .done (.nx e')) : zSeq ms mu e = mu e' := by show (ms e).bind _ = _; rw [h]; rfl
theorem e_seqR (h : ms e = .done (.rt d)) : zSeq ms mu e = .done (.rt d) := by show (ms e).bind _ = _; rw [h]; rfl
theorem q_seq (h : ms e = .done (.nx e')) (h2 : (mu e').all Q n) : (zSeq ms mu e).all Q n := by rw [e_seq h]; exact h2
theorem q_seqA {P : Env → Nat → Prop} (h : (ms e).all (fun o m => ∃ e', o = .nx e' ∧ P e' m) n) (h2 : ∀ e' m, P e' m → (mu e').all Q m) : (zSeq ms mu e).all Q n :=
  all_seq h fun o m ⟨e', h3, h4⟩ => by subst h3; exact h2 e' m h4
theorem e_asg {i : Nat} (h : me e = .done d) : zAsg me (tgName i) e = .done (.nx (e.set i (.dat d))) := by show (me e).bind _ = _; rw [h]; rfl
theorem e_frz {i : Nat} : zFrz i ms e = ms (frz i e) := rfl
theorem e_if (h : mt e = .done b) : zIf mt ms mu e = if b = true then ms e else mu e := by show tmIte mt ms mu e = _; unfold tmIte; rw [h]; rfl
theorem e_ifT (h : mt e = .done true) : zIf mt ms mu e = ms e := by rw [e_if h]; rfl
theorem e_ifF (h : mt e = .done false) : zIf mt ms mu e = mu e := by rw [e_if h]; rfl
theorem e_next : zNext e = .done (.nx e) := rfl
theorem e_ret (h : me e = .done d) : zRet me e = .done (.rt d) := by show (me e).bind _ = _; rw [h]; rfl
theorem e_var {i : Nat} (h : rd i e = .done d) : xVar i e = .done d := h
theorem e_op {g : PyData → PyData → Tr PyData} {r : Tr PyData} (ha : ma e = .done x) (hb : mb e = .done y) (h : g x y = r) : xOp g ma mb e = r := by show (ma e).bind _ = _; rw [ha, Tr.bind_done]; show (mb e).bind _ = _; rw [hb]; exact h
theorem e_B (h : me e = .done (.bool b)) : yB me e = .done b := by show (me e).bind _ = _; rw [h]; rfl
theorem e_tru (h : me e = .done d) (h2 : truth d = .done b) : yTru me e = .done b := by show (me e).bind _ = _; rw [h]; exact h2
theorem e_not (h : mt e = .done b) : yNot mt e = .done (!b) := by show (mt e).bind _ = _; rw [h]; rfl
theorem e_and {c : Bool} (h : mt e = .done b) (h2 : b = true → mt2 e = .done c) : yAnd mt mt2 e = .done (b && c) := by
  show (mt e).bind _ = _
  rw [h, Tr.bind_done]
  cases b
  · rfl
  · show mt2 e = _; rw [h2 rfl]; rfl
theorem e_or {c : Bool} (h : mt e = .done b) (h2 : b = false → mt2 e = .done c) : yOr mt mt2 e = .done (b || c) := by
  show (mt e).bind _ = _
  rw [h, Tr.bind_done]
  cases b
  · show mt2 e = _; rw [h2 rfl]; rfl
  · rfl
theorem e_cb {g : List Sl → Tr PyData} {mr : As_} {es : List Sl} {r : Tr PyData} (h : mr e = .done es) (h2 : g es = r) : xCb g mr e = r := by show (mr e).bind _ = _; rw [h]; exact h2
theorem e_fn {g : List Sl → Tr PyData} {j : Nat} {mr : As_} {es : List Sl} {r : Tr PyData} (h : mr e = .done es) (hl : es.length = j) (h2 : g es = r) : xFn g j mr e = r := by show (mr e).bind _ = _; rw [h, Tr.bind_done, lenIs_n _ _ _ hl]; exact h2
theorem e_nil : aNil e = .done [] := rfl
theorem e_cons {mr : As_} {es : List Sl} (h : me e = .done d) (h2 : mr e = .done es) : aCons me mr e = .done (.dat d :: es) := by show (me e).bind _ = _; rw [h, Tr.bind_done]; show (mr e).bind _ = _; rw [h2]; rfl
theorem e_gen {i : Nat} {mr : As_} {es : List Sl} (h : rdGen i e = .done ()) (h2 : mr e = .done es) : aGen i mr e = .done (.gen :: es) := by show (rdGen i e).bind _ = _; rw [h, Tr.bind_done]; show (mr e).bind _ = _; rw [h2]; rfl
theorem e_lc {mg : Gs_} {vs : List Nat} {ds ys : List PyData} (h : ma e = .done (.list ds)) (h2 : compL mg mt me vs ds e = .done ys) : xEl (xLc (iSeq itL ma) mg mt me vs) e = .done (.list ys) := by
  show (((ma e).bind itL).bind fun ds => compL mg mt me vs ds e).bind _ = _
  rw [h]
  show (compL mg mt me vs ds e).bind _ = _
  rw [h2]; rfl
theorem e_l0 : xEl (xLst aNil) e = .done (.list []) := rfl
theorem e_andX (h : ma e = .done (.bool true)) (h2 : mb e = .done d) : xAnd ma mb e = .done d := by
  show (ma e).bind _ = _
  rw [h, Tr.bind_done]
  show (Tr.done true).bind _ = _
  rw [Tr.bind_done]
  show mb e = _
  exact h2
theorem e_ifx (h : mt e = .done b) : xIf mt ma mb e = if b = true then ma e else mb e := by show tmIte mt ma mb e = _; unfold tmIte; rw [h]; rfl
theorem e_for {mi : Is_} {mg : Gs_} {ds : List PyData} (h : mi e = .done ds) : zFor mi mg ms e = forM (loopBody mg ms) ds e := by show (mi e).bind _ = _; rw [h]; rfl
theorem e_rng {f : List Sl → Tr (List PyData)} {mr : As_} {es : List Sl} {ds : List PyData} (h : mr e = .done es) (h2 : f es = .done ds) : iCall f mr e = .done ds := by show (mr e).bind _ = _; rw [h]; exact h2
theorem q_frzIf {i : Nat} {mr : Ss_} (hf : frz i e = e) (h : mt e = .done false) (h2 : (mu e).all Q n) : (zSeq (zFrz i (zIf mt mr zNext)) mu e).all Q n := by
  refine q_seq (e' := e) ?_ h2
  rw [e_frz, hf, e_ifF h]
theorem q_if {mr : Ss_} (h : mt e = .done false) (h2 : (mu e).all Q n) : (zSeq (zIf mt mr zNext) mu e).all Q n := by
  refine q_seq (e' := e) ?_ h2
  rw [e_ifF h]
theorem q_frzA {i j : Nat} (hf : frz i e = e) (h : me e = .done d) (h2 : (mu (e.set j (.dat d))).all Q n) : (zSeq (zFrz i (zAsg me (tgName j))) mu e).all Q n := by
  refine q_seq ?_ h2
  rw [e_frz, hf, e_asg h]
theorem q_asg {j : Nat} (h : me e = .done d) (h2 : (mu (e.set j (.dat d))).all Q n) : (zSeq (zAsg me (tgName j)) mu e).all Q n := by
  refine q_seq ?_ h2
  rw [e_asg h]
/-! the words unfolded -/
theorem u_parOwn {i j : Nat} {ml : Is_} : zParOwn i j me ml e = (me e).bind fun x => (ml e).bind fun ds => .done (.nx ((e.set i (.dat x)).set j (.own ds))) := rfl
theorem u_for {mi : Is_} {mg : Gs_} : zFor mi mg ms e = (mi e).bind fun ds => forM (loopBody mg ms) ds e := rfl
theorem u_call {f : List Sl → Tr (List PyData)} {mr : As_} : iCall f mr e = (mr e).bind f := rfl
theorem u_cons {mr : As_} : aCons me mr e = (me e).bind fun d => (mr e).bind fun ds => .done (.dat d :: ds) := rfl
theorem u_nil : aNil e = .done [] := rfl
theorem u_asg {mg : Gs_} : zAsg me mg e = (me e).bind fun d => (mg d e).bind fun e' => .done (.nx e') := rfl
theorem u_name {i : Nat} : tgName i d e = .done (e.set i (.dat d)) := rfl
theorem u_lst {mr : As_} : xLst mr e = (mr e).bind fun es => (dats es).bind (few id) := rfl
theorem u_body {i : Nat} : loopBody (tgName i) ms d e = ms (e.set i (.dat d)) := rfl
theorem u_var {i : Nat} : xVar i e = rd i e := rfl
theorem u_c : xC d e = .done d := rfl
theorem q_asgA {j : Nat} {P : PyData → Nat → Prop} (h : (me e).all P n) (h2 : ∀ d m, P d m → (mu (e.set j (.dat d))).all Q m) : (zSeq (zAsg me (tgName j)) mu e).all Q n := by
  refine q_seqA (P := fun e' m => ∃ d, e' = e.set j (.dat d) ∧ P d m) ?_ ?_
  · rw [u_asg]
    exact all_seq h fun d m hd => ⟨_, rfl, d, rfl, hd⟩
  · rintro e' m ⟨d, rfl, hd⟩; exact h2 d m hd
end
/-! ### reckoning from the front: what comes behind is not looked at -/
/-- a comprehension, each item by what it is -/
theorem comp_fm {α : Type} {mg : Gs_} {mt : Ts_} {me : Ex_} {e : Env} (g h : α → PyData) (q : α → Bool) : ∀ xs : List α, (∀ x ∈ xs, ∃ e', mg (g x) e = .done e' ∧ mt e' = .done (q x) ∧ (q x = true → me e' = .done (h x))) → compM mg mt me (xs.map g) e = .done ((xs.filter q).map h)
  | [], _ => rfl
  | x :: xs, hx => by
    obtain ⟨e', h1, h2, h3⟩ := hx x (List.mem_cons_self ..)
    have ih := comp_fm g h q xs fun y hy => hx y (List.mem_cons_of_mem _ hy)
    show (mg (g x) e).bind _ = _
    rw [h1, Tr.bind_done]
    show (mt e').bind _ = _
    rw [h2, Tr.bind_done]
    cases hq : q x
    · rw [if_neg nofun, ih, List.filter_cons_of_neg (by rw [hq]; exact nofun)]
    · rw [if_pos rfl, h3 hq, Tr.bind_done, ih, List.filter_cons_of_pos hq]; rfl
theorem compL_fm {α : Type} {mg : Gs_} {mt : Ts_} {me : Ex_} {e : Env} {vs : List Nat} (g h : α → PyData) (q : α → Bool) (xs : List α) (hl : xs.length ≤ 100000) (hx : ∀ x ∈ xs, ∃ e', mg (g x) (noM vs e) = .done e' ∧ mt e' = .done (q x) ∧ (q x = true → me e' = .done (h x))) :
    compL mg mt me vs (xs.map g) e = .done ((xs.filter q).map h) := by
  unfold compL
  rw [if_pos (by rw [List.length_map]; exact hl)]
  exact comp_fm g h q xs hx
/-- one in which things are drawn -/
theorem comp_all_draw {α : Type} {mg : Gs_} {me : Ex_} {e : Env} (h : α → PyData) (R : α → Prop) (c : Nat) : ∀ (ds : List PyData) (n : Nat), (∀ d ∈ ds, ∃ e', mg d e = .done e' ∧ ∀ m, n ≤ m + c * ds.length → (me e').all (fun y k => ∃ x, y = h x ∧ R x ∧ m ≤ k + c) m) →
    (compM mg yYes me ds e).all (fun ys k => ∃ xs : List α, ys = xs.map h ∧ xs.length = ds.length ∧ (∀ x ∈ xs, R x) ∧ n ≤ k + c * ds.length) n
  | [], n, _ => ⟨[], rfl, rfl, fun _ h => (by cases h), by omega⟩
  | d :: ds, n, hx => by
    obtain ⟨e', h1, h2⟩ := hx d (List.mem_cons_self ..)
    show ((mg d e).bind _).all _ n
    rw [h1, Tr.bind_done]
    show ((Tr.done true).bind _).all _ n
    rw [Tr.bind_done, if_pos rfl]
    refine all_seq (h2 n (by omega)) ?_
    rintro y k ⟨x, rfl, hR, hk⟩
    have lm : c * (d :: ds).length = c * ds.length + c := by rw [List.length_cons, Nat.mul_succ]
    refine all_seq (comp_all_draw h R c ds k fun d' hd => ?_) ?_
    · obtain ⟨e2, h3, h4⟩ := hx d' (List.mem_cons_of_mem _ hd)
      exact ⟨e2, h3, fun m hm => h4 m (by rw [lm]; omega)⟩
    · rintro ys k2 ⟨xs, rfl, hl, hRs, hk2⟩
      refine ⟨x :: xs, rfl, by rw [List.length_cons, hl]; rfl, fun z hz => ?_, by rw [lm]; omega⟩
      rcases List.mem_cons.mp hz with rfl | hz
      · exact hR
      · exact hRs z hz
theorem spanL (lo : Int) (n : Nat) : (spanD lo n).length = n := by unfold spanD; simp
@[simp] theorem fmod_pos' {i j : Int} (h : 0 < j) : i.fmod j = i % j := Int.fmod_eq_emod_of_nonneg i (by omega)
@[simp] theorem lt_ii' (i j : Int) : o_lt (.int i) (.int j) = .done (.bool (decide (i < j))) := rfl
@[simp] theorem untup_2 (m : List PyData → Env → Tr Env) (a b : PyData) (e : Env) : untup 2 m (.tuple [a, b]) e = m [a, b] e := rfl
theorem rng1_ok {j : Int} (h0 : -1000000 ≤ j) (h1 : j ≤ 1000000) : rng1 [dI j] = .done (spanD 0 j.toNat) := by
  unfold rng1
  dsimp only
  rw [if_pos ((inB j).mpr (by omega))]
@[simp] theorem eq_00 (f : Bool → Bool) : oEq f (.list []) (.list []) = .done (.bool (f true)) := eq_dL f [] []
@[simp] theorem eq_dLn (f : Bool → Bool) (xs : List Int) : oEq f (.list (xs.map .int)) (.list []) = .done (.bool (f (decide (xs = [])))) := eq_dL0 f xs
theorem eq_n0 (f : Bool → Bool) {ds : List PyData} (h : shp (.list ds) = true) : oEq f (.list ds) (.list []) = .done (.bool (f (decide (ds = [])))) := by
  rw [oEq_ok h (show shp (.list []) = true from shp_dL [])]
  cases ds <;> rfl
@[simp] theorem eq_bb (f : Bool → Bool) (a b : Bool) : oEq f (.bool a) (.bool b) = .done (.bool (f (a == b))) := by
  rw [oEq_ok (show shp (.bool a) = true from rfl) (show shp (.bool b) = true from rfl)]
  cases a <;> cases b <;> rfl
theorem q_seqE {β : Type} (f : β → Env) (P : β → Nat → Prop) {ms mu : Ss_} {e : Env} {n : Nat} {Q : Out → Nat → Prop} (h : (ms e).all (fun o m => ∃ b, o = .nx (f b) ∧ P b m) n) (h2 : ∀ b m, P b m → (mu (f b)).all Q m) : (zSeq ms mu e).all Q n :=
  all_seq h fun o m ⟨b, h3, h4⟩ => by subst h3; exact h2 b m h4
/-! ### the same behind a word that is never unfolded (else each look at a goal runs the mirror) -/
@[irreducible] def Al {α : Type} (t : Tr α) (P : α → Nat → Prop) (n : Nat) : Prop := t.all P n
section
variable {α β : Type} {t : Tr α} {P : α → Nat → Prop} {n : Nat}
theorem al_iff : Al t P n ↔ t.all P n := by unfold Al; exact Iff.rfl
theorem al_of (h : t.all P n) : Al t P n := al_iff.mpr h
theorem Al.all (h : Al t P n) : t.all P n := al_iff.mp h
@[simp] theorem al_done {a : α} : Al (Tr.done a) P n = P a n := propext al_iff
@[simp] theorem al_draw {b : Int} {k : Int → Tr α} : Al (Tr.draw b k) P n = (0 < b ∧ sz b ≤ 2000 ∧ 0 < n ∧ ∀ z, 0 ≤ z → z < b → Al (k z) P (n - 1)) := by
  unfold Al; rfl
theorem al_front {t' : Tr α} {n' : Nat} (h : t = t') (h2 : n = n') : Al t P n = Al t' P n' := by rw [h, h2]
theorem al_seq {f : α → Tr β} {Q : β → Nat → Prop} (h : Al t P n) (h2 : ∀ a m, P a m → Al (f a) Q m) : Al (t.bind f) Q n :=
  al_of (all_seq h.all fun a m x => (h2 a m x).all)
theorem al_mono {P' : α → Nat → Prop} (h : Al t P n) (h2 : ∀ a m, P a m → P' a m) : Al t P' n := al_of (Tr.all_mono h2 h.all)
theorem al_eq {a : α} (e : t = .done a) (h : P a n) : Al t P n := by rw [e, al_done]; exact h
end
section
variable {ms mu : Ss_} {mt : Ts_} {me : Ex_} {e e' : Env} {n : Nat} {d : PyData} {b : Bool} {Q : Out → Nat → Prop}
theorem a_seq (h : ms e = .done (.nx e')) (h2 : Al (mu e') Q n) : Al (zSeq ms mu e) Q n := by rw [e_seq h]; exact h2
theorem a_seqR (h : ms e = .done (.rt d)) (h2 : Q (.rt d) n) : Al (zSeq ms mu e) Q n := by rw [e_seqR h, al_done]; exact h2
theorem a_seqE {β : Type} (f : β → Env) (P : β → Nat → Prop) (h : Al (ms e) (fun o m => ∃ b, o = .nx (f b) ∧ P b m) n) (h2 : ∀ b m, P b m → Al (mu (f b)) Q m) : Al (zSeq ms mu e) Q n :=
  al_seq h fun o m ⟨b, h3, h4⟩ => by subst h3; exact h2 b m h4
theorem a_if {mr : Ss_} (h : mt e = .done false) (h2 : Al (mu e) Q n) : Al (zSeq (zIf mt mr zNext) mu e) Q n := a_seq (e' := e) (e_ifF h) h2
theorem a_frz {i : Nat} (hf : frz i e = e') (h2 : Al (zSeq ms mu e') Q n) : Al (zSeq (zFrz i ms) mu e) Q n := by
  have : zSeq (zFrz i ms) mu e = zSeq ms mu e' := by show (ms (frz i e)).bind _ = (ms e').bind _; rw [hf]
  rw [this]; exact h2
theorem a_ifR {mr : Ss_} (h : mt e = .done b) (h1 : b = true → Al (zSeq mr mu e) Q n) (h2 : b = false → Al (mu e) Q n) : Al (zSeq (zIf mt mr zNext) mu e) Q n := by
  cases b
  · exact a_if h (h2 rfl)
  · have : zSeq (zIf mt mr zNext) mu e = zSeq mr mu e := by show ((zIf mt mr zNext) e).bind _ = (mr e).bind _; rw [e_ifT h]
    rw [this]; exact h1 rfl
/-- a def's run -/
theorem al_run {j : Nat} {body : Ss_} {es : List Sl} {P : PyData → Nat → Prop} (h : Al (body (es ++ List.replicate j .no)) (fun o m => (∃ d, o = .rt d ∧ P d m) ∨ ∃ e, o = .nx e ∧ P .none m) n) : Al (runF j body es) P n :=
  al_seq h fun o m hh => by
    rcases hh with ⟨d, rfl, hd⟩ | ⟨e, rfl, hd⟩
    · simp [fin]; exact hd
    · simp [fin]; exact hd
end
theorem e_lcI {f : List Sl → Tr (List PyData)} {mr : As_} {mg : Gs_} {mt : Ts_} {me : Ex_} {vs : List Nat} {e : Env} {es : List Sl} {ds ys : List PyData} (h : mr e = .done es) (h2 : f es = .done ds) (h3 : compL mg mt me vs ds e = .done ys) : xEl (xLc (iCall f mr) mg mt me vs) e = .done (.list ys) := by
  show ((((mr e).bind f).bind fun ds => compL mg mt me vs ds e).bind _) = _
  rw [h, Tr.bind_done, h2, Tr.bind_done, h3]; rfl
/-! ### the law's own body -/
theorem al_forM {body : PyData → Env → Tr Out} (I : Nat → Env → Nat → Prop) {ds : List PyData} {e : Env} {n : Nat} (h : I 0 e n)
    (hb : ∀ i d e m, ds[i]? = some d → I i e m → Al (body d e) (fun o m' => ∃ e', o = .nx e' ∧ I (i + 1) e' m') m) :
    Al (forM body ds e) (fun o m' => ∃ e', o = .nx e' ∧ I ds.length e' m') n := by
  have := forM_all I ds 0 e n h (fun i d e m hi he => by
    rw [Nat.zero_add] at he ⊢
    exact (hb i d e m hi he).all)
  rw [Nat.zero_add] at this
  exact al_of this
def okS : Tr Out → Bool
  | .done (.nx (.scr :: _)) => true
  | _ => false
theorem okS_eq {t : Tr Out} (h : okS t = true) : ∃ e', t = .done (.nx (.scr :: e')) := by
  match t, h with
  | .done (.nx (.scr :: e')), _ => exact ⟨e', rfl⟩
theorem a_scr {ms mu : Ss_} {e : Env} {n : Nat} {Q : Out → Nat → Prop} (h : okS (ms e) = true) (h2 : ∀ e', Al (mu (.scr :: e')) Q n) : Al (zSeq ms mu e) Q n := by
  obtain ⟨e', h3⟩ := okS_eq h
  exact a_seq h3 (h2 e')
theorem a_assoc {ms mu mv : Ss_} {e : Env} {n : Nat} {Q : Out → Nat → Prop} (h : Al (zSeq (zSeq ms mu) mv e) Q n) : Al (zSeq ms (zSeq mu mv) e) Q n := by
  have : zSeq ms (zSeq mu mv) e = zSeq (zSeq ms mu) mv e := by
    show (ms e).bind _ = ((ms e).bind _).bind _
    rw [Tr.bind_assoc]
    congr 1
    funext o
    cases o <;> rfl
  rw [this]; exact h
/-- a call with a generator made for it -/
theorem al_gen {g : List Sl → Tr PyData} {mi : Ex_} {e : Env} {k : Int} {n : Nat} {P : PyData → Nat → Prop} (hs : rdScr 0 e = .done ()) (hi : mi e = .done (.int k)) (hk : 0 ≤ k ∧ k ≤ 63) (h : Al (g [.gen]) P n) : Al (xGen g 1 0 mi aNil e) P n := by
  have : xGen g 1 0 mi aNil e = g [.gen] := by
    show (rdScr 0 e).bind _ = _
    rw [hs, Tr.bind_done]
    show (mi e).bind _ = _
    rw [hi, Tr.bind_done]
    show (cellI (.int k)).bind _ = _
    rw [cellI_i hk]
    rfl
  rw [this]; exact h
/-- one turn: all is right -/
theorem al_turn {g : List Sl → Tr PyData} {mi : Ex_} {e : Env} {k : Int} {n c : Nat} (hs : rdScr 0 e = .done ()) (hi : mi e = .done (.int k)) (hk : 0 ≤ k ∧ k ≤ 63) (h : Al (g [.gen]) (fun d m => d = .bool true ∧ n ≤ m + c) n) :
    Al (zIf (yNot (yTru (xGen g 1 0 mi aNil))) (zRet (xC (PyData.bool false))) zNext e) (fun o m => o = .nx e ∧ n ≤ m + c) n := by
  have h2 := al_gen (P := fun d m => d = .bool true ∧ n ≤ m + c) hs hi hk h
  show Al ((((xGen g 1 0 mi aNil e).bind truth).bind _).bind _) _ n
  rw [Tr.bind_assoc, Tr.bind_assoc]
  refine al_seq h2 ?_
  rintro d m ⟨rfl, hm⟩
  simp
  exact hm
def isO (t : Tr Out) : Bool := match t with
  | .done (.rt (.bool true)) => true
  | _ => false
theorem isO_eq {t : Tr Out} (h : isO t = true) : t = .done (.rt (.bool true)) := by
  match t, h with
  | .done (.rt (.bool true)), _ => rfl
end Hr
namespace Hr
open PySem PySem.Spec PyProof.Rows L2 Evl
/-! ### the functions of numbers.py and rests.py, by their values -/
theorem pow_ii {i j : Int} (h : decide (0 ≤ j ∧ (Builtin.Int.intBits i : Int) * j ≤ 134217728) = true) : o_pow (.int i) (.int j) = .done (.int (i ^ j.toNat)) := by
  show (if decide (0 ≤ j ∧ (Builtin.Int.intBits i : Int) * j ≤ 134217728) = true then Tr.done (PyData.int (i ^ j.toNat)) else Tr.fail) = _
  exact if_pos h
theorem check_number_val {k : Kd} {i : Int} (h : Ok k i) : f_check_number [dK k, dI i] = .done .none := by
  simp [f_check_number, runF, b_check_number, tmIte, is_number_val h]
theorem check_two_val {k : Kd} {a b : Int} (oa : Ok k a) (ob : Ok k b) : f_check_two [dK k, dI a, dI b] = .done .none := by
  simp [f_check_two, runF, b_check_two, check_number_val oa, check_number_val ob]
section
variable {k : Kd} {a b : Int}
theorem added_val (oa : Ok k a) (ob : Ok k b) : f_added [dK k, dI a, dI b] = .done (.int (plusM k a b)) := by
  simp [f_added, runF, b_added, check_two_val oa ob, plus_val oa ob]
theorem less_val (oa : Ok k a) (ob : Ok k b) : f_less [dK k, dI a, dI b] = .done (.int (minusM k a b)) := by
  simp [f_less, runF, b_less, check_two_val oa ob, minus_val oa ob]
theorem product_val (oa : Ok k a) (ob : Ok k b) (ha : sz a ≤ 90000) (hb : sz b ≤ 90000) : f_product [dK k, dI a, dI b] = .done (.int (timesM k a b)) := by
  simp [f_product, runF, b_product, check_two_val oa ob, times_val oa ob ha hb]
theorem quotient_val (oa : Ok k a) (b0 : 0 < b) (ha : sz a ≤ 90000) (hb : sz b ≤ 8000) : f_quotient [dK k, dI a, dI b] = .done (.int (quoM k a b)) := by
  have ob : Ok k b := Ok.of_le (by omega)
  have h0 : ¬ b ≤ 0 := by omega
  simp [f_quotient, runF, b_quotient, tmIte, check_two_val oa ob, split_val oa ob (by omega) ha hb, h0]
theorem rest_fval (oa : Ok k a) (b0 : 0 ≤ b) (ha : sz a ≤ 90000) (hb : sz b ≤ 8000) (hs : k = .B → sz a ≤ 1000 + 8 * sz b) : f_rest [dK k, dI a, dI b] = .done (.int (remM k a b)) := by
  simp [f_rest, runF, b_rest, check_number_val oa, check_count_val b0, rest_val oa (Ok.of_le b0) ha hb hs]
theorem multi_val (oa : Ok k a) (ob : Ok k b) (ha : sz a ≤ 90000) (hb : sz b ≤ 8000) (hs : k = .B → sz a ≤ 1000 + 8 * sz b) : f_is_multiple [dK k, dI a, dI b] = .done (.bool (decide (remM k a b = 0))) := by
  simp [f_is_multiple, runF, b_is_multiple, check_two_val oa ob, factor_val oa ob ha hb hs]
theorem divisor_val (oa : Ok k a) (ob : Ok k b) (ha : sz a ≤ 900) (hb : sz b ≤ 900) : f_divisor [dK k, dI a, dI b] = .done (.int (gcdM k a b)) := by
  simp [f_divisor, runF, b_divisor, check_two_val oa ob, gcd_val oa ob ha hb]
@[simp] theorem abs_ii (i : Int) : o_abs [.dat (.int i)] = .done (.int (i.natAbs : Int)) := by
  show Tr.done (PyData.int _) = _
  congr 2
  split <;> omega
theorem lcm_zero {k : Kd} {a b : Int} (h : a = 0 ∨ b = 0) : lcmM k a b = 0 := by
  show ((lN k a.natAbs b.natAbs : Nat) : Int) = 0
  have := (lmN k).none a.natAbs b.natAbs (by omega)
  omega
theorem multiple_val (oa : Ok k a) (ob : Ok k b) (ha : sz a ≤ 900) (hb : sz b ≤ 900) : f_multiple [dK k, dI a, dI b] = .done (.int (lcmM k a b)) := by
  have key : f_common_multiple [dK k, dI a, dI b] = .done (.int (lcmM k a b)) := by
    by_cases a0 : a = 0
    · subst a0
      simp [f_common_multiple, runF, b_common_multiple, tmIte, List.replicate, lcm_zero (k := k) (.inl rfl)]
    by_cases b0 : b = 0
    · subst b0
      simp [f_common_multiple, runF, b_common_multiple, tmIte, List.replicate, a0, lcm_zero (k := k) (.inr rfl)]
    have g0 := gcd_pos (k := k) (a := a) (b := b) (.inl a0)
    have zg := sz_gcd' (k := k) (a := a) (b := b)
    have zq := sz_quo' (k := k) (a := b) (b := gcdM k a b) ob ok_gcd (by omega)
    simp [f_common_multiple, runF, b_common_multiple, tmIte, List.replicate, a0, b0, gcd_val oa ob ha hb, split_val ob ok_gcd (show gcdM k a b ≠ 0 by omega) (by omega) (by omega), times_val oa ok_quo (by omega) (show sz (quoM k b (gcdM k a b)) ≤ 90000 by omega)]
    exact lcm_val oa ob a0 b0
  simp [f_multiple, runF, b_multiple, check_two_val oa ob, key]
theorem paper_val (oa : Ok k a) (ob : Ok k b) (ha : sz a ≤ 900) (hb : sz b ≤ 900) (nz : a ≠ 0 ∨ b ≠ 0) : ∃ c p q x y, f_divisor_paper [dK k, dI a, dI b] = .done (.tuple [.int c, .int p, .int q, .int x, .int y]) ∧ Pap k a b c p q x y := by
  obtain ⟨c, p, q, x, y, h, P⟩ := df_val oa ob ha hb nz
  exact ⟨c, p, q, x, y, by simp [f_divisor_paper, runF, b_divisor_paper, check_two_val oa ob, h], P⟩
end
theorem check_rests2_val {k : Kd} {a m b n : Int} (p1 : Rst k a m) (p2 : Rst k b n) : f_check_two_rests [dK k, .dat (dR a m), .dat (dR b n)] = .done .none := by
  simp [f_check_two_rests, runF, b_check_two_rests, tmIte, rest_fits_val p1, rest_fits_val p2]
theorem agree_fval {k : Kd} {a m b n : Int} (p1 : Rst k a m) (p2 : Rst k b n) (za : sz a ≤ 800) (zm : sz m ≤ 400) (zb : sz b ≤ 800) (zn : sz n ≤ 400) : f_agree [dK k, .dat (dR a m), .dat (dR b n)] = .done (.bool (decide (Mu k (gcdM k m n) (minusM k a b)))) := by
  simp [f_agree, runF, b_agree, check_rests2_val p1 p2, agree_val p1 p2 za zm zb zn]
theorem met_rest_fval {k : Kd} {a m b n : Int} (p1 : Rst k a m) (p2 : Rst k b n) (za : sz a ≤ 700) (zm : sz m ≤ 140) (zb : sz b ≤ 700) (zn : sz n ≤ 140) : ∃ r, f_met_rest [dK k, .dat (dR a m), .dat (dR b n)] = .done r ∧ MeetR k a m b n r := by
  obtain ⟨r, h, R⟩ := meet_val p1 p2 za zm zb zn
  exact ⟨r, by simp [f_met_rest, runF, b_met_rest, check_rests2_val p1 p2, h], R⟩
end Hr
namespace Hr
open PySem PySem.Spec PyProof.Rows L2 Evl
/-! ### further steps -/
theorem al_with {i s : Nat} {mi : Ex_} {ms : Ss_} {e : Env} {k : Int} {n : Nat} {P : Out → Nat → Prop} (hs : rdScr s e = .done ()) (hi : mi e = .done (.int k)) (hk : 0 ≤ k ∧ k ≤ 63) (h : Al (ms (e.set i .gen)) (fun o m => P (unO o) m) n) : Al (zWith i s mi ms e) P n := by
  have : zWith i s mi ms e = (ms (e.set i .gen)).bind fun o => .done (unO o) := by
    show (rdScr s e).bind _ = _
    rw [hs, Tr.bind_done]
    show (mi e).bind _ = _
    rw [hi, Tr.bind_done]
    show (cellI (.int k)).bind _ = _
    rw [cellI_i hk]
    rfl
  rw [this]
  refine al_seq h ?_
  intro o m hp
  rw [al_done]; exact hp
/-- a loop that keeps what is said of the state -/
theorem forM_keep {body : PyData → Env → Tr Out} (I : Env → Prop) : ∀ (ds : List PyData) (e : Env), I e → (∀ d ∈ ds, ∀ e, I e → ∃ e', body d e = .done (.nx e') ∧ I e') → ∃ e', forM body ds e = .done (.nx e') ∧ I e'
  | [], e, h, _ => ⟨e, for_nil, h⟩
  | d :: ds, e, h, hb => by
    obtain ⟨e', h1, h2⟩ := hb d (List.mem_cons_self ..) e h
    obtain ⟨e2, h3, h4⟩ := forM_keep I ds e' h2 fun x hx => hb x (List.mem_cons_of_mem _ hx)
    exact ⟨e2, by rw [for_nx h1, h3], h4⟩
theorem a_for {mi : Is_} {mg : Gs_} {ms mu : Ss_} {e : Env} {ds : List PyData} {n : Nat} {Q : Out → Nat → Prop} (I : Env → Prop) (h : mi e = .done ds) (h0 : I e) (hb : ∀ d ∈ ds, ∀ e, I e → ∃ e', loopBody mg ms d e = .done (.nx e') ∧ I e') (h2 : ∀ e', I e' → Al (mu e') Q n) : Al (zSeq (zFor mi mg ms) mu e) Q n := by
  obtain ⟨e', h3, h4⟩ := forM_keep I ds e h0 hb
  exact a_seq (by rw [e_for h, h3]) (h2 e' h4)
/-- the same with draws: each turn takes at most c -/
theorem al_forK {body : PyData → Env → Tr Out} (I : Env → Prop) (c : Nat) (ds : List PyData) (e : Env) (n : Nat) (h : I e) (hn : c * ds.length ≤ n)
    (hb : ∀ d ∈ ds, ∀ e m, I e → c ≤ m → Al (body d e) (fun o m' => ∃ e', o = .nx e' ∧ I e' ∧ m ≤ m' + c) m) :
    Al (forM body ds e) (fun o m' => ∃ e', o = .nx e' ∧ I e' ∧ n ≤ m' + c * ds.length) n := by
  have := al_forM (body := body) (fun i e m => I e ∧ n ≤ m + c * i) (ds := ds) (e := e) (n := n) ⟨h, by omega⟩ (fun i d e m hi ⟨hI, hm⟩ => by
    have hlt : i < ds.length := (List.getElem?_eq_some_iff.mp hi).1
    have h1 : c * (i + 1) ≤ c * ds.length := Nat.mul_le_mul_left c hlt
    rw [Nat.mul_succ] at h1
    refine al_mono (hb d (List.mem_of_getElem? hi) e m hI (by omega)) ?_
    rintro o m' ⟨e', rfl, h3, h4⟩
    exact ⟨e', rfl, h3, by rw [Nat.mul_succ]; omega⟩)
  refine al_mono this ?_
  rintro o m ⟨e', rfl, h3, h4⟩
  exact ⟨e', rfl, h3, h4⟩
theorem few_any {ds : List PyData} (h : ds.length ≤ 100000) : few (id : List PyData → List PyData) ds = .done ds := few_ok h
/-- reprs of tame things, compared -/
theorem ne_repr {ma mb : As_} {e : Env} {d d' : PyData} (ha : ma e = .done [.dat d]) (hb : mb e = .done [.dat d']) (t : Tame d) (h : d = d') : yB (xOp (oEq not) (xCb o_repr ma) (xCb o_repr mb)) e = .done false := by
  subst h
  exact e_B (e_op (e_cb ha t.rep) (e_cb hb t.rep) t.eqs)
theorem ne_int {ma mb : Ex_} {e : Env} {i j : Int} (ha : ma e = .done (.int i)) (hb : mb e = .done (.int j)) (h : i = j) : yB (xOp (oEq not) ma mb) e = .done false := by
  subst h
  exact e_B (e_op ha hb (by simp))
theorem tame_dL {xs : List Int} (h : ∀ x ∈ xs, sz x ≤ 1900) (hl : xs.length ≤ 4000) : Tame (dL xs) := by
  have := tb_list (B := 1921) (D := 0) (N := 4000) (ds := xs.map .int) (fun d hd => by
    obtain ⟨x, hx, rfl⟩ := List.mem_map.mp hd
    exact tb_int (h x hx)) (by rw [List.length_map]; exact hl)
  exact this.tame (by decide) (by decide)
/-- what is drawn among the things handed to a call -/
theorem al_args3 {m1 m2 m3 : Ex_} {e : Env} {d1 d2 : PyData} {P : PyData → Nat → Prop} {n : Nat} {g : List Sl → Tr PyData} {Q : PyData → Nat → Prop} (h1 : m1 e = .done d1) (h2 : m2 e = .done d2) (h3 : Al (m3 e) P n) (h4 : ∀ d m, P d m → Al (g [.dat d1, .dat d2, .dat d]) Q m) :
    Al (xFn g 3 (aCons m1 (aCons m2 (aCons m3 aNil))) e) Q n := by
  have : xFn g 3 (aCons m1 (aCons m2 (aCons m3 aNil))) e = (m3 e).bind fun d => g [.dat d1, .dat d2, .dat d] := by
    show ((m1 e).bind _).bind _ = _
    rw [h1, Tr.bind_done]
    show (((m2 e).bind _).bind _).bind _ = _
    rw [h2, Tr.bind_done]
    show ((((m3 e).bind _).bind _).bind _).bind _ = _
    rw [Tr.bind_assoc, Tr.bind_assoc, Tr.bind_assoc]
    congr 1
  rw [this]
  exact al_seq h3 h4
theorem a_asgA {me : Ex_} {mu : Ss_} {e : Env} {j n : Nat} {P : PyData → Nat → Prop} {Q : Out → Nat → Prop} (h : Al (me e) P n) (h2 : ∀ d m, P d m → Al (mu (e.set j (.dat d))) Q m) : Al (zSeq (zAsg me (tgName j)) mu e) Q n := by
  refine a_seqE (fun d => e.set j (.dat d)) P ?_ h2
  have : zAsg me (tgName j) e = (me e).bind fun d => .done (.nx (e.set j (.dat d))) := rfl
  rw [this]
  exact al_seq h fun d m hd => by rw [al_done]; exact ⟨d, rfl, hd⟩
theorem al_ifA {mt : Ts_} {ms mu : Ss_} {e : Env} {n : Nat} {P : Bool → Nat → Prop} {Q : Out → Nat → Prop} (h : Al (mt e) P n) (h2 : ∀ b m, P b m → Al (if b = true then ms e else mu e) Q m) : Al (zIf mt ms mu e) Q n := by
  have : zIf mt ms mu e = (mt e).bind fun b => if b = true then ms e else mu e := rfl
  rw [this]
  exact al_seq h h2
theorem al_rnd {mb : Ex_} {e : Env} {B : Int} {n : Nat} (hg : rdGen 0 e = .done ()) (hb : mb e = .done (.int B)) (B0 : 0 < B) (zB : sz B ≤ 2000) (hn : 0 < n) : Al (xFn f_law_random 2 (aGen 0 (aCons mb aNil)) e) (fun d m => ∃ z, d = .int z ∧ 0 ≤ z ∧ z < B ∧ m = n - 1) n := by
  have : xFn f_law_random 2 (aGen 0 (aCons mb aNil)) e = f_law_random [.gen, dI B] := e_fn (e_gen hg (e_cons hb e_nil)) rfl rfl
  rw [this]
  refine al_mono (al_of (random_all B0 zB hn)) ?_
  rintro d m ⟨z, z0, zb, rfl, rfl⟩
  exact ⟨z, rfl, z0, zb, rfl⟩
theorem al_op {g : PyData → PyData → Tr PyData} {ma mb : Ex_} {e : Env} {x : PyData} {n : Nat} {P Q : PyData → Nat → Prop} (ha : ma e = .done x) (hb : Al (mb e) P n) (h : ∀ y m, P y m → Al (g x y) Q m) : Al (xOp g ma mb e) Q n := by
  have : xOp g ma mb e = (mb e).bind (g x) := by
    show (ma e).bind _ = _
    rw [ha]; rfl
  rw [this]
  exact al_seq hb h
/-- 1 and what is drawn -/
theorem al_rnd1 {mb : Ex_} {e : Env} {B : Int} {n : Nat} (hg : rdGen 0 e = .done ()) (hb : mb e = .done (.int B)) (B0 : 0 < B) (zB : sz B ≤ 2000) (hn : 0 < n) : Al (xOp o_add (xC (PyData.int 1)) (xFn f_law_random 2 (aGen 0 (aCons mb aNil))) e) (fun d m => ∃ z, d = .int z ∧ 0 < z ∧ z ≤ B ∧ m = n - 1) n := by
  refine al_op rfl (al_rnd hg hb B0 zB hn) ?_
  rintro y m ⟨z, rfl, z0, zb, rfl⟩
  rw [add_ii, al_done]
  exact ⟨1 + z, rfl, by omega, by omega, rfl⟩
theorem e_if0 {mt : Ts_} {mr : Ss_} {e : Env} (h : mt e = .done false) : zIf mt mr zNext e = .done (.nx e) := e_ifF h
theorem e_or0 {mt mt2 : Ts_} {e : Env} (h : mt e = .done false) (h2 : mt2 e = .done false) : yOr mt mt2 e = .done false := e_or h fun _ => h2
theorem e_notT {me : Ex_} {e : Env} (h : me e = .done (.bool true)) : yNot (yTru me) e = .done false := e_not (b := true) (e_tru h rfl)
theorem e_drop {me : Ex_} {e : Env} {d : PyData} (h : me e = .done d) : zDrop me e = .done (.nx e) := by show (me e).bind _ = _; rw [h]; rfl
theorem fn2 {g : List Sl → Tr PyData} {m1 m2 : Ex_} {e : Env} {x y r : PyData} (h1 : m1 e = .done x) (h2 : m2 e = .done y) (h : g [.dat x, .dat y] = .done r) : xFn g 2 (aCons m1 (aCons m2 aNil)) e = .done r := e_fn (e_cons h1 (e_cons h2 e_nil)) rfl h
theorem fn3 {g : List Sl → Tr PyData} {m1 m2 m3 : Ex_} {e : Env} {x y z r : PyData} (h1 : m1 e = .done x) (h2 : m2 e = .done y) (h3 : m3 e = .done z) (h : g [.dat x, .dat y, .dat z] = .done r) : xFn g 3 (aCons m1 (aCons m2 (aCons m3 aNil))) e = .done r := e_fn (e_cons h1 (e_cons h2 (e_cons h3 e_nil))) rfl h
theorem fn4 {g : List Sl → Tr PyData} {m1 m2 m3 m4 : Ex_} {e : Env} {x y z w r : PyData} (h1 : m1 e = .done x) (h2 : m2 e = .done y) (h3 : m3 e = .done z) (h4 : m4 e = .done w) (h : g [.dat x, .dat y, .dat z, .dat w] = .done r) : xFn g 4 (aCons m1 (aCons m2 (aCons m3 (aCons m4 aNil)))) e = .done r := e_fn (e_cons h1 (e_cons h2 (e_cons h3 (e_cons h4 e_nil)))) rfl h
theorem cb1 {g : List Sl → Tr PyData} {m1 : Ex_} {e : Env} {x : PyData} {r : Tr PyData} (h1 : m1 e = .done x) (h : g [.dat x] = r) : xCb g (aCons m1 aNil) e = r := e_cb (e_cons h1 e_nil) h
theorem e_lst {mr : As_} {e : Env} {es : List Sl} {ds : List PyData} (h : mr e = .done es) (h2 : (dats es).bind (few id) = .done ds) : xEl (xLst mr) e = .done (.list ds) := by
  show Tr.bind (Tr.bind (mr e) _) _ = _
  rw [h, Tr.bind_done]
  show Tr.bind ((dats es).bind (few id)) _ = _
  rw [h2]; rfl
theorem al_par3 {m1 m2 m3 : Ex_} {e : Env} {i j l n : Nat} {P1 : PyData → Nat → Prop} {P2 : PyData → PyData → Nat → Prop} {P3 : PyData → PyData → PyData → Nat → Prop} {Q : Out → Nat → Prop} (h1 : Al (m1 e) P1 n) (h2 : ∀ d m, P1 d m → Al (m2 e) (P2 d) m) (h3 : ∀ d d' m, P2 d d' m → Al (m3 e) (P3 d d') m)
    (h4 : ∀ d d' d'' m, P3 d d' d'' m → Q (.nx (((e.set i (.dat d)).set j (.dat d')).set l (.dat d''))) m) : Al (zPar3 i j l (aCons m1 (aCons m2 (aCons m3 aNil))) e) Q n := by
  have : zPar3 i j l (aCons m1 (aCons m2 (aCons m3 aNil))) e = (m1 e).bind fun d => (m2 e).bind fun d' => (m3 e).bind fun d'' => .done (.nx (((e.set i (.dat d)).set j (.dat d')).set l (.dat d''))) := by
    show ((m1 e).bind _).bind _ = _
    rw [Tr.bind_assoc]
    congr 1; funext d
    show (((m2 e).bind _).bind _).bind _ = _
    rw [Tr.bind_assoc, Tr.bind_assoc]
    congr 1; funext d'
    show ((((m3 e).bind _).bind _).bind _) = _
    rw [Tr.bind_assoc, Tr.bind_assoc]
    congr 1
  rw [this]
  refine al_seq h1 fun d m hd => al_seq (h2 d m hd) fun d' m' hd' => al_seq (h3 d d' m' hd') fun d'' m'' hd'' => ?_
  rw [al_done]; exact h4 d d' d'' m'' hd''
theorem e_itL {me : Ex_} {e : Env} {ds : List PyData} (h : me e = .done (.list ds)) : iSeq itL me e = .done ds := by
  show Tr.bind (me e) itL = _
  rw [h]; rfl
theorem e_tp2 {m1 m2 : Ex_} {e : Env} {x y : PyData} (h1 : m1 e = .done x) (h2 : m2 e = .done y) : xTup (aCons m1 (aCons m2 aNil)) e = .done (.tuple [x, y]) := by
  show Tr.bind _ _ = _
  rw [e_cons h1 (e_cons h2 e_nil)]; rfl
theorem u_body2 {i j : Nat} {ms : Ss_} {x y : PyData} {e : Env} : loopBody (tgTup 2 (tgCons (tgName i) (tgCons (tgName j) tgNil))) ms (.tuple [x, y]) e = ms ((e.set i (.dat x)).set j (.dat y)) := rfl
theorem e_all {ml : Is_} {e : Env} {ds : List PyData} (h : ml e = .done (ds.map fun _ => .bool true)) : xCb o_all (aCons (xEl ml) aNil) e = .done (.bool true) := by
  refine e_cb (es := [.dat (.list (ds.map fun _ => .bool true))]) (e_cons ?_ e_nil) (all_true ds)
  show (ml e).bind _ = _
  rw [h]; rfl
end Hr
noncomputable section
namespace Hr
open PySem PySem.Spec PyProof.Rows L2 Evl
def b_law_is_whole : Ss_ :=
      (zRet (xAnd (xIsi isIntD (xVar 0)) (xNot (xIsi isBoolD (xVar 0)))))
def f_law_is_whole : List Sl → Tr PyData := runF 0 b_law_is_whole
def b_law_two : Ss_ :=
      (zRet (xOp o_shl (xC (PyData.int 1)) (xCb o_int (aCons (xVar 0) aNil))))
def f_law_two : List Sl → Tr PyData := runF 0 b_law_two
def t_law_bits_1 : Ts_ :=
      (yB (xOp o_le (xFn f_law_two 1 (aCons (xVar 1) aNil)) (xVar 0)))
def l_law_bits_1 : Ss_ :=
      (zAsg (xOp o_add (xVar 1) (xC (PyData.int 1))) (tgName 1))
def b_law_bits : Ss_ :=
      (zSeq (zAsg (xC (PyData.int 0)) (tgName 1))
      (zSeq (zWhile 100000 t_law_bits_1 l_law_bits_1)
      (zRet (xVar 1))))
def f_law_bits : List Sl → Tr PyData := runF 1 b_law_bits
def t_law_rest_1 : Ts_ :=
      (yB (xOp o_ge (xFn f_law_bits 1 (aCons (xVar 3) aNil)) (xFn f_law_bits 1 (aCons (xVar 2) aNil))))
def l_law_rest_1 : Ss_ :=
      (zAsg (xOp o_xor (xVar 3) (xOp o_mul (xVar 2) (xFn f_law_two 1 (aCons (xOp o_sub (xFn f_law_bits 1 (aCons (xVar 3) aNil)) (xFn f_law_bits 1 (aCons (xVar 2) aNil))) aNil)))) (tgName 3))
def b_law_rest : Ss_ :=
      (zSeq (zIf (yOr (yB (xOp (oEq id) (xVar 2) (xC (PyData.int 0)))) (yB (xOp (oEq id) (xVar 0) (xC (PyData.str "hours"))))) (zRet (xIf (yB (xOp (oEq id) (xVar 2) (xC (PyData.int 0)))) (xVar 1) (xOp o_mod (xCb o_int (aCons (xVar 1) aNil)) (xCb o_int (aCons (xVar 2) aNil))))) zNext)
      (zSeq (zAsg (xVar 1) (tgName 3))
      (zSeq (zWhile 100000 t_law_rest_1 l_law_rest_1)
      (zRet (xVar 3)))))
def f_law_rest : List Sl → Tr PyData := runF 1 b_law_rest
def b_law_by : Ss_ :=
      (zSeq (zIf (yB (xOp (oEq id) (xFn f_law_random 2 (aGen 0 (aCons (xC (PyData.int 12)) aNil))) (xC (PyData.int 0)))) (zRet (xFn f_law_random 2 (aGen 0 (aCons (xIf (yB (xOp (oEq id) (xVar 1) (xC (PyData.str "hours")))) (xOp o_pow (xC (PyData.int 10)) (xC (PyData.int 27))) (xOp o_pow (xC (PyData.int 10)) (xC (PyData.int 11)))) aNil)))) zNext)
      (zSeq (zAsg (xIf (yB (xOp (oEq id) (xVar 1) (xC (PyData.str "hours")))) (xEl (xLst (aCons (xC (PyData.int 0)) (aCons (xC (PyData.int 1)) (aCons (xC (PyData.int 2)) (aCons (xC (PyData.int 3)) (aCons (xC (PyData.int 4)) (aCons (xC (PyData.int 6)) (aCons (xC (PyData.int 8)) (aCons (xC (PyData.int 9)) (aCons (xC (PyData.int 10)) (aCons (xC (PyData.int 12)) (aCons (xC (PyData.int 15)) (aCons (xC (PyData.int 18)) aNil)))))))))))))) (xEl (xLst (aCons (xC (PyData.int 0)) (aCons (xC (PyData.int 1)) (aCons (xC (PyData.int 2)) (aCons (xC (PyData.int 3)) (aCons (xC (PyData.int 4)) (aCons (xC (PyData.int 5)) (aCons (xC (PyData.int 6)) (aCons (xC (PyData.int 7)) (aCons (xC (PyData.int 9)) (aCons (xC (PyData.int 10)) (aCons (xC (PyData.int 12)) (aCons (xC (PyData.int 14)) aNil))))))))))))))) (tgName 2))
      (zRet (xOp o_ix (xVar 2) (xFn f_law_random 2 (aGen 0 (aCons (xC (PyData.int 12)) aNil)))))))
def f_law_by : List Sl → Tr PyData := runF 1 b_law_by
def b_law_number : Ss_ :=
      (zSeq (zAsg (xOp o_ix (xEl (xLst (aCons (xC (PyData.int 20)) (aCons (xC (PyData.int 20)) (aCons (xC (PyData.int 20)) (aCons (xIf (yB (xOp (oEq id) (xVar 1) (xC (PyData.str "hours")))) (xOp o_pow (xC (PyData.int 10)) (xC (PyData.int 27))) (xOp o_pow (xC (PyData.int 10)) (xC (PyData.int 11)))) aNil)))))) (xFn f_law_random 2 (aGen 0 (aCons (xC (PyData.int 4)) aNil)))) (tgName 2))
      (zSeq (zAsg (xFn f_law_random 2 (aGen 0 (aCons (xVar 2) aNil))) (tgName 3))
      (zRet (xIf (yAnd (yB (xOp (oEq id) (xVar 1) (xC (PyData.str "hours")))) (yB (xOp (oEq id) (xFn f_law_random 2 (aGen 0 (aCons (xC (PyData.int 3)) aNil))) (xC (PyData.int 0))))) (xOp o_sub (xC (PyData.int 0)) (xVar 3)) (xVar 3)))))
def f_law_number : List Sl → Tr PyData := runF 2 b_law_number
def b_law_line : Ss_ :=
      (zSeq (zAsg (xFn f_law_random 2 (aGen 0 (aCons (xCb o_len (aCons (xVar 2) aNil)) aNil))) (tgName 3))
      (zSeq (zAsg (xOp o_mod (xCb o_int (aCons (xOp o_add (xOp o_add (xVar 3) (xC (PyData.int 1))) (xFn f_law_random 2 (aGen 0 (aCons (xOp o_sub (xCb o_len (aCons (xVar 2) aNil)) (xC (PyData.int 1))) aNil)))) aNil)) (xCb o_len (aCons (xVar 2) aNil))) (tgName 4))
      (zSeq (zAsg (xFn f_law_by 2 (aGen 0 (aCons (xVar 1) aNil))) (tgName 5))
      (zRet (xTup (aCons (xOp o_ix (xVar 2) (xVar 3)) (aCons (xOp o_ix (xVar 2) (xVar 4)) (aCons (xFn f_law_rest 3 (aCons (xVar 1) (aCons (xFn f_law_number 2 (aGen 0 (aCons (xVar 1) aNil))) (aCons (xVar 5) aNil)))) (aCons (xVar 5) aNil)))))))))
def f_law_line : List Sl → Tr PyData := runF 3 b_law_line
def b_law_lines : Ss_ :=
      (zRet (xEl (xLc (iCall rng1 (aCons (xFn f_law_random 2 (aGen 0 (aCons (xOp o_add (xVar 3) (xC (PyData.int 1))) aNil))) aNil)) (tgName 4) yYes (xFn f_law_line 3 (aGen 0 (aCons (xVar 1) (aCons (xVar 2) aNil)))) [4])))
def f_law_lines : List Sl → Tr PyData := runF 1 b_law_lines
def l_law_names_in_1 : Ss_ :=
      (zAsg (xOp o_add (xVar 1) (xEl (xLc (iSeq itL (xEl (xLst (aCons (xVar 2) (aCons (xVar 3) aNil))))) (tgName 6) (yB (xOp (o_in not) (xVar 6) (xVar 1))) (xVar 6) [6]))) (tgName 1))
def b_law_names_in : Ss_ :=
      (zSeq (zAsg (xEl (xLst aNil)) (tgName 1))
      (zSeq (zFor (iSeq itL (xVar 0)) (tgTup 4 (tgCons (tgName 2) (tgCons (tgName 3) (tgCons (tgName 4) (tgCons (tgName 5) tgNil))))) l_law_names_in_1)
      (zRet (xEl (xSort (aCons (xVar 1) aNil))))))
def f_law_names_in : List Sl → Tr PyData := runF 6 b_law_names_in
def t_law_is_name_1 : Ts_ :=
      (yAnd (yB (xOp o_lt (xVar 1) (xCb o_len (aCons (xVar 0) aNil)))) (yB (xOp (o_in id) (xOp o_ix (xVar 0) (xVar 1)) (xC (PyData.str "abcdefghijklmnopqrstuvwxyz")))))
def l_law_is_name_1 : Ss_ :=
      (zAsg (xOp o_add (xVar 1) (xC (PyData.int 1))) (tgName 1))
def b_law_is_name : Ss_ :=
      (zSeq (zIf (yNot (yTru (xIsi isStrD (xVar 0)))) (zRet (xC (PyData.bool false))) zNext)
      (zSeq (zAsg (xC (PyData.int 0)) (tgName 1))
      (zSeq (zWhile 100000 t_law_is_name_1 l_law_is_name_1)
      (zSeq (zAsg (xSl (xVar 0) (pSo (xVar 1)) pNo) (tgName 2))
      (zSeq (zIf (yOr (yNot (yB (xChain o_le o_le (xC (PyData.int 1)) (xVar 1) (xC (PyData.int 6))))) (yOr (yB (xOp o_gt (xCb o_len (aCons (xVar 2) aNil)) (xC (PyData.int 3)))) (yB (xOp (oEqE not) (xEl (xLc (iSeq itS (xVar 2)) (tgName 3) (yB (xOp (o_in not) (xVar 3) (xC (PyData.str "0123456789")))) (xVar 3) [3])) (xEl (xLst aNil)))))) (zRet (xC (PyData.bool false))) zNext)
      (zRet (xOr (xOp (oEq id) (xVar 2) (xC (PyData.str ""))) (xOr (xOp (oEq id) (xVar 2) (xC (PyData.str "0"))) (xOp (oEq not) (xOp o_ix (xVar 2) (xC (PyData.int 0))) (xC (PyData.str "0")))))))))))
def f_law_is_name : List Sl → Tr PyData := runF 3 b_law_is_name
def b_law_is_number : Ss_ :=
      (zRet (xAnd (xFn f_law_is_whole 1 (aCons (xVar 1) aNil)) (xOr (xOp (oEq id) (xVar 0) (xC (PyData.str "hours"))) (xOp o_ge (xVar 1) (xC (PyData.int 0))))))
def f_law_is_number : List Sl → Tr PyData := runF 0 b_law_is_number
def b_law_is_line : Ss_ :=
      (zSeq (zIf (yOr (yNot (yTru (xIsi isTupD (xVar 1)))) (yOr (yB (xOp (oEq not) (xCb o_len (aCons (xVar 1) aNil)) (xC (PyData.int 4)))) (yOr (yNot (yTru (xFn f_law_is_name 1 (aCons (xOp o_ix (xVar 1) (xC (PyData.int 0))) aNil)))) (yOr (yNot (yTru (xFn f_law_is_name 1 (aCons (xOp o_ix (xVar 1) (xC (PyData.int 1))) aNil)))) (yB (xOp (oEq id) (xOp o_ix (xVar 1) (xC (PyData.int 0))) (xOp o_ix (xVar 1) (xC (PyData.int 1))))))))) (zRet (xC (PyData.bool false))) zNext)
      (zSeq (zIf (yOr (yNot (yTru (xFn f_law_is_number 2 (aCons (xVar 0) (aCons (xOp o_ix (xVar 1) (xC (PyData.int 2))) aNil))))) (yOr (yNot (yTru (xFn f_law_is_whole 1 (aCons (xOp o_ix (xVar 1) (xC (PyData.int 3))) aNil)))) (yB (xOp o_lt (xOp o_ix (xVar 1) (xC (PyData.int 3))) (xC (PyData.int 0)))))) (zRet (xC (PyData.bool false))) zNext)
      (zSeq (zIf (yB (xOp (oEq id) (xOp o_ix (xVar 1) (xC (PyData.int 3))) (xC (PyData.int 0)))) (zRet (xC (PyData.bool true))) zNext)
      (zRet (xIf (yB (xOp (oEq id) (xVar 0) (xC (PyData.str "hours")))) (xChain o_le o_lt (xC (PyData.int 0)) (xOp o_ix (xVar 1) (xC (PyData.int 2))) (xOp o_ix (xVar 1) (xC (PyData.int 3)))) (xOp o_lt (xFn f_law_bits 1 (aCons (xOp o_ix (xVar 1) (xC (PyData.int 2))) aNil)) (xFn f_law_bits 1 (aCons (xOp o_ix (xVar 1) (xC (PyData.int 3))) aNil))))))))
def f_law_is_line : List Sl → Tr PyData := runF 0 b_law_is_line
def b_law_are_lines : Ss_ :=
      (zRet (xAnd (xIsi isListD (xVar 1)) (xOp (oEqE id) (xEl (xLc (iSeq itL (xVar 1)) (tgName 2) (yNot (yTru (xFn f_law_is_line 2 (aCons (xVar 0) (aCons (xVar 2) aNil))))) (xVar 2) [2])) (xEl (xLst aNil)))))
def f_law_are_lines : List Sl → Tr PyData := runF 1 b_law_are_lines
def b_law_is_book : Ss_ :=
      (zSeq (zIf (yOr (yNot (yTru (xIsi isTupD (xVar 0)))) (yOr (yB (xOp (oEq not) (xCb o_len (aCons (xVar 0) aNil)) (xC (PyData.int 2)))) (yOr (yNot (yTru (xIsi isStrD (xOp o_ix (xVar 0) (xC (PyData.int 0)))))) (yB (xOp (o_in not) (xOp o_ix (xVar 0) (xC (PyData.int 0))) (xEl (xLst (aCons (xC (PyData.str "hours")) (aCons (xC (PyData.str "bits")) aNil))))))))) (zRet (xC (PyData.bool false))) zNext)
      (zRet (xFn f_law_are_lines 2 (aCons (xOp o_ix (xVar 0) (xC (PyData.int 0))) (aCons (xOp o_ix (xVar 0) (xC (PyData.int 1))) aNil)))))
def f_law_is_book : List Sl → Tr PyData := runF 0 b_law_is_book
def b_law_are_numbers : Ss_ :=
      (zSeq (zIf (yOr (yNot (yTru (xIsi isListD (xVar 2)))) (yB (xOp (oEqE not) (xEl (xLc (iSeq itL (xVar 2)) (tgName 3) (yOr (yNot (yTru (xIsi isTupD (xVar 3)))) (yB (xOp (oEq not) (xCb o_len (aCons (xVar 3) aNil)) (xC (PyData.int 2))))) (xVar 3) [3])) (xEl (xLst aNil))))) (zRet (xC (PyData.bool false))) zNext)
      (zSeq (zIf (yB (xOp (oEqE not) (xEl (xLc (iSeq itL (xVar 2)) (tgName 3) (yOr (yNot (yTru (xFn f_law_is_name 1 (aCons (xOp o_ix (xVar 3) (xC (PyData.int 0))) aNil)))) (yNot (yTru (xFn f_law_is_number 2 (aCons (xVar 0) (aCons (xOp o_ix (xVar 3) (xC (PyData.int 1))) aNil)))))) (xVar 3) [3])) (xEl (xLst aNil)))) (zRet (xC (PyData.bool false))) zNext)
      (zRet (xOp (oEq id) (xEl (xLc (iSeq itL (xVar 2)) (tgName 3) yYes (xOp o_ix (xVar 3) (xC (PyData.int 0))) [3])) (xVar 1)))))
def f_law_are_numbers : List Sl → Tr PyData := runF 1 b_law_are_numbers
def l_law_word_1 : Ss_ :=
      (zAsg (xOp o_add (xVar 1) (xOp o_ix (xC (PyData.str "abcdefghijklmnopqrstuvwxyz0123456789ABZ_- \n\t")) (xFn f_law_random 2 (aGen 0 (aCons (xC (PyData.int 44)) aNil))))) (tgName 1))
def b_law_word : Ss_ :=
      (zSeq (zAsg (xOp o_ix (xEl (xLst (aCons (xC (PyData.str "")) (aCons (xC (PyData.str "")) (aCons (xC (PyData.str "by")) (aCons (xC (PyData.str "is")) (aCons (xC (PyData.str "hours")) aNil))))))) (xFn f_law_random 2 (aGen 0 (aCons (xC (PyData.int 5)) aNil)))) (tgName 1))
      (zSeq (zFor (iCall rng1 (aCons (xFn f_law_random 2 (aGen 0 (aCons (xC (PyData.int 10)) aNil))) aNil)) (tgName 2) l_law_word_1)
      (zRet (xVar 1))))
def f_law_word : List Sl → Tr PyData := runF 2 b_law_word
def l_law_odd_1 : Ss_ :=
      (zSeq (zAsgOwn (xList (aCons (xVar 1) aNil)) 6)
      (zSeq (zSet 6 (xVar 5) (xVar 4))
      (zFrz 6 (zApp 3 (xCb o_tuple (aCons (xVar 6) aNil))))))
def l_law_odd_2 : Ss_ :=
      (zFor (iSeq itL (xOp o_add (xVar 2) (xEl (xLst (aCons (xOp o_ix (xVar 1) (xC (PyData.int 0))) (aCons (xOp o_ix (xVar 1) (xC (PyData.int 1))) (aCons (xOp o_ix (xVar 1) (xC (PyData.int 3))) (aCons (xOp o_sub (xOp o_ix (xVar 1) (xC (PyData.int 3))) (xC (PyData.int 1))) (aCons (xOp o_sub (xC (PyData.int 0)) (xC (PyData.int 5))) aNil))))))))) (tgName 5) l_law_odd_1)
def b_law_odd : Ss_ :=
      (zSeq (zAsg (xEl (xLst (aCons (xC PyData.none) (aCons (xC (PyData.bool true)) (aCons (xC (PyData.bool false)) (aCons (xC (PyData.str "")) (aCons (xC (PyData.str "A")) (aCons (xC (PyData.str "a b")) (aCons (xEl (xLst aNil)) (aCons xD0 (aCons (xTup aNil) (aCons (xC (PyData.str "aB")) (aCons (xC (PyData.str "x01")) (aCons (xC (PyData.str "x00")) (aCons (xC (PyData.str "x0")) (aCons (xC (PyData.str "x1000")) (aCons (xC (PyData.str "abcdefg")) (aCons (xC (PyData.int 7)) (aCons (xUn o_neg (xC (PyData.int 1))) (aCons (xOp o_pow (xC (PyData.int 10)) (xC (PyData.int 29))) (aCons (xEl (xLst (aCons (xC (PyData.str "a")) aNil))) (aCons (xTup (aCons (xC (PyData.str "a")) aNil)) aNil)))))))))))))))))))))) (tgName 2))
      (zSeq (zAsgOwn (xCat (xVar 2) (xEl (xLst (aCons (xCb o_list (aCons (xVar 1) aNil)) (aCons (xSl (xVar 1) pNo (pSo (xC (PyData.int 3)))) (aCons (xOp o_add (xVar 1) (xTup (aCons (xC (PyData.int 0)) aNil))) (aCons (xC (PyData.str "line")) aNil))))))) 3)
      (zSeq (zFor (iCall rng1 (aCons (xC (PyData.int 4)) aNil)) (tgName 4) l_law_odd_2)
      (zFrz 3 (zRet (xVar 3))))))
def f_law_odd : List Sl → Tr PyData := runF 5 b_law_odd
def l_law_value_right_1 : Ss_ :=
      (zSeq (zAsg (xEl (xLst (aCons (xFn f_law_is_line 2 (aCons (xVar 2) (aCons (xVar 0) aNil))) (aCons (xFn f_law_are_lines 2 (aCons (xVar 2) (aCons (xVar 0) aNil))) (aCons (xFn f_law_are_numbers 3 (aCons (xVar 2) (aCons (xEl (xLst (aCons (xC (PyData.str "a")) (aCons (xC (PyData.str "b")) aNil)))) (aCons (xVar 0) aNil)))) aNil))))) (tgName 3))
      (zSeq (zAsg (xEl (xLst (aCons (xFn f_is_line 2 (aCons (xVar 2) (aCons (xVar 0) aNil))) (aCons (xFn f_are_lines 2 (aCons (xVar 2) (aCons (xVar 0) aNil))) (aCons (xFn f_are_numbers 3 (aCons (xVar 2) (aCons (xEl (xLst (aCons (xC (PyData.str "a")) (aCons (xC (PyData.str "b")) aNil)))) (aCons (xVar 0) aNil)))) aNil))))) (tgName 4))
      (zSeq (zIf (yB (xOp (oEqE not) (xCb o_reprD (aCons (xVar 4) aNil)) (xCb o_reprD (aCons (xVar 3) aNil)))) (zRet (xC (PyData.bool false))) zNext)
      (zSeq (zAsg (xEl (xLst (aCons (xFn f_is_line 2 (aKw aNil (aCons (xVar 0) (aCons (xVar 2) aNil)) 0 2 [1, 0])) (aCons (xFn f_are_lines 2 (aKw aNil (aCons (xVar 0) (aCons (xVar 2) aNil)) 0 2 [1, 0])) (aCons (xFn f_are_numbers 3 (aKw aNil (aCons (xVar 0) (aCons (xEl (xLst (aCons (xC (PyData.str "a")) (aCons (xC (PyData.str "b")) aNil)))) (aCons (xVar 2) aNil))) 0 3 [2, 1, 0])) aNil))))) (tgName 4))
      (zIf (yB (xOp (oEqE not) (xCb o_reprD (aCons (xVar 4) aNil)) (xCb o_reprD (aCons (xVar 3) aNil)))) (zRet (xC (PyData.bool false))) zNext)))))
def b_law_value_right : Ss_ :=
      (zSeq (zAsg (xCb o_reprD (aCons (xVar 0) aNil)) (tgName 1))
      (zSeq (zFor (iSeq itL (xEl (xLst (aCons (xC (PyData.str "hours")) (aCons (xC (PyData.str "bits")) aNil))))) (tgName 2) l_law_value_right_1)
      (zSeq (zAsg (xEl (xLst (aCons (xFn f_law_is_name 1 (aCons (xVar 0) aNil)) (aCons (xFn f_law_is_book 1 (aCons (xVar 0) aNil)) aNil)))) (tgName 3))
      (zRet (xAnd (xOp (oEqE id) (xCb o_reprD (aCons (xEl (xLst (aCons (xFn f_is_name 1 (aCons (xVar 0) aNil)) (aCons (xFn f_is_book 1 (aCons (xVar 0) aNil)) (aCons (xFn f_is_name 1 (aKw aNil (aCons (xVar 0) aNil) 0 1 [0])) (aCons (xFn f_is_book 1 (aKw aNil (aCons (xVar 0) aNil) 0 1 [0])) aNil)))))) aNil)) (xCb o_reprD (aCons (xOp o_add (xVar 3) (xVar 3)) aNil))) (xOp (oEqE id) (xCb o_reprD (aCons (xVar 0) aNil)) (xVar 1)))))))
def f_law_value_right : List Sl → Tr PyData := runF 4 b_law_value_right
def b_law_book_right : Ss_ :=
      (zSeq (zAsg (xOp o_ix (xEl (xLst (aCons (xC (PyData.str "hours")) (aCons (xC (PyData.str "bits")) aNil)))) (xFn f_law_random 2 (aGen 0 (aCons (xC (PyData.int 2)) aNil)))) (tgName 1))
      (zSeq (zAsg (xOp o_ix (xEl (xLst (aCons (xEl (xLst (aCons (xC (PyData.str "a")) (aCons (xC (PyData.str "b")) aNil)))) (aCons (xEl (xLst (aCons (xC (PyData.str "noon")) (aCons (xC (PyData.str "bell")) (aCons (xC (PyData.str "x9")) (aCons (xC (PyData.str "x10")) aNil)))))) (aCons (xEl (xLst (aCons (xC (PyData.str "by")) (aCons (xC (PyData.str "is")) (aCons (xC (PyData.str "of")) (aCons (xC (PyData.str "ahead")) aNil)))))) aNil))))) (xFn f_law_random 2 (aGen 0 (aCons (xC (PyData.int 3)) aNil)))) (tgName 2))
      (zSeq (zAsg (xFn f_law_lines 4 (aGen 0 (aCons (xVar 1) (aCons (xVar 2) (aCons (xC (PyData.int 6)) aNil))))) (tgName 3))
      (zSeq (zAsg (xTup (aCons (xVar 1) (aCons (xVar 3) aNil))) (tgName 4))
      (zSeq (zPar 5 6 (aCons (xCb o_reprD (aCons (xVar 4) aNil)) (aCons (xFn f_law_names_in 1 (aCons (xVar 3) aNil)) aNil)))
      (zSeq (zAsgOwn (xFnO f_unknowns 1 (aCons (xVar 4) aNil)) 7)
      (zSeq (zIf (yLend 7 (yOr (yB (xOp (oEq not) (xVar 7) (xVar 6))) (yOr (yB (xOp (oEq not) (xEl (xFnO f_unknowns 1 (aKw aNil (aCons (xVar 4) aNil) 0 1 [0]))) (xVar 6))) (yB (xOp (oEqE not) (xCb o_reprD (aCons (xVar 4) aNil)) (xVar 5)))))) (zRet (xC (PyData.bool false))) zNext)
      (zSeq (zApp 7 (xC PyData.none))
      (zSeq (zPar 8 9 (aCons (xFn f_law_random 2 (aGen 0 (aCons (xOp o_add (xCb o_len (aCons (xVar 3) aNil)) (xC (PyData.int 1))) aNil))) (aCons (xFn f_law_odd 2 (aGen 0 (aCons (xFn f_law_line 3 (aGen 0 (aCons (xVar 1) (aCons (xVar 2) aNil)))) aNil))) aNil)))
      (zSeq (zAsg (xOp o_ix (xVar 9) (xFn f_law_random 2 (aGen 0 (aCons (xCb o_len (aCons (xVar 9) aNil)) aNil)))) (tgName 10))
      (zSeq (zAsg (xEl (xLst (aCons (xVar 4) (aCons (xVar 3) (aCons (xTup (aCons (xVar 1) (aCons (xOp o_add (xOp o_add (xSl (xVar 3) pNo (pSo (xVar 8))) (xEl (xLst (aCons (xVar 10) aNil)))) (xSl (xVar 3) (pSo (xVar 8)) pNo)) aNil))) (aCons (xCb o_list (aCons (xVar 4) aNil)) (aCons (xTup (aCons (xVar 1) (aCons (xCb o_tuple (aCons (xVar 3) aNil)) aNil))) aNil))))))) (tgName 11))
      (zSeq (zAsg (xOp o_add (xVar 11) (xEl (xLst (aCons (xTup (aCons (xOp o_ix (xEl (xLst (aCons (xC (PyData.str "bits")) (aCons (xC (PyData.str "hours")) aNil)))) (xCb o_int (aCons (xOp (oEq id) (xVar 1) (xC (PyData.str "bits"))) aNil))) (aCons (xVar 3) aNil))) (aCons (xTup (aCons (xC (PyData.str "days")) (aCons (xVar 3) aNil))) (aCons (xTup (aCons (xVar 1) (aCons (xVar 3) (aCons (xC (PyData.int 0)) aNil)))) (aCons (xTup (aCons (xVar 1) aNil)) (aCons (xTup (aCons (xC PyData.none) (aCons (xEl (xLst aNil)) aNil))) aNil)))))))) (tgName 11))
      (zSeq (zAsg (xOp o_add (xVar 11) (xEl (xLst (aCons (xTup (aCons (xEl (xLst aNil)) (aCons (xVar 3) aNil))) (aCons (xTup (aCons (xVar 1) (aCons (xOp o_add (xVar 3) (xEl (xLst (aCons (xC PyData.none) aNil)))) aNil))) (aCons (xOp o_add (xVar 3) (xEl (xLst (aCons (xVar 10) aNil)))) (aCons (xCb o_tuple (aCons (xVar 3) aNil)) (aCons (xTup (aCons xD0 (aCons (xEl (xLst aNil)) aNil))) (aCons (xTup (aCons (xVar 1) (aCons (xC PyData.none) aNil))) aNil))))))))) (tgName 11))
      (zSeq (zIf (yB (xOp (oEqE not) (xEl (xLc (iSeq itL (xVar 11)) (tgName 12) (yNot (yTru (xFn f_law_value_right 1 (aCons (xVar 12) aNil)))) (xVar 12) [12])) (xEl (xLst aNil)))) (zRet (xC (PyData.bool false))) zNext)
      (zRet (xAnd (xOp (oEq id) (xEl (xFnO f_unknowns 1 (aCons (xVar 4) aNil))) (xVar 6)) (xOp (oEqE id) (xCb o_reprD (aCons (xVar 4) aNil)) (xVar 5))))))))))))))))))
def f_law_book_right : List Sl → Tr PyData := runF 12 b_law_book_right
def l_law_right_1 : Ss_ :=
      (zIf (yNot (yTru (xFn f_law_value_right 1 (aCons (xFn f_law_word 1 (aGen 0 aNil)) aNil)))) (zRet (xC (PyData.bool false))) zNext)
def l_law_right_2 : Ss_ :=
      (zIf (yNot (yTru (xFn f_law_value_right 1 (aCons (xVar 3) aNil)))) (zRet (xC (PyData.bool false))) zNext)
def b_law_right : Ss_ :=
      (zSeq (zFor (iCall rng1 (aCons (xC (PyData.int 8)) aNil)) (tgName 1) l_law_right_1)
      (zSeq (zAsg (xFn f_law_line 3 (aGen 0 (aCons (xOp o_ix (xEl (xLst (aCons (xC (PyData.str "hours")) (aCons (xC (PyData.str "bits")) aNil)))) (xFn f_law_random 2 (aGen 0 (aCons (xC (PyData.int 2)) aNil)))) (aCons (xEl (xLst (aCons (xC (PyData.str "a")) (aCons (xC (PyData.str "b")) (aCons (xC (PyData.str "x10")) aNil))))) aNil)))) (tgName 2))
      (zSeq (zFor (iSeq itL (xOp o_add (xEl (xLst (aCons (xVar 2) aNil))) (xFn f_law_odd 2 (aGen 0 (aCons (xVar 2) aNil))))) (tgName 3) l_law_right_2)
      (zSeq (zAsg (xEl (xLst (aCons (xTup (aCons (xC (PyData.str "a")) (aCons (xFn f_law_random 2 (aGen 0 (aCons (xC (PyData.int 20)) aNil))) aNil))) (aCons (xTup (aCons (xC (PyData.str "b")) (aCons (xOp o_sub (xC (PyData.int 0)) (xFn f_law_random 2 (aGen 0 (aCons (xC (PyData.int 20)) aNil)))) aNil))) aNil)))) (tgName 4))
      (zSeq (zAsg (xEl (xLst (aCons (xVar 4) (aCons (xEl (xRev (xVar 4))) (aCons (xSl (xVar 4) pNo (pSo (xC (PyData.int 1)))) (aCons (xOp o_add (xVar 4) (xEl (xLst (aCons (xTup (aCons (xC (PyData.str "c")) (aCons (xC (PyData.int 0)) aNil))) aNil)))) (aCons (xEl (xLst (aCons (xTup (aCons (xC (PyData.str "a")) (aCons (xC (PyData.int 1)) aNil))) (aCons (xTup (aCons (xC (PyData.str "b")) (aCons (xOp o_pow (xC (PyData.int 10)) (xC (PyData.int 29))) aNil))) aNil)))) (aCons (xEl (xLst (aCons (xEl (xLst (aCons (xC (PyData.str "a")) (aCons (xC (PyData.int 1)) aNil)))) (aCons (xTup (aCons (xC (PyData.str "b")) (aCons (xC (PyData.int 1)) aNil))) aNil)))) aNil)))))))) (tgName 5))
      (zSeq (zAsg (xOp o_add (xVar 5) (xEl (xLst (aCons (xEl (xLst (aCons (xTup (aCons (xC (PyData.str "a")) (aCons (xC (PyData.bool true)) aNil))) (aCons (xTup (aCons (xC (PyData.str "b")) (aCons (xC (PyData.int 1)) aNil))) aNil)))) (aCons (xEl (xLst (aCons (xTup (aCons (xC (PyData.str "a")) (aCons (xC PyData.none) aNil))) (aCons (xTup (aCons (xC (PyData.str "b")) (aCons (xC (PyData.int 1)) aNil))) aNil)))) (aCons (xEl (xLst (aCons (xTup (aCons (xC (PyData.str "a")) (aCons (xC (PyData.int 1)) aNil))) (aCons (xTup (aCons (xC (PyData.str "a")) (aCons (xC (PyData.int 1)) aNil))) aNil)))) (aCons (xEl (xLst (aCons (xTup (aCons (xEl (xLst aNil)) (aCons (xC (PyData.int 1)) aNil))) (aCons (xTup (aCons (xC (PyData.str "b")) (aCons (xC (PyData.int 1)) aNil))) aNil)))) (aCons (xEl (xLst (aCons (xTup (aCons (xC (PyData.str "a")) aNil)) (aCons (xTup (aCons (xC (PyData.str "b")) (aCons (xC (PyData.int 1)) aNil))) aNil)))) (aCons (xEl (xLst (aCons (xTup (aCons (xC (PyData.str "a")) (aCons (xC (PyData.int 1)) (aCons (xC (PyData.int 2)) aNil)))) (aCons (xTup (aCons (xC (PyData.str "b")) (aCons (xC (PyData.int 1)) aNil))) aNil)))) aNil))))))))) (tgName 5))
      (zSeq (zIf (yB (xOp (oEqE not) (xEl (xLc (iSeq itL (xOp o_add (xVar 5) (xEl (xLst (aCons (xCb o_tuple (aCons (xVar 4) aNil)) (aCons (xCb o_dict (aCons (xVar 4) aNil)) aNil)))))) (tgName 3) (yNot (yTru (xFn f_law_value_right 1 (aCons (xVar 3) aNil)))) (xVar 3) [3])) (xEl (xLst aNil)))) (zRet (xC (PyData.bool false))) zNext)
      (zRet (xFn f_law_book_right 1 (aGen 0 aNil))))))))))
def f_law_right : List Sl → Tr PyData := runF 5 b_law_right
def l_law_1 : Ss_ :=
      (zIf (yNot (yTru (xGen f_law_right 1 0 (xVar 1) aNil))) (zRet (xC (PyData.bool false))) zNext)
def b_law : Ss_ :=
      (zSeq (zFor (iCall rng1 (aCons (xC (PyData.int 3)) aNil)) (tgName 1) l_law_1)
      (zSeq (zAsg (xEl (xLst (aCons (xFn f_is_line 2 (aCons (xC (PyData.str "hours")) (aCons (xTup (aCons (xC (PyData.str "a")) (aCons (xC (PyData.str "b")) (aCons (xC (PyData.int 12)) (aCons (xC (PyData.int 12)) aNil))))) aNil))) (aCons (xFn f_is_line 2 (aCons (xC (PyData.str "bits")) (aCons (xTup (aCons (xC (PyData.str "a")) (aCons (xC (PyData.str "b")) (aCons (xC (PyData.int 3)) (aCons (xC (PyData.int 5)) aNil))))) aNil))) (aCons (xFn f_is_line 2 (aCons (xC (PyData.str "bits")) (aCons (xTup (aCons (xC (PyData.str "a")) (aCons (xC (PyData.str "b")) (aCons (xC (PyData.int 4)) (aCons (xC (PyData.int 5)) aNil))))) aNil))) (aCons (xFn f_is_line 2 (aCons (xC (PyData.str "bits")) (aCons (xTup (aCons (xC (PyData.str "a")) (aCons (xC (PyData.str "b")) (aCons (xC (PyData.int 0)) (aCons (xC (PyData.int 1)) aNil))))) aNil))) aNil)))))) (tgName 2))
      (zSeq (zAsg (xOp o_add (xVar 2) (xEl (xLst (aCons (xFn f_is_line 2 (aCons (xC (PyData.str "hours")) (aCons (xTup (aCons (xC (PyData.str "a")) (aCons (xC (PyData.str "b")) (aCons (xUn o_neg (xC (PyData.int 7))) (aCons (xC (PyData.int 0)) aNil))))) aNil))) (aCons (xFn f_is_line 2 (aCons (xC (PyData.str "bits")) (aCons (xTup (aCons (xC (PyData.str "a")) (aCons (xC (PyData.str "b")) (aCons (xUn o_neg (xC (PyData.int 7))) (aCons (xC (PyData.int 0)) aNil))))) aNil))) (aCons (xFn f_is_line 2 (aCons (xC (PyData.str "hours")) (aCons (xTup (aCons (xC (PyData.str "a")) (aCons (xC (PyData.str "b")) (aCons (xC (PyData.int 0)) (aCons (xC (PyData.int 1)) aNil))))) aNil))) (aCons (xFn f_is_name 1 (aCons (xC (PyData.str "by")) aNil)) (aCons (xFn f_is_name 1 (aCons (xC (PyData.str "a999")) aNil)) aNil)))))))) (tgName 2))
      (zSeq (zAsg (xTup (aCons (xC (PyData.str "hours")) (aCons (xEl (xLc (iCall rng1 (aCons (xC (PyData.int 12)) aNil)) (tgName 4) yYes (xTup (aCons (xOp o_add (xC (PyData.str "a")) (xCb o_strI (aCons (xVar 4) aNil))) (aCons (xC (PyData.str "b")) (aCons (xC (PyData.int 0)) (aCons (xC (PyData.int 2)) aNil))))) [4])) aNil))) (tgName 3))
      (zSeq (zIf (yOr (yB (xOp (o_isB not) (xFn f_is_book 1 (aCons (xVar 3) aNil)) (xC (PyData.bool true)))) (yB (xOp (o_isB not) (xFn f_is_book 1 (aCons (xTup (aCons (xC (PyData.str "bits")) (aCons (xEl (xRep (xEl (xLst (aCons (xTup (aCons (xC (PyData.str "a")) (aCons (xC (PyData.str "b")) (aCons (xC (PyData.int 1)) (aCons (xC (PyData.int 2)) aNil))))) aNil))) (xC (PyData.int 41)))) aNil))) aNil)) (xC (PyData.bool true))))) (zRet (xC (PyData.bool false))) zNext)
      (zSeq (zIf (yOr (yB (xOp (o_isB not) (xFn f_are_numbers 3 (aCons (xC (PyData.str "bits")) (aCons (xEl (xLst aNil)) (aCons (xEl (xLst aNil)) aNil)))) (xC (PyData.bool true)))) (yOr (yB (xOp (o_isB not) (xFn f_are_numbers 3 (aCons (xC (PyData.str "hours")) (aCons (xEl (xLst aNil)) (aCons (xEl (xLst (aCons (xTup (aCons (xC (PyData.str "a")) (aCons (xC (PyData.int 0)) aNil))) aNil))) aNil)))) (xC (PyData.bool false)))) (yB (xOp (o_isB not) (xFn f_is_name 1 (aCons (xC (PyData.str "a\n")) aNil)) (xC (PyData.bool false)))))) (zRet (xC (PyData.bool false))) zNext)
      (zRet (xAnd (xOp (oEq id) (xVar 2) (xEl (xLst (aCons (xC (PyData.bool false)) (aCons (xC (PyData.bool true)) (aCons (xC (PyData.bool false)) (aCons (xC (PyData.bool true)) (aCons (xC (PyData.bool true)) (aCons (xC (PyData.bool false)) (aCons (xC (PyData.bool true)) (aCons (xC (PyData.bool true)) (aCons (xC (PyData.bool true)) aNil)))))))))))) (xAnd (xOp (o_isB id) (xFn f_are_numbers 3 (aCons (xC (PyData.str "hours")) (aCons (xEl (xLst (aCons (xC (PyData.str "x10")) (aCons (xC (PyData.str "x9")) aNil)))) (aCons (xEl (xLst (aCons (xTup (aCons (xC (PyData.str "x10")) (aCons (xUn o_neg (xC (PyData.int 1))) aNil))) (aCons (xTup (aCons (xC (PyData.str "x9")) (aCons (xC (PyData.int 0)) aNil))) aNil)))) aNil)))) (xC (PyData.bool true))) (xOp (oEqE id) (xEl (xFnO f_unknowns 1 (aCons (xTup (aCons (xC (PyData.str "bits")) (aCons (xEl (xLst aNil)) aNil))) aNil))) (xEl (xLst aNil))))))))))))
def f_law : List Sl → Tr PyData := runF 4 b_law
end Hr
end
namespace Hr
open PySem PySem.Spec PyProof.Rows L2 Evl
/-! ### what a name is -/
abbrev LET : Str := "abcdefghijklmnopqrstuvwxyz"
abbrev DIG : Str := "0123456789"
def isL (c : Nat) : Bool := decide (c ∈ LET.cps.toList)
def isDg (c : Nat) : Bool := decide (c ∈ DIG.cps.toList)
theorem l_not_dg {c : Nat} (h : isL c = true) : isDg c = false := by
  have key : ∀ c ∈ LET.cps.toList, ¬ c ∈ DIG.cps.toList := by decide +kernel
  exact decide_eq_false (key c (of_decide_eq_true h))
theorem dg_not_l {c : Nat} (h : isDg c = true) : isL c = false := by
  cases q : isL c with
  | false => rfl
  | true => rw [l_not_dg q] at h; cases h
theorem isL_in (f : Bool → Bool) (c : Nat) : o_in f (.str ⟨#[c]⟩) (.str LET) = .done (.bool (f (isL c))) := congrArg (fun b => Tr.done (PyData.bool (f b))) (PySem.StrLaws.found_one LET c)
theorem isDg_in (f : Bool → Bool) (c : Nat) : o_in f (.str ⟨#[c]⟩) (.str DIG) = .done (.bool (f (isDg c))) := congrArg (fun b => Tr.done (PyData.bool (f b))) (PySem.StrLaws.found_one DIG c)
abbrev mkS (cs : List Nat) : Str := ⟨cs.toArray⟩
/-- how many signs stand ahead of the figures at the end -/
def wl (cs : List Nat) : Nat := cs.length - (cs.reverse.takeWhile isDg).length
theorem tw_le {α : Type} (p : α → Bool) : ∀ xs : List α, (xs.takeWhile p).length ≤ xs.length
  | [] => Nat.le_refl _
  | x :: xs => by
    rw [List.takeWhile_cons]
    split
    · have := tw_le p xs; simp; exact this
    · simp
theorem rstrip_dg (x : Str) : Txt.rstripChars x DIG = mkS (x.cps.toList.take (wl x.cps.toList)) := by
  have hg : DIG.cps.contains = isDg := by
    funext c
    unfold isDg
    simp
  unfold Txt.rstripChars
  rw [hg, PySem.W.stripBy_eq]
  unfold W.stripped Builtin.Str.strSub wl Str.length
  simp only [List.drop_zero, Bool.false_eq_true, if_false]
  congr 1
  apply Array.ext'
  simp
def nm (cs : List Nat) : Bool :=
  decide (1 ≤ (cs.takeWhile isL).length ∧ (cs.takeWhile isL).length ≤ 6) && (decide ((cs.dropWhile isL).length ≤ 3) && ((cs.dropWhile isL).all isDg && ((cs.dropWhile isL == []) || ((cs.dropWhile isL == [48]) || !((cs.dropWhile isL).head? == some 48)))))

def nm2 (cs : List Nat) : Bool :=
  decide (1 ≤ (cs.take (wl cs)).length ∧ (cs.take (wl cs)).length ≤ 6) && ((cs.take (wl cs)).all isL && (decide ((cs.drop (wl cs)).length ≤ 3) && ((cs.drop (wl cs) == [48]) || !((cs.drop (wl cs)).head? == some 48))))
theorem tw_app {α : Type} {p : α → Bool} : ∀ {xs ys : List α}, xs.all p = true → (xs ++ ys).takeWhile p = xs ++ ys.takeWhile p
  | [], _, _ => rfl
  | x :: xs, ys, h => by
    rw [List.all_cons, Bool.and_eq_true] at h
    rw [List.cons_append, List.takeWhile_cons, if_pos h.1, tw_app h.2]; rfl
theorem dw_app {α : Type} {p : α → Bool} : ∀ {xs ys : List α}, xs.all p = true → (xs ++ ys).dropWhile p = ys.dropWhile p
  | [], _, _ => rfl
  | x :: xs, ys, h => by
    rw [List.all_cons, Bool.and_eq_true] at h
    rw [List.cons_append, List.dropWhile_cons, if_pos h.1, dw_app h.2]
theorem tw_none {α : Type} {p : α → Bool} : ∀ {ys : List α}, (∀ y, ys.head? = some y → p y = false) → ys.takeWhile p = [] ∧ ys.dropWhile p = ys
  | [], _ => ⟨rfl, rfl⟩
  | y :: ys, h => by
    have := h y rfl
    rw [List.takeWhile_cons, List.dropWhile_cons, this]; exact ⟨rfl, rfl⟩
/-- a text cut into letters and figures -/
theorem wl_app {w t : List Nat} (hw : w.all isL = true) (ht : t.all isDg = true) : wl (w ++ t) = w.length := by
  have h1 : (w.reverse.takeWhile isDg) = [] := (tw_none fun y hy => by
    have : y ∈ w := by
      have := List.mem_of_mem_head? hy
      exact List.mem_reverse.mp this
    exact l_not_dg (List.all_eq_true.mp hw y this)).1
  unfold wl
  rw [List.reverse_append, tw_app (by rw [List.all_reverse]; exact ht), h1, List.append_nil, List.length_append, List.length_reverse]
  omega
theorem drop_dg (cs : List Nat) : (cs.drop (wl cs)).all isDg = true := by
  have h : cs.drop (wl cs) = (cs.reverse.takeWhile isDg).reverse := by
    have e : cs.reverse = cs.reverse.takeWhile isDg ++ cs.reverse.dropWhile isDg := List.takeWhile_append_dropWhile.symm
    have e2 : cs = (cs.reverse.dropWhile isDg).reverse ++ (cs.reverse.takeWhile isDg).reverse := by
      rw [← List.reverse_append, ← e, List.reverse_reverse]
    have l : wl cs = (cs.reverse.dropWhile isDg).reverse.length := by
      have := congrArg List.length e
      rw [List.length_append, List.length_reverse] at this
      unfold wl
      rw [List.length_reverse]; omega
    rw [l]
    generalize (cs.reverse.dropWhile isDg).reverse = A at *
    generalize (cs.reverse.takeWhile isDg).reverse = B at *
    rw [e2, List.drop_left]
  rw [h, List.all_reverse]
  exact List.all_takeWhile
theorem nm_same (cs : List Nat) : nm2 cs = nm cs := by
  by_cases hw : (cs.take (wl cs)).all isL = true
  · have e : cs.take (wl cs) ++ cs.drop (wl cs) = cs := List.take_append_drop ..
    have hd := drop_dg cs
    have h0 := tw_none (p := isL) (ys := cs.drop (wl cs)) fun y hy => dg_not_l (List.all_eq_true.mp hd y (List.mem_of_mem_head? hy))
    have h1 : cs.takeWhile isL = cs.take (wl cs) := by
      conv => lhs; rw [← e]
      rw [tw_app hw, h0.1, List.append_nil]
    have h2 : cs.dropWhile isL = cs.drop (wl cs) := by
      conv => lhs; rw [← e]
      rw [dw_app hw, h0.2]
    unfold nm nm2
    rw [h1, h2, hw, hd, Bool.true_and, Bool.true_and]
    congr 2
    generalize cs.drop (wl cs) = t
    cases t with
    | nil => rfl
    | cons a t => rfl
  · have hf : (cs.take (wl cs)).all isL = false := by simpa using hw
    have l : nm2 cs = false := by unfold nm2; rw [hf, Bool.false_and, Bool.and_false]
    rw [l]
    cases q : (cs.dropWhile isL).all isDg with
    | false => unfold nm; rw [q, Bool.false_and, Bool.and_false, Bool.and_false]
    | true =>
      exfalso
      have e : cs.takeWhile isL ++ cs.dropWhile isL = cs := List.takeWhile_append_dropWhile
      have z := wl_app (w := cs.takeWhile isL) (t := cs.dropWhile isL) List.all_takeWhile q
      rw [e] at z
      apply hw
      rw [z]
      have hA : (cs.takeWhile isL).all isL = true := List.all_takeWhile
      generalize cs.takeWhile isL = A at *
      generalize cs.dropWhile isL = B at *
      rw [← e, List.take_left]
      exact hA
/-! strings: what is done with them -/
theorem len_S (cs : List Nat) : (mkS cs).length = cs.length := by simp [Str.length]
theorem len_s {x : Str} (h : x.length ≤ 100000) : o_len [.dat (.str x)] = .done (.int (x.length : Int)) := if_pos h
theorem cut_S {x : Str} {n : Nat} (h : n ≤ x.length) : cutS x (some (n : Int)) none = mkS (x.cps.toList.drop n) := by
  unfold cutS
  rw [HT.sIx_nat, HT.sIx_none]
  congr 2
  have hl : x.cps.toList.length = x.length := by simp [Str.length]
  rw [Nat.min_eq_left h, List.take_of_length_le (by rw [List.length_drop, hl]; omega)]
theorem beq_S (a b : List Nat) : (mkS a == mkS b) = (a == b) := by
  rw [Bool.eq_iff_iff, beq_iff_eq, beq_iff_eq]
  constructor
  · intro h
    have := congrArg Str.cps h
    simpa using this
  · intro h; rw [h]
theorem starts_0 (cs : List Nat) : Txt.startswith (mkS cs) "0" = (cs.head? == some 48) := by
  cases cs with
  | nil => decide +kernel
  | cons c cs =>
    unfold Txt.startswith
    have h1 : ("0" : Str) = mkS [48] := by decide +kernel
    rw [h1, len_S, len_S]
    have : Builtin.Str.subAt (mkS (c :: cs)) (mkS [48]) 0 = (c == 48) := by
      unfold Builtin.Str.subAt
      rw [len_S]
      simp
    rw [this]
    simp
def bD (bs : List Bool) : List PyData := bs.map .bool
theorem bools_b : ∀ bs : List Bool, boolsD (bD bs) = some bs
  | [] => rfl
  | b :: bs => by
    show (boolsD (bD bs)).map (b :: ·) = _
    rw [bools_b bs]; rfl
theorem all_b (bs : List Bool) : o_all [.dat (.list (bD bs))] = .done (.bool (bs.all id)) := by
  show (match boolsD (bD bs) with | some bs => Tr.done (PyData.bool (bs.all id)) | none => .fail) = _
  rw [bools_b]
theorem chD_map (cs : List Nat) : chD (mkS cs) = cs.map fun c => .str ⟨#[c]⟩ := by unfold chD; simp
def nameB : PyData → Bool
  | .str x => nm x.cps.toList
  | _ => false
theorem ok_mk {cs : List Nat} (h : ∀ c ∈ cs, c < 0x110000) : PyData.strOk (mkS cs) = true := by
  unfold PyData.strOk
  simp only [List.all_toArray, List.all_eq_true]
  exact fun c hc => decide_eq_true (h c hc)
theorem ok_codes {x : Str} (h : PyData.strOk x = true) : ∀ c ∈ x.cps.toList, c < 0x110000 := by
  unfold PyData.strOk at h
  rw [Array.all_eq_true'] at h
  exact fun c hc => of_decide_eq_true (h c (by simpa using hc))
theorem shp_0 : shp (.str "0") = true := by decide +kernel
theorem shp_e : shp (.str "") = true := by decide +kernel
theorem mk_0 : ("0" : Str) = mkS [48] := by decide +kernel
theorem mk_e : ("" : Str) = mkS [] := by decide +kernel
theorem is_name_str {x : Str} (h : x.length ≤ 1000) (hs : PyData.strOk x = true) : f_is_name [.dat (.str x)] = .done (.bool (nm x.cps.toList)) := by
  have hl : x.cps.toList.length = x.length := by simp [Str.length]
  have hwl : wl x.cps.toList ≤ x.length := by unfold wl; omega
  have e1 : o_rstrip x (.str DIG) = .done (.str (mkS (x.cps.toList.take (wl x.cps.toList)))) := by
    show (if x.length ≤ 100000 then _ else _) = _
    rw [if_pos (by omega), rstrip_dg]
  have lW : (mkS (x.cps.toList.take (wl x.cps.toList))).length = wl x.cps.toList := by rw [len_S, List.length_take]; omega
  have e2 : o_len [.dat (.str (mkS (x.cps.toList.take (wl x.cps.toList))))] = .done (.int (wl x.cps.toList : Nat)) := by rw [len_s (by omega), lW]
  have e3 : o_sl (.str x) (some ((wl x.cps.toList : Nat) : Int)) none = .done (.str (mkS (x.cps.toList.drop (wl x.cps.toList)))) := by
    show (if x.length ≤ 100000 then _ else _) = _
    rw [if_pos (by omega), cut_S hwl]
  have lT : (mkS (x.cps.toList.drop (wl x.cps.toList))).length = x.length - wl x.cps.toList := by rw [len_S, List.length_drop, hl]
  have e5 : o_len [.dat (.str (mkS (x.cps.toList.drop (wl x.cps.toList))))] = .done (.int (((x.cps.toList.drop (wl x.cps.toList)).length : Nat) : Int)) := by rw [len_s (by omega), len_S]
  have okT : shp (.str (mkS (x.cps.toList.drop (wl x.cps.toList)))) = true := shp_str (ok_mk fun c hc => ok_codes hs c (List.mem_of_mem_drop hc))
  have e6 : oEq id (.str (mkS (x.cps.toList.drop (wl x.cps.toList)))) (.str "0") = .done (.bool (x.cps.toList.drop (wl x.cps.toList) == [48])) := by
    rw [oEq_str okT shp_0, mk_0, beq_S]; rfl
  have e7 : o_starts (mkS (x.cps.toList.drop (wl x.cps.toList))) (.str "0") = .done (.bool ((x.cps.toList.drop (wl x.cps.toList)).head? == some 48)) := by
    show Tr.done (PyData.bool _) = _
    rw [starts_0]
  have e4 : ∀ s2 : Sl, compL (tgName 3) yYes (xOp (o_in id) (xVar 3) (xC (PyData.str LET))) [3] (chD (mkS (x.cps.toList.take (wl x.cps.toList)))) [.dat (.str x), .dat (.str (mkS (x.cps.toList.take (wl x.cps.toList)))), s2, .no] = .done (bD ((x.cps.toList.take (wl x.cps.toList)).map isL)) := fun s2 => by
    rw [chD_map, compL_fm (fun c => PyData.str ⟨#[c]⟩) (fun c => PyData.bool (isL c)) (fun _ => true) _ (by rw [List.length_take]; omega) (fun c hc => ⟨_, rfl, rfl, fun _ => ?_⟩)]
    · rw [List.filter_eq_self.mpr (fun _ _ => rfl)]; unfold bD; rw [List.map_map]; rfl
    · exact isL_in id c
  have hn := nm_same x.cps.toList
  unfold nm2 at hn
  rw [List.length_take, show min (wl x.cps.toList) x.cps.toList.length = wl x.cps.toList by omega] at hn
  have ha : (((x.cps.toList.take (wl x.cps.toList)).map isL).all id) = (x.cps.toList.take (wl x.cps.toList)).all isL := by rw [List.all_map]; rfl
  rw [← hn, ← ha]
  generalize ((x.cps.toList.take (wl x.cps.toList)).map isL) = ls at *
  generalize mkS (x.cps.toList.take (wl x.cps.toList)) = W at *
  generalize mkS (x.cps.toList.drop (wl x.cps.toList)) = T at *
  generalize (x.cps.toList.drop (wl x.cps.toList)) = t at *
  generalize wl x.cps.toList = n at *
  have e8 := all_b ls
  have hls : ls.length ≤ 100000 ∨ True := .inr trivial
  by_cases c1 : (1 : Int) ≤ n
  · by_cases c2 : (n : Int) ≤ 6
    · have d1 : decide (1 ≤ n ∧ n ≤ 6) = true := decide_eq_true (by omega)
      cases ca : ls.all id
      · simp [f_is_name, runF, b_is_name, tmIte, List.replicate, isStrD, e1, e2, e3, c1, c2, itS, e4, e8, ca]
      · by_cases c3 : (t.length : Int) ≤ 3
        · have d3 : decide (t.length ≤ 3) = true := decide_eq_true (by omega)
          cases c4 : (t == [48])
          · simp [f_is_name, runF, b_is_name, tmIte, List.replicate, isStrD, e1, e2, e3, c1, c2, itS, e4, e8, ca, e5, c3, e6, c4, e7, d1, d3]
          · simp [f_is_name, runF, b_is_name, tmIte, List.replicate, isStrD, e1, e2, e3, c1, c2, itS, e4, e8, ca, e5, c3, e6, c4, e7, d1, d3]
        · have d3 : decide (t.length ≤ 3) = false := decide_eq_false (by omega)
          simp [f_is_name, runF, b_is_name, tmIte, List.replicate, isStrD, e1, e2, e3, c1, c2, itS, e4, e8, ca, e5, c3, d1, d3]
    · have d1 : decide (1 ≤ n ∧ n ≤ 6) = false := decide_eq_false (by omega)
      simp [f_is_name, runF, b_is_name, tmIte, List.replicate, isStrD, e1, e2, e3, c1, c2, d1]
  · have d1 : decide (1 ≤ n ∧ n ≤ 6) = false := decide_eq_false (by omega)
    simp [f_is_name, runF, b_is_name, tmIte, List.replicate, isStrD, e1, e2, e3, c1, d1]

theorem is_name_no {d : PyData} (h : isStrD d = false) : f_is_name [.dat d] = .done (.bool false) := by
  simp [f_is_name, runF, b_is_name, tmIte, List.replicate, h]
theorem nameB_no {d : PyData} (h : isStrD d = false) : nameB d = false := by cases d <;> first | rfl | cases h
theorem law_is_name_no {d : PyData} (h : isStrD d = false) : f_law_is_name [.dat d] = .done (.bool false) := by
  simp [f_law_is_name, runF, b_law_is_name, tmIte, List.replicate, h]
theorem ix_S {x : Str} {n c : Nat} (hx : x.length ≤ 100000) (h : x.cps.toList[n]? = some c) : o_ix (.str x) (.int (n : Int)) = .done (.str ⟨#[c]⟩) := by
  show (if x.length ≤ 100000 then (match atI x.cps.toList (n : Int) with | some c => Tr.done (PyData.str ⟨#[c]⟩) | none => .fail) else .fail) = _
  rw [if_pos hx, at_nat, h]
theorem letters_loop {x : Str} (hx : x.length ≤ 1000) (s2 s3 : Sl) : ∀ (rest : List Nat) (j f : Nat), x.cps.toList.drop j = rest → j + rest.length = x.length → rest.length < f →
    whileM t_law_is_name_1 l_law_is_name_1 f [.dat (.str x), dI (j : Int), s2, s3] = .done (.nx [.dat (.str x), dI ((j + (rest.takeWhile isL).length : Nat) : Int), s2, s3])
  | [], j, f + 1, hd, hl, _ => by
    have e1 := len_s (x := x) (by omega)
    have : x.length = j := by simpa using hl.symm
    rw [while_end (by simp [t_law_is_name_1, e1, this])]
    rfl
  | c :: rest, j, f + 1, hd, hl, hf => by
    have e1 := len_s (x := x) (by omega)
    have hc : x.cps.toList[j]? = some c := by
      have := congrArg List.head? hd
      rw [List.head?_drop] at this
      exact this
    have e2 := ix_S (by omega) hc
    have e3 := isL_in id c
    rw [List.length_cons] at hl hf
    have c1 : (j : Int) < (x.length : Int) := by omega
    cases q : isL c
    · rw [q] at e3
      rw [while_end (by simp [t_law_is_name_1, e1, c1, e2, e3]), List.takeWhile_cons, if_neg (by rw [q]; exact nofun)]
      rfl
    · rw [q] at e3
      have hd2 : x.cps.toList.drop (j + 1) = rest := by
        rw [← List.drop_drop, hd]; rfl
      have ih := letters_loop hx s2 s3 rest (j + 1) f hd2 (by omega) (by omega)
      rw [while_go (e' := [.dat (.str x), dI ((j + 1 : Nat) : Int), s2, s3]) (by simp [t_law_is_name_1, e1, c1, e2, e3]) (by simp [l_law_is_name_1]), ih, List.takeWhile_cons, if_pos q, List.length_cons]
      congr 6
      omega
theorem law_is_name_str {x : Str} (h : x.length ≤ 1000) (hs : PyData.strOk x = true) : f_law_is_name [.dat (.str x)] = .done (.bool (nm x.cps.toList)) := by
  have hl : x.cps.toList.length = x.length := by simp [Str.length]
  have lw := letters_loop h .no .no x.cps.toList 0 100000 rfl (by omega) (by omega)
  rw [Nat.zero_add] at lw
  have hn : (x.cps.toList.takeWhile isL).length ≤ x.length := by have := tw_le isL x.cps.toList; omega
  have e3 : o_sl (.str x) (some (((x.cps.toList.takeWhile isL).length : Nat) : Int)) none = .done (.str (mkS (x.cps.toList.dropWhile isL))) := by
    show (if x.length ≤ 100000 then _ else _) = _
    rw [if_pos (by omega), cut_S hn]
    congr 3
    have e : x.cps.toList.takeWhile isL ++ x.cps.toList.dropWhile isL = x.cps.toList := List.takeWhile_append_dropWhile
    generalize x.cps.toList.takeWhile isL = A at *
    generalize x.cps.toList.dropWhile isL = B at *
    rw [← e, List.drop_left]
  have lT : (x.cps.toList.dropWhile isL).length ≤ 1000 := by
    have e : x.cps.toList.takeWhile isL ++ x.cps.toList.dropWhile isL = x.cps.toList := List.takeWhile_append_dropWhile
    have := congrArg List.length e
    rw [List.length_append] at this; omega
  have okT : shp (.str (mkS (x.cps.toList.dropWhile isL))) = true := shp_str (ok_mk fun c hc => ok_codes hs c (List.dropWhile_sublist isL |>.subset hc))
  have e5 : o_len [.dat (.str (mkS (x.cps.toList.dropWhile isL)))] = .done (.int (((x.cps.toList.dropWhile isL).length : Nat) : Int)) := by rw [len_s (by rw [len_S]; omega), len_S]
  have e6 : oEq id (.str (mkS (x.cps.toList.dropWhile isL))) (.str "0") = .done (.bool (x.cps.toList.dropWhile isL == [48])) := by
    rw [oEq_str okT shp_0, mk_0, beq_S]; rfl
  have e7 : oEq id (.str (mkS (x.cps.toList.dropWhile isL))) (.str "") = .done (.bool (x.cps.toList.dropWhile isL == [])) := by
    rw [oEq_str okT shp_e, mk_e, beq_S]; rfl
  have e8 : ∀ c, (x.cps.toList.dropWhile isL).head? = some c → o_ix (.str (mkS (x.cps.toList.dropWhile isL))) (.int 0) = .done (.str (mkS [c])) ∧ oEq not (.str (mkS [c])) (.str "0") = .done (.bool !(some c == some 48)) := fun c hc => by
    refine ⟨ix_S (n := 0) (by rw [len_S]; omega) (by rw [← List.head?_eq_getElem?]; simpa using hc), ?_⟩
    rw [oEq_str (shp_str (ok_mk fun y hy => by
      rw [List.mem_singleton] at hy; subst hy
      exact ok_codes hs _ (List.dropWhile_sublist isL |>.subset (List.mem_of_mem_head? hc)))) shp_0, mk_0, beq_S]
    simp
  have e4 : compL (tgName 3) (yB (xOp (o_in not) (xVar 3) (xC (PyData.str DIG)))) (xVar 3) [3] (chD (mkS (x.cps.toList.dropWhile isL))) [.dat (.str x), dI (((x.cps.toList.takeWhile isL).length : Nat) : Int), .dat (.str (mkS (x.cps.toList.dropWhile isL))), .no] = .done (((x.cps.toList.dropWhile isL).filter fun c => !isDg c).map fun c => PyData.str ⟨#[c]⟩) := by
    rw [chD_map]
    refine compL_fm _ _ (fun c => !isDg c) _ (by omega) (fun c hc => ⟨_, rfl, ?_, fun _ => rfl⟩)
    have := isDg_in not c
    exact e_B (e_op (e_var rfl) rfl this)
  have e9 : (((x.cps.toList.dropWhile isL).filter fun c => !isDg c).map fun c => PyData.str ⟨#[c]⟩).isEmpty = (x.cps.toList.dropWhile isL).all isDg := by
    generalize x.cps.toList.dropWhile isL = t
    induction t with
    | nil => rfl
    | cons c t ih =>
      cases q : isDg c <;> simp_all
  unfold nm
  generalize (((x.cps.toList.dropWhile isL).filter fun c => !isDg c).map fun c => PyData.str ⟨#[c]⟩) = L at *
  generalize mkS (x.cps.toList.dropWhile isL) = T at *
  generalize (x.cps.toList.dropWhile isL) = t at *
  generalize (x.cps.toList.takeWhile isL).length = n at *
  have c0 : (whileM t_law_is_name_1 l_law_is_name_1 100000 [.dat (.str x), dI 0, .no, .no]) = _ := lw
  by_cases c1 : (1 : Int) ≤ n
  · by_cases c2 : (n : Int) ≤ 6
    · have d1 : decide (1 ≤ n ∧ n ≤ 6) = true := decide_eq_true (by omega)
      by_cases c3 : (3 : Int) < t.length
      · have d3 : decide (t.length ≤ 3) = false := decide_eq_false (by omega)
        simp [f_law_is_name, runF, b_law_is_name, tmIte, List.replicate, isStrD, c0, e3, c1, c2, e5, c3, d1, d3]
      · have d3 : decide (t.length ≤ 3) = true := decide_eq_true (by omega)
        cases ca : t.all isDg
        · rw [ca] at e9
          simp [f_law_is_name, runF, b_law_is_name, tmIte, List.replicate, isStrD, c0, e3, c1, c2, e5, c3, d1, d3, itS, e4, e9]
        · rw [ca] at e9
          cases q1 : (t == [])
          · rw [q1] at e7
            cases q2 : (t == [48])
            · rw [q2] at e6
              cases t with
              | nil => cases q1
              | cons c t =>
                obtain ⟨e10, e11⟩ := e8 c rfl
                have c3' : ¬ (3 : Int) < (t.length : Int) + 1 := by rw [List.length_cons] at c3; omega
                have d3' : t.length ≤ 2 := by rw [List.length_cons] at c3; omega
                simp [f_law_is_name, runF, b_law_is_name, tmIte, List.replicate, isStrD, c0, e3, c1, c2, e5, c3', d1, d3', itS, e4, e9, e7, e6, e10, e11, q2]
            · rw [q2] at e6
              simp [f_law_is_name, runF, b_law_is_name, tmIte, List.replicate, isStrD, c0, e3, c1, c2, e5, c3, d1, d3, itS, e4, e9, e7, e6]
          · rw [q1] at e7
            simp [f_law_is_name, runF, b_law_is_name, tmIte, List.replicate, isStrD, c0, e3, c1, c2, e5, c3, d1, d3, itS, e4, e9, e7]
    · have d1 : decide (1 ≤ n ∧ n ≤ 6) = false := decide_eq_false (by omega)
      simp [f_law_is_name, runF, b_law_is_name, tmIte, List.replicate, isStrD, c0, e3, c1, c2, d1]
  · have d1 : decide (1 ≤ n ∧ n ≤ 6) = false := decide_eq_false (by omega)
    simp [f_law_is_name, runF, b_law_is_name, tmIte, List.replicate, isStrD, c0, e3, c1, d1]
end Hr
namespace Hr
open PySem PySem.Spec PyProof.Rows L2 Evl
/-! ### what a line is -/
mutual
/-- no great text, no great number, no long list -/
def gd : PyData → Bool
  | .none | .bool _ | .dict _ => true
  | .int i => decide (sz i ≤ 900)
  | .str x => decide (x.length ≤ 1000) && PyData.strOk x
  | .list xs | .tuple xs => decide (xs.length ≤ 1000) && gdA xs
def gdA : List PyData → Bool
  | [] => true
  | x :: xs => gd x && gdA xs
end
theorem gdA_all : ∀ {xs : List PyData}, gdA xs = true → ∀ x ∈ xs, gd x = true
  | x :: xs, h, y, hy => by
    have h' : (gd x && gdA xs) = true := h
    rw [Bool.and_eq_true] at h'
    rcases List.mem_cons.mp hy with rfl | hy
    · exact h'.1
    · exact gdA_all h'.2 y hy
theorem all_gdA : ∀ {xs : List PyData}, (∀ x ∈ xs, gd x = true) → gdA xs = true
  | [], _ => rfl
  | x :: xs, h => by
    show (gd x && gdA xs) = true
    rw [h x (List.mem_cons_self ..), all_gdA fun y hy => h y (List.mem_cons_of_mem _ hy)]; rfl
theorem gd_str {x : Str} (h : gd (.str x) = true) : x.length ≤ 1000 ∧ PyData.strOk x = true := by
  have h' : (decide (x.length ≤ 1000) && PyData.strOk x) = true := h
  rw [Bool.and_eq_true] at h'
  exact ⟨of_decide_eq_true h'.1, h'.2⟩
theorem gd_int {i : Int} (h : gd (.int i) = true) : sz i ≤ 900 := of_decide_eq_true h
theorem gd_tup {xs : List PyData} (h : gd (.tuple xs) = true) : xs.length ≤ 1000 ∧ ∀ x ∈ xs, gd x = true := by
  have h' : (decide (xs.length ≤ 1000) && gdA xs) = true := h
  rw [Bool.and_eq_true] at h'
  exact ⟨of_decide_eq_true h'.1, gdA_all h'.2⟩
theorem gd_list {xs : List PyData} (h : gd (.list xs) = true) : xs.length ≤ 1000 ∧ ∀ x ∈ xs, gd x = true := by
  have h' : (decide (xs.length ≤ 1000) && gdA xs) = true := h
  rw [Bool.and_eq_true] at h'
  exact ⟨of_decide_eq_true h'.1, gdA_all h'.2⟩
theorem gd_tup' {xs : List PyData} (hl : xs.length ≤ 1000) (h : ∀ x ∈ xs, gd x = true) : gd (.tuple xs) = true := by
  show (decide (xs.length ≤ 1000) && gdA xs) = true
  rw [decide_eq_true hl, all_gdA h]; rfl
theorem gd_list' {xs : List PyData} (hl : xs.length ≤ 1000) (h : ∀ x ∈ xs, gd x = true) : gd (.list xs) = true := by
  show (decide (xs.length ≤ 1000) && gdA xs) = true
  rw [decide_eq_true hl, all_gdA h]; rfl
theorem is_name_val {d : PyData} (h : gd d = true) : f_is_name [.dat d] = .done (.bool (nameB d)) := by
  cases q : isStrD d with
  | false => rw [is_name_no q, nameB_no q]
  | true =>
    cases d with
    | str x => exact is_name_str (gd_str h).1 (gd_str h).2
    | _ => cases q
theorem law_is_name_val {d : PyData} (h : gd d = true) : f_law_is_name [.dat d] = .done (.bool (nameB d)) := by
  cases q : isStrD d with
  | false => rw [law_is_name_no q, nameB_no q]
  | true =>
    cases d with
    | str x => exact law_is_name_str (gd_str h).1 (gd_str h).2
    | _ => cases q
def okB : Kd → Int → Bool
  | .H, _ => true
  | .B, i => decide (0 ≤ i)
def numB (k : Kd) : PyData → Bool
  | .int i => okB k i
  | _ => false
def whoB : PyData → Bool
  | .int _ => true
  | _ => false
theorem is_whole_D (d : PyData) : f_is_whole [.dat d] = .done (.bool (whoB d)) := by
  cases d <;> simp [f_is_whole, runF, b_is_whole, isIntD, isBoolD, whoB]
theorem law_is_whole_val (d : PyData) : f_law_is_whole [.dat d] = .done (.bool (whoB d)) := by
  cases d <;> simp [f_law_is_whole, runF, b_law_is_whole, isIntD, isBoolD, whoB]
theorem is_number_D (k : Kd) (d : PyData) : f_is_number [dK k, .dat d] = .done (.bool (numB k d)) := by
  cases d <;> cases k <;> simp [f_is_number, runF, b_is_number, is_whole_D, whoB, numB, okB]
theorem law_is_number_val (k : Kd) (d : PyData) : f_law_is_number [dK k, .dat d] = .done (.bool (numB k d)) := by
  cases d <;> cases k <;> simp [f_law_is_number, runF, b_law_is_number, law_is_whole_val, whoB, numB, okB]
def cntB : PyData → Bool
  | .int i => decide (0 ≤ i)
  | _ => false
theorem is_count_D (d : PyData) : f_is_count [.dat d] = .done (.bool (cntB d)) := by
  cases d <;> simp [f_is_count, runF, b_is_count, is_whole_D, whoB, cntB]
def inB' : Kd → Int → Int → Bool
  | .H, a, b => decide (0 ≤ a) && decide (a < b)
  | .B, a, b => decide (sz a < sz b)
def tellB (k : Kd) : PyData → PyData → Bool
  | .int a, .int b => decide (0 ≤ b) && (okB k a && (b == 0 || inB' k a b))
  | _, _ => false
theorem may_tell_D (k : Kd) (c e : PyData) : f_may_tell [dK k, .dat c, .dat e] = .done (.bool (tellB k c e)) := by
  cases q : cntB e with
  | false =>
    have : tellB k c e = false := by cases c <;> cases e <;> first | rfl | (simp [cntB] at q; simp [tellB]; intros; omega)
    rw [this]
    simp [f_may_tell, runF, b_may_tell, tmIte, is_count_D, q]
  | true =>
    cases e with
    | int b =>
      have hb : 0 ≤ b := of_decide_eq_true q
      cases q2 : numB k c with
      | false =>
        have : tellB k c (.int b) = false := by cases c <;> first | rfl | (simp [numB] at q2; simp [tellB, q2])
        rw [this]
        simp [f_may_tell, runF, b_may_tell, tmIte, is_count_D, q, is_number_D, q2]
      | true =>
        cases c with
        | int a =>
          have ho : okB k a = true := q2
          have : tellB k (.int a) (.int b) = (b == 0 || inB' k a b) := by simp [tellB, ho, hb]
          rw [this]
          by_cases z : b = 0
          · subst z; simp [f_may_tell, runF, b_may_tell, tmIte, is_count_D, q, is_number_D, q2]
          · cases k
            · by_cases a0 : 0 ≤ a <;> simp [f_may_tell, runF, b_may_tell, tmIte, is_count_D, q, is_number_D, q2, z, inB', a0]
            · simp [f_may_tell, runF, b_may_tell, tmIte, is_count_D, q, is_number_D, q2, z, inB']
        | _ => cases q2
    | _ => cases q
def lineB (k : Kd) : PyData → Bool
  | .tuple [a, b, c, e] => nameB a && (nameB b && (!PyData.eqv a b && tellB k c e))
  | _ => false
theorem name_shp {a : PyData} (h : gd a = true) (q : nameB a = true) : shp a = true := by
  cases a with
  | str x => exact shp_str (gd_str h).2
  | _ => cases q
theorem four {xs : List PyData} (h : xs.length = 4) : ∃ a b c e, xs = [a, b, c, e] := by
  match xs, h with
  | [a, b, c, e], _ => exact ⟨a, b, c, e, rfl⟩
theorem lineB_no {k : Kd} {xs : List PyData} (h : xs.length ≠ 4) : lineB k (.tuple xs) = false := by
  unfold lineB
  split
  · rename_i he
    cases he; exact absurd rfl h
  · rfl
theorem lineB_not {k : Kd} {d : PyData} (h : isTupD d = false) : lineB k d = false := by cases d <;> first | rfl | cases h
@[simp] theorem untup_4 (m : List PyData → Env → Tr Env) (a b c d : PyData) (e : Env) : untup 4 m (.tuple [a, b, c, d]) e = m [a, b, c, d] e := rfl
theorem line_fits_val (k : Kd) {d : PyData} (h : gd d = true) : f_line_fits [dK k, .dat d] = .done (.bool (lineB k d)) := by
  cases q : isTupD d with
  | false => rw [lineB_not q]; simp [f_line_fits, runF, b_line_fits, tmIte, List.replicate, q]
  | true =>
    cases d with
    | tuple xs =>
      by_cases hl : xs.length = 4
      · obtain ⟨a, b, c, e, rfl⟩ := four hl
        have hg := (gd_tup h).2
        have ha := hg a (by simp); have hb := hg b (by simp)
        have e1 := is_name_val ha; have e2 := is_name_val hb
        cases q1 : nameB a
        · rw [q1] at e1
          simp [f_line_fits, runF, b_line_fits, tmIte, List.replicate, isTupD, e1, lineB, q1]
        · rw [q1] at e1
          cases q2 : nameB b
          · rw [q2] at e2
            simp [f_line_fits, runF, b_line_fits, tmIte, List.replicate, isTupD, e1, e2, lineB, q1, q2]
          · rw [q2] at e2
            have e3 := oEq_ok (f := not) (name_shp ha q1) (name_shp hb q2)
            cases q3 : PyData.eqv a b
            · rw [q3] at e3
              simp [f_line_fits, runF, b_line_fits, tmIte, List.replicate, isTupD, e1, e2, e3, lineB, q1, q2, q3, may_tell_D]
            · rw [q3] at e3
              simp [f_line_fits, runF, b_line_fits, tmIte, List.replicate, isTupD, e1, e2, e3, lineB, q1, q2, q3]
      · have : ¬ ((xs.length : Int) = 4) := by omega
        rw [lineB_no hl]
        simp [f_line_fits, runF, b_line_fits, tmIte, List.replicate, isTupD, this]
    | _ => cases q
theorem law_two_val {n : Nat} (h : n ≤ 1000) : f_law_two [dI (n : Int)] = .done (.int ((2 ^ n : Nat) : Int)) := by
  have := shl_one (j := (n : Int)) (by omega) (by omega)
  rw [show ((n : Int)).toNat = n from rfl] at this
  simp [f_law_two, runF, b_law_two, this]
theorem bits_loop {n : Nat} (hn : Gf.bl n ≤ 900) : ∀ (f j : Nat), j ≤ Gf.bl n → Gf.bl n - j < f → whileM t_law_bits_1 l_law_bits_1 f [dI (n : Int), dI (j : Int)] = .done (.nx [dI (n : Int), dI ((Gf.bl n : Nat) : Int)])
  | 0, j, _, h => by omega
  | f + 1, j, hj, h => by
    have e := law_two_val (n := j) (by omega)
    by_cases q : j = Gf.bl n
    · have : ¬ 2 ^ j ≤ n := by have := Gf.bl_le.mp (Nat.le_of_eq q.symm); omega
      have c : ¬ (((2 ^ j : Nat) : Int) ≤ (n : Int)) := by omega
      generalize ((2 ^ j : Nat) : Int) = P at *
      rw [while_end (by simp [t_law_bits_1, e, c]), q]
    · have : 2 ^ j ≤ n := by
        rcases Nat.lt_or_ge n (2 ^ j) with z | z
        · have := Gf.bl_le.mpr z; omega
        · exact z
      have c : (((2 ^ j : Nat) : Int) ≤ (n : Int)) := by omega
      generalize ((2 ^ j : Nat) : Int) = P at *
      rw [while_go (e' := [dI (n : Int), dI ((j + 1 : Nat) : Int)]) (by simp [t_law_bits_1, e, c]) (by simp [l_law_bits_1])]
      exact bits_loop hn f (j + 1) (by omega) (by omega)
theorem law_bits_nat {n : Nat} (hn : Gf.bl n ≤ 900) : f_law_bits [dI (n : Int)] = .done (.int ((Gf.bl n : Nat) : Int)) := by
  have e := bits_loop hn 100000 0 (Nat.zero_le _) (by omega)
  have e' : whileM t_law_bits_1 l_law_bits_1 100000 [dI (n : Int), dI 0] = _ := e
  simp [f_law_bits, runF, b_law_bits, List.replicate, e']
theorem law_bits_val {i : Int} (h0 : 0 ≤ i) (hn : sz i ≤ 900) : f_law_bits [dI i] = .done (.int ((sz i : Nat) : Int)) := by
  obtain ⟨n, rfl⟩ := Int.eq_ofNat_of_zero_le h0
  rw [sz_nat] at hn ⊢
  exact law_bits_nat hn

theorem law_is_line_val (k : Kd) {d : PyData} (h : gd d = true) : f_law_is_line [dK k, .dat d] = .done (.bool (lineB k d)) := by
  cases q : isTupD d with
  | false => rw [lineB_not q]; simp [f_law_is_line, runF, b_law_is_line, tmIte, List.replicate, q]
  | true =>
    cases d with
    | tuple xs =>
      by_cases hl : xs.length = 4
      · obtain ⟨a, b, c, e, rfl⟩ := four hl
        have hg := (gd_tup h).2
        have ha := hg a (by simp); have hb := hg b (by simp)
        have e1 := law_is_name_val ha; have e2 := law_is_name_val hb
        have hz : ∀ i, (c = .int i ∨ e = .int i) → sz i ≤ 900 := fun i hi => by
          rcases hi with rfl | rfl
          · exact gd_int (hg _ (by simp))
          · exact gd_int (hg _ (by simp))
        cases q1 : nameB a
        · rw [q1] at e1
          simp [f_law_is_line, runF, b_law_is_line, tmIte, List.replicate, isTupD, e1, lineB, q1]
        · rw [q1] at e1
          cases q2 : nameB b
          · rw [q2] at e2
            simp [f_law_is_line, runF, b_law_is_line, tmIte, List.replicate, isTupD, e1, e2, lineB, q1, q2]
          · rw [q2] at e2
            have e3 := oEq_ok (f := id) (name_shp ha q1) (name_shp hb q2)
            cases q3 : PyData.eqv a b
            · rw [q3] at e3
              simp only [id] at e3
              have hL : lineB k (.tuple [a, b, c, e]) = tellB k c e := by simp [lineB, q1, q2, q3]
              rw [hL]
              cases q4 : numB k c
              · have : tellB k c e = false := by cases c <;> cases e <;> first | rfl | (simp [numB] at q4; simp [tellB, q4])
                rw [this]
                simp [f_law_is_line, runF, b_law_is_line, tmIte, List.replicate, isTupD, e1, e2, e3, law_is_number_val, q4]
              · cases c with
                | int i =>
                  have ho : okB k i = true := q4
                  cases e with
                  | int j =>
                    by_cases j0 : j < 0
                    · have : tellB k (.int i) (.int j) = false := by simp [tellB]; intros; omega
                      rw [this]
                      simp [f_law_is_line, runF, b_law_is_line, tmIte, List.replicate, isTupD, e1, e2, e3, law_is_number_val, q4, law_is_whole_val, whoB, j0]
                    · have hj : 0 ≤ j := by omega
                      have hT : tellB k (.int i) (.int j) = (j == 0 || inB' k i j) := by simp [tellB, ho, hj]
                      rw [hT]
                      by_cases z : j = 0
                      · subst z
                        simp [f_law_is_line, runF, b_law_is_line, tmIte, List.replicate, isTupD, e1, e2, e3, law_is_number_val, q4, law_is_whole_val, whoB]
                      · cases k
                        · by_cases i0 : 0 ≤ i <;> simp [f_law_is_line, runF, b_law_is_line, tmIte, List.replicate, isTupD, e1, e2, e3, law_is_number_val, q4, law_is_whole_val, whoB, j0, z, inB', i0]
                        · have i0 : 0 ≤ i := of_decide_eq_true ho
                          have b1 := law_bits_val i0 (hz i (.inl rfl))
                          have b2 := law_bits_val hj (hz j (.inr rfl))
                          simp [f_law_is_line, runF, b_law_is_line, tmIte, List.replicate, isTupD, e1, e2, e3, law_is_number_val, q4, law_is_whole_val, whoB, j0, z, inB', b1, b2]
                  | _ => simp [f_law_is_line, runF, b_law_is_line, tmIte, List.replicate, isTupD, e1, e2, e3, law_is_number_val, q4, law_is_whole_val, whoB, tellB]
                | _ => cases q4
            · rw [q3] at e3
              simp only [id] at e3
              simp [f_law_is_line, runF, b_law_is_line, tmIte, List.replicate, isTupD, e1, e2, e3, lineB, q1, q2, q3]
      · have : ¬ ((xs.length : Int) = 4) := by omega
        rw [lineB_no hl]
        simp [f_law_is_line, runF, b_law_is_line, tmIte, List.replicate, isTupD, this]
    | _ => cases q
end Hr
namespace Hr
open PySem PySem.Spec PyProof.Rows L2 Evl
/-! ### lines, books, numbers: what they are -/
/-- a comprehension over data, each item by what it is -/
theorem comp_ds {mg : Gs_} {mt : Ts_} {me : Ex_} {e : Env} {vs : List Nat} (h : PyData → PyData) (q : PyData → Bool) {ds : List PyData} (hl : ds.length ≤ 100000) (hx : ∀ x ∈ ds, ∃ e', mg x (noM vs e) = .done e' ∧ mt e' = .done (q x) ∧ (q x = true → me e' = .done (h x))) :
    compL mg mt me vs ds e = .done ((ds.filter q).map h) := by
  have := compL_fm (mg := mg) (mt := mt) (me := me) (e := e) (vs := vs) (fun x : PyData => x) h q ds hl hx
  rw [List.map_id'] at this
  exact this
theorem comp_all' {mg : Gs_} {me : Ex_} {e : Env} {vs : List Nat} (q : PyData → Bool) {ds : List PyData} (hl : ds.length ≤ 100000) (hx : ∀ x ∈ ds, ∃ e', mg x (noM vs e) = .done e' ∧ me e' = .done (.bool (q x))) :
    compL mg yYes me vs ds e = .done (bD (ds.map q)) := by
  rw [comp_ds (fun x => .bool (q x)) (fun _ => true) hl (fun x hx' => by
    obtain ⟨e', h1, h2⟩ := hx x hx'
    exact ⟨e', h1, rfl, fun _ => h2⟩), List.filter_eq_self.mpr (fun _ _ => rfl)]
  unfold bD; rw [List.map_map]; rfl
theorem empty_filter {α : Type} (q : α → Bool) (h : α → PyData) : ∀ xs : List α, ((xs.filter fun x => !q x).map h).isEmpty = xs.all q
  | [] => rfl
  | x :: xs => by
    have ih := empty_filter q h xs
    cases c : q x
    · rw [List.filter_cons_of_pos (by rw [c]; rfl), List.all_cons, c]; rfl
    · rw [List.filter_cons_of_neg (by rw [c]; exact nofun), List.all_cons, c, ih]; rfl
theorem all_id {α : Type} (q : α → Bool) (xs : List α) : ((xs.map q).all id) = xs.all q := by rw [List.all_map]; rfl
def linesB (k : Kd) : PyData → Bool
  | .list xs => xs.all (lineB k)
  | _ => false
theorem linesB_not {k : Kd} {d : PyData} (h : isListD d = false) : linesB k d = false := by cases d <;> first | rfl | cases h
theorem lines_fit_val (k : Kd) {d : PyData} (h : gd d = true) : f_lines_fit [dK k, .dat d] = .done (.bool (linesB k d)) := by
  cases q : isListD d with
  | false => rw [linesB_not q]; simp [f_lines_fit, runF, b_lines_fit, List.replicate, q]
  | true =>
    cases d with
    | list xs =>
      obtain ⟨hl, hg⟩ := gd_list h
      have e : compL (tgName 2) yYes (xFn f_line_fits 2 (aCons (xVar 0) (aCons (xVar 2) aNil))) [2] xs [dK k, .dat (.list xs), .no] = .done (bD (xs.map (lineB k))) :=
        comp_all' _ (by omega) fun x hx => ⟨_, rfl, by simp [noM, line_fits_val k (hg x hx)]⟩
      have e2 := all_b (xs.map (lineB k))
      rw [all_id] at e2
      simp [f_lines_fit, runF, b_lines_fit, List.replicate, isListD, itL]
      rw [e]
      simp [e2]
      rfl
    | _ => cases q
theorem law_are_lines_val (k : Kd) {d : PyData} (h : gd d = true) : f_law_are_lines [dK k, .dat d] = .done (.bool (linesB k d)) := by
  cases q : isListD d with
  | false => rw [linesB_not q]; simp [f_law_are_lines, runF, b_law_are_lines, List.replicate, q]
  | true =>
    cases d with
    | list xs =>
      obtain ⟨hl, hg⟩ := gd_list h
      have e : compL (tgName 2) (yNot (yTru (xFn f_law_is_line 2 (aCons (xVar 0) (aCons (xVar 2) aNil))))) (xVar 2) [2] xs [dK k, .dat (.list xs), .no] = .done ((xs.filter fun x => !lineB k x).map fun x => x) :=
        comp_ds _ _ (by omega) fun x hx => ⟨_, rfl, by simp [noM, law_is_line_val k (hg x hx)], fun _ => rfl⟩
      have e2 := empty_filter (lineB k) (fun x => x) xs
      simp only [f_law_are_lines, runF, b_law_are_lines, List.replicate, List.cons_append, List.nil_append]
      generalize ((xs.filter fun x => !lineB k x).map fun x => x) = L at *
      simp [isListD, itL]
      rw [e]
      simp [linesB, e2]
    | _ => cases q
/-- the kind that a text names -/
def kdOf (x : Str) : Option Kd := if x = "hours" then some .H else if x = "bits" then some .B else none
theorem kdOf_ks {x : Str} {k : Kd} (h : kdOf x = some k) : x = ks k := by
  unfold kdOf at h
  split at h
  · rename_i e; cases h; exact e
  · split at h
    · rename_i e; cases h; exact e
    · cases h
@[simp] theorem kdOf_of (k : Kd) : kdOf (ks k) = some k := by
  cases k
  · exact if_pos rfl
  · unfold kdOf
    rw [if_neg (by decide +kernel)]; exact if_pos rfl
theorem in_kinds (x : Str) : o_in id (.str x) (.tuple [.str "hours", .str "bits"]) = .done (.bool (kdOf x).isSome) := by
  show (if flatD (.str x) = true ∧ ([.str "hours", .str "bits"] : List PyData).all flatD = true then Tr.done (PyData.bool (id (inD (.str x) [.str "hours", .str "bits"]))) else .fail) = _
  rw [if_pos ⟨rfl, rfl⟩]
  show Tr.done (PyData.bool ((("hours" : Str) == x) || ((("bits" : Str) == x) || false))) = _
  unfold kdOf
  by_cases h1 : x = "hours"
  · rw [if_pos h1, h1]; simp
  · rw [if_neg h1]
    have : (("hours" : Str) == x) = false := by rw [beq_eq_false_iff_ne]; exact fun e => h1 e.symm
    rw [this]
    by_cases h2 : x = "bits"
    · rw [if_pos h2, h2]; simp
    · rw [if_neg h2]
      have : (("bits" : Str) == x) = false := by rw [beq_eq_false_iff_ne]; exact fun e => h2 e.symm
      rw [this]; rfl
theorem nin_kinds {x : Str} (h : PyData.strOk x = true) : o_in not (.str x) (.list [.str "hours", .str "bits"]) = .done (.bool !(kdOf x).isSome) := by
  show (if shp (.str x) = true ∧ shp (.list [.str "hours", .str "bits"]) = true then Tr.done (PyData.bool (not (([.str "hours", .str "bits"] : List PyData).any fun z => PyData.eqv z (.str x)))) else .fail) = _
  rw [if_pos ⟨shp_str h, by decide +kernel⟩]
  show Tr.done (PyData.bool (!((("hours" : Str) == x) || ((("bits" : Str) == x) || false)))) = _
  unfold kdOf
  by_cases h1 : x = "hours"
  · rw [if_pos h1, h1]; simp
  · rw [if_neg h1]
    have : (("hours" : Str) == x) = false := by rw [beq_eq_false_iff_ne]; exact fun e => h1 e.symm
    rw [this]
    by_cases h2 : x = "bits"
    · rw [if_pos h2, h2]; simp
    · rw [if_neg h2]
      have : (("bits" : Str) == x) = false := by rw [beq_eq_false_iff_ne]; exact fun e => h2 e.symm
      rw [this]; rfl
def kindB : PyData → Bool
  | .str x => (kdOf x).isSome
  | _ => false
theorem is_kind_D (d : PyData) : f_is_kind [.dat d] = .done (.bool (kindB d)) := by
  cases d with
  | str x => simp [f_is_kind, runF, b_is_kind, isStrD, in_kinds, kindB]
  | _ => simp [f_is_kind, runF, b_is_kind, isStrD, kindB]
def bookB : PyData → Bool
  | .tuple [.str x, ls] => match kdOf x with | some k => linesB k ls | none => false
  | _ => false
theorem two {xs : List PyData} (h : xs.length = 2) : ∃ a b, xs = [a, b] := by
  match xs, h with
  | [a, b], _ => exact ⟨a, b, rfl⟩
theorem bookB_no {xs : List PyData} (h : xs.length ≠ 2) : bookB (.tuple xs) = false := by
  unfold bookB
  split
  · rename_i he
    cases he; exact absurd rfl h
  · rfl
theorem bookB_not {d : PyData} (h : isTupD d = false) : bookB d = false := by cases d <;> first | rfl | cases h
theorem is_book_val {d : PyData} (h : gd d = true) : f_is_book [.dat d] = .done (.bool (bookB d)) := by
  cases q : isTupD d with
  | false => rw [bookB_not q]; simp [f_is_book, runF, b_is_book, tmIte, List.replicate, q]
  | true =>
    cases d with
    | tuple xs =>
      by_cases hl : xs.length = 2
      · obtain ⟨a, ls, rfl⟩ := two hl
        have hg := (gd_tup h).2
        have hls := hg ls (by simp)
        cases a with
        | str x =>
          cases q2 : kdOf x with
          | none => simp [f_is_book, runF, b_is_book, tmIte, List.replicate, isTupD, is_kind_D, kindB, bookB, q2]
          | some k =>
            have := kdOf_ks q2
            subst this
            have e := lines_fit_val k hls
            simp [f_is_book, runF, b_is_book, tmIte, List.replicate, isTupD, is_kind_D, kindB, bookB, e]
        | _ => simp [f_is_book, runF, b_is_book, tmIte, List.replicate, isTupD, is_kind_D, kindB, bookB]
      · have : ¬ ((xs.length : Int) = 2) := by omega
        rw [bookB_no hl]
        simp [f_is_book, runF, b_is_book, tmIte, List.replicate, isTupD, this]
    | _ => cases q
theorem law_is_book_val {d : PyData} (h : gd d = true) : f_law_is_book [.dat d] = .done (.bool (bookB d)) := by
  cases q : isTupD d with
  | false => rw [bookB_not q]; simp [f_law_is_book, runF, b_law_is_book, tmIte, List.replicate, q]
  | true =>
    cases d with
    | tuple xs =>
      by_cases hl : xs.length = 2
      · obtain ⟨a, ls, rfl⟩ := two hl
        have hg := (gd_tup h).2
        have hls := hg ls (by simp)
        cases a with
        | str x =>
          have e0 := nin_kinds (gd_str (hg (.str x) (by simp))).2
          cases q2 : kdOf x with
          | none =>
            rw [q2] at e0
            simp [f_law_is_book, runF, b_law_is_book, tmIte, List.replicate, isTupD, isStrD, bookB, q2, e0]
          | some k =>
            rw [q2] at e0
            have := kdOf_ks q2
            subst this
            have e := law_are_lines_val k hls
            simp [f_law_is_book, runF, b_law_is_book, tmIte, List.replicate, isTupD, isStrD, bookB, e, e0]
        | _ => simp [f_law_is_book, runF, b_law_is_book, tmIte, List.replicate, isTupD, isStrD, bookB]
      · have : ¬ ((xs.length : Int) = 2) := by omega
        rw [bookB_no hl]
        simp [f_law_is_book, runF, b_law_is_book, tmIte, List.replicate, isTupD, this]
    | _ => cases q
theorem is_line_val (k : Kd) {d : PyData} (h : gd d = true) : f_is_line [dK k, .dat d] = .done (.bool (lineB k d)) := by
  simp [f_is_line, runF, b_is_line, List.replicate, line_fits_val k h]
theorem are_lines_val (k : Kd) {d : PyData} (h : gd d = true) : f_are_lines [dK k, .dat d] = .done (.bool (linesB k d)) := by
  simp [f_are_lines, runF, b_are_lines, List.replicate, lines_fit_val k h]
theorem check_book_val {d : PyData} (h : gd d = true) (hb : bookB d = true) : f_check_book [.dat d] = .done .none := by
  have e := is_book_val h
  rw [hb] at e
  simp [f_check_book, runF, b_check_book, tmIte, List.replicate, e]

/-! names in order, numbers told -/
def pairB (k : Kd) : PyData → Bool
  | .tuple [n, v] => nameB n && numB k v
  | _ => false
theorem pairB_not {k : Kd} {d : PyData} (h : isTupD d = false) : pairB k d = false := by cases d <;> first | rfl | cases h
theorem pairB_no {k : Kd} {xs : List PyData} (h : xs.length ≠ 2) : pairB k (.tuple xs) = false := by
  unfold pairB
  split
  · rename_i he
    cases he; exact absurd rfl h
  · rfl
theorem number_told_val (k : Kd) {d : PyData} (h : gd d = true) : f_number_told [dK k, .dat d] = .done (.bool (pairB k d)) := by
  cases q : isTupD d with
  | false => rw [pairB_not q]; simp [f_number_told, runF, b_number_told, tmIte, List.replicate, q]
  | true =>
    cases d with
    | tuple xs =>
      by_cases hl : xs.length = 2
      · obtain ⟨a, b, rfl⟩ := two hl
        have e := is_name_val ((gd_tup h).2 a (by simp))
        have e2 := is_number_D k b
        cases q2 : nameB a
        · rw [q2] at e
          simp [f_number_told, runF, b_number_told, tmIte, List.replicate, isTupD, e, pairB, q2]
        · rw [q2] at e
          simp [f_number_told, runF, b_number_told, tmIte, List.replicate, isTupD, e, pairB, q2, e2]
      · have : ¬ ((xs.length : Int) = 2) := by omega
        rw [pairB_no hl]
        simp [f_number_told, runF, b_number_told, tmIte, List.replicate, isTupD, this]
    | _ => cases q
/-- the name of a pair -/
def nmOf : PyData → Str
  | .tuple (.str x :: _) => x
  | _ => ""
theorem pairB_str {k : Kd} {d : PyData} (h : pairB k d = true) : ∃ x v, d = .tuple [.str x, v] ∧ nm x.cps.toList = true ∧ numB k v = true := by
  unfold pairB at h
  split at h
  · rename_i n v
    rw [Bool.and_eq_true] at h
    cases n with
    | str x => exact ⟨x, v, rfl, h.1, h.2⟩
    | _ => exact absurd h.1 (by simp [nameB])
  · cases h
abbrev dN (ns : List Str) : PyData := .list (ns.map .str)
/-- one name after the other -/
def ascB : List Str → Bool
  | [] => true
  | [_] => true
  | x :: y :: r => decide (x.cps.toList < y.cps.toList) && ascB (y :: r)
@[simp] theorem lt_ss (x y : Str) : o_lt (.str x) (.str y) = .done (.bool (decide (x.cps.toList < y.cps.toList))) := rfl
theorem asc_all : ∀ ns : List Str, ((List.range (ns.length - 1)).map fun i => decide ((ns.getD i "").cps.toList < (ns.getD (i + 1) "").cps.toList)).all id = ascB ns
  | [] => rfl
  | [_] => rfl
  | x :: y :: r => by
    have ih := asc_all (y :: r)
    rw [show (x :: y :: r).length - 1 = ((y :: r).length - 1) + 1 by simp, List.range_succ_eq_map, List.map_cons, List.map_map, List.all_cons]
    show (decide (x.cps.toList < y.cps.toList) && _) = (decide (x.cps.toList < y.cps.toList) && ascB (y :: r))
    rw [← ih]
    rfl
theorem is_ascending_val {ns : List Str} (hl : ns.length ≤ 1000) : f_is_ascending [.dat (dN ns)] = .done (.bool (ascB ns)) := by
  have hs : spanD 1 (ns.length - 1) = (List.range (ns.length - 1)).map fun (i : Nat) => PyData.int (1 + (i : Int)) := rfl
  have e : compL (tgName 1) yYes (xOp o_lt (xOp o_ix (xVar 0) (xOp o_sub (xVar 1) (xC (PyData.int 1)))) (xOp o_ix (xVar 0) (xVar 1))) [1] (spanD 1 (ns.length - 1)) [.dat (dN ns), .no] = .done (bD ((List.range (ns.length - 1)).map fun i => decide ((ns.getD i "").cps.toList < (ns.getD (i + 1) "").cps.toList))) := by
    rw [hs, compL_fm (fun (i : Nat) => PyData.int (1 + (i : Int))) (fun i => .bool (decide ((ns.getD i "").cps.toList < (ns.getD (i + 1) "").cps.toList))) (fun _ => true) _ (by rw [List.length_range]; omega) (fun i hi => ⟨[.dat (dN ns), dI (1 + (i : Int))], rfl, rfl, fun _ => ?_⟩)]
    · rw [List.filter_eq_self.mpr (fun _ _ => rfl)]; unfold bD; rw [List.map_map]; rfl
    · have hi : i < ns.length - 1 := List.mem_range.mp hi
      have a1 : (ns.map PyData.str)[i]? = some (.str (ns.getD i "")) := by rw [List.getElem?_map, List.getD_eq_getElem?_getD, List.getElem?_eq_getElem (by omega)]; rfl
      have a2 : (ns.map PyData.str)[i + 1]? = some (.str (ns.getD (i + 1) "")) := by rw [List.getElem?_map, List.getD_eq_getElem?_getD, List.getElem?_eq_getElem (by omega)]; rfl
      have b1 := ix_l a1
      have b2 := ix_l a2
      have c1 : (1 + (i : Int)) - 1 = (i : Int) := by omega
      have c2 : (1 + (i : Int)) = ((i + 1 : Nat) : Int) := by omega
      refine e_op (x := .str (ns.getD i "")) (y := .str (ns.getD (i + 1) "")) (e_op (x := dN ns) (y := .int (i : Int)) rfl ?_ b1) (e_op (x := dN ns) (y := .int ((i + 1 : Nat) : Int)) rfl ?_ b2) rfl
      · show Tr.done (PyData.int (1 + (i : Int) - 1)) = _
        rw [c1]
      · show Tr.done (PyData.int (1 + (i : Int))) = _
        rw [c2]
  have e2 := all_b ((List.range (ns.length - 1)).map fun i => decide ((ns.getD i "").cps.toList < (ns.getD (i + 1) "").cps.toList))
  rw [asc_all] at e2
  have e3 : rng2 [dI 1, dI (ns.length : Int)] = .done (spanD 1 (ns.length - 1)) := by
    unfold rng2
    dsimp only
    rw [if_pos ⟨(inB 1).mpr (by omega), (inB _).mpr (by omega)⟩]
    congr 2
    omega
  generalize ((List.range (ns.length - 1)).map fun i => decide ((ns.getD i "").cps.toList < (ns.getD (i + 1) "").cps.toList)) = bs at *
  simp [f_is_ascending, runF, b_is_ascending, List.replicate, e3]
  rw [e]
  simp [e2]

theorem names_map {k : Kd} : ∀ {xs : List PyData}, xs.all (pairB k) = true → ∀ x ∈ xs, o_ix x (.int 0) = .done (.str (nmOf x)) := fun {xs} h x hx => by
  obtain ⟨y, v, rfl, _⟩ := pairB_str (List.all_eq_true.mp h x hx)
  exact ix_t0 _ _
theorem firsts_comp {k : Kd} {xs : List PyData} {i : Nat} {e : Env} (hl : xs.length ≤ 1000) (h : xs.all (pairB k) = true) (hi : i < e.length) :
    compL (tgName i) yYes (xOp o_ix (xVar i) (xC (PyData.int 0))) [i] xs e = .done ((xs.map nmOf).map .str) := by
  rw [comp_ds (mg := tgName i) (mt := yYes) (me := xOp o_ix (xVar i) (xC (PyData.int 0))) (fun x => .str (nmOf x)) (fun _ => true) (by omega) (fun x hx => ⟨_, rfl, rfl, fun _ => ?_⟩), List.filter_eq_self.mpr (fun _ _ => rfl), List.map_map]
  · rfl
  · refine e_op (x := x) (y := .int 0) (e_var ?_) rfl (names_map h x hx)
    have hl2 : (noM [i] e).length = e.length := by simp [noM]
    unfold rd
    rw [List.getElem?_set_self (by rw [hl2]; exact hi)]
def numsB (k : Kd) (ns : List Str) : PyData → Bool
  | .list xs => xs.all (pairB k) && decide (xs.map nmOf = ns)
  | _ => false
theorem numsB_not {k : Kd} {ns : List Str} {d : PyData} (h : isListD d = false) : numsB k ns d = false := by cases d <;> first | rfl | cases h
theorem numbers_fit_val (k : Kd) {d : PyData} (h : gd d = true) : f_numbers_fit [dK k, .dat d] = .done (.bool (match d with | .list xs => xs.all (pairB k) && ascB (xs.map nmOf) | _ => false)) := by
  cases d with
  | list xs =>
    obtain ⟨hl, hg⟩ := gd_list h
    have e : compL (tgName 2) yYes (xFn f_number_told 2 (aCons (xVar 0) (aCons (xVar 2) aNil))) [2] xs [dK k, .dat (.list xs), .no] = .done (bD (xs.map (pairB k))) :=
      comp_all' _ (by omega) fun x hx => ⟨_, rfl, by simp [noM, number_told_val k (hg x hx)]⟩
    have e2 := all_b (xs.map (pairB k))
    rw [all_id] at e2
    simp only [f_numbers_fit, runF, b_numbers_fit, List.replicate, List.cons_append, List.nil_append]
    cases q : xs.all (pairB k)
    · rw [q] at e2
      simp [isListD, itL, tmIte]
      rw [e]
      simp [e2]
    · have e3 := firsts_comp (e := [dK k, .dat (.list xs), .no]) (i := 2) hl q (by show 2 < 3; decide)
      have e4 := is_ascending_val (ns := xs.map nmOf) (by rw [List.length_map]; exact hl)
      rw [q] at e2
      simp [isListD, itL, tmIte]
      rw [e]
      simp only [Tr.bind_done, e2]
      simp [itL, tmIte]
      rw [e3]
      simp only [Tr.bind_done]
      generalize xs.map nmOf = ns at *
      simp [e4]
  | _ => simp [f_numbers_fit, runF, b_numbers_fit, tmIte, List.replicate, isListD]
theorem eqvA_strs : ∀ xs ys : List Str, PyData.eqvAll (xs.map .str) (ys.map .str) = decide (xs = ys)
  | [], [] => rfl
  | [], _ :: _ => rfl
  | _ :: _, [] => rfl
  | x :: xs, y :: ys => by
    show (PyData.eqv (.str x) (.str y) && PyData.eqvAll (xs.map .str) (ys.map .str)) = _
    rw [eqvA_strs xs ys, eqv_str]
    by_cases h1 : x = y <;> by_cases h2 : xs = ys <;> simp [h1, h2]
theorem shp_dN {ns : List Str} (h : ∀ x ∈ ns, PyData.strOk x = true) : shp (dN ns) = true := by
  have h1 : PyData.canLayAll0 (ns.map PyData.str) = true := by
    induction ns with
    | nil => rfl
    | cons x ns ih =>
      show (PyData.strOk x && PyData.canLayAll0 (ns.map PyData.str)) = true
      rw [h x (List.mem_cons_self ..), ih fun y hy => h y (List.mem_cons_of_mem _ hy)]; rfl
  have h2 := all_dep (B := 0) (ds := ns.map PyData.str) fun d hd => by
    obtain ⟨i, _, rfl⟩ := List.mem_map.mp hd; exact Nat.le_refl _
  show (PyData.canLayAll0 (ns.map .str) && decide (PyData.depthAll (ns.map .str) + 1 ≤ 64)) = true
  rw [h1, Bool.true_and]; exact decide_eq_true (by omega)
theorem eq_dN (f : Bool → Bool) {xs ys : List Str} (hx : ∀ x ∈ xs, PyData.strOk x = true) (hy : ∀ x ∈ ys, PyData.strOk x = true) : oEq f (dN xs) (dN ys) = .done (.bool (f (decide (xs = ys)))) := by
  rw [oEq_ok (shp_dN hx) (shp_dN hy)]
  show Tr.done (PyData.bool (f (PyData.eqvAll (xs.map .str) (ys.map .str)))) = _
  rw [eqvA_strs]
theorem ok_names {k : Kd} {xs : List PyData} (hg : ∀ x ∈ xs, gd x = true) (h : xs.all (pairB k) = true) : ∀ y ∈ xs.map nmOf, PyData.strOk y = true := fun y hy => by
  obtain ⟨x, hx, rfl⟩ := List.mem_map.mp hy
  obtain ⟨z, v, rfl, _⟩ := pairB_str (List.all_eq_true.mp h x hx)
  exact (gd_str ((gd_tup (hg _ hx)).2 (.str z) (by simp))).2
theorem numbers_of_val (k : Kd) {ns : List Str} (hn : ∀ x ∈ ns, PyData.strOk x = true) (ha : ascB ns = true) {d : PyData} (h : gd d = true) : f_numbers_of [dK k, .dat (dN ns), .dat d] = .done (.bool (numsB k ns d)) := by
  have e := numbers_fit_val k h
  cases d with
  | list xs =>
    obtain ⟨hl, hg⟩ := gd_list h
    have e : f_numbers_fit [dK k, .dat (.list xs)] = .done (.bool (xs.all (pairB k) && ascB (xs.map nmOf))) := e
    simp only [f_numbers_of, runF, b_numbers_of, List.replicate, List.cons_append, List.nil_append]
    cases q : (xs.all (pairB k) && ascB (xs.map nmOf))
    · have : numsB k ns (.list xs) = false := by
        show (xs.all (pairB k) && decide (xs.map nmOf = ns)) = false
        cases q1 : xs.all (pairB k)
        · rfl
        · rw [q1, Bool.true_and] at q
          rw [Bool.true_and]
          exact decide_eq_false fun z => by rw [z, ha] at q; cases q
      rw [q] at e
      rw [this]
      simp [e]
    · rw [q] at e
      rw [Bool.and_eq_true] at q
      have e3 := firsts_comp (e := [dK k, .dat (dN ns), .dat (.list xs), .no]) (i := 3) hl q.1 (by show 3 < 4; decide)
      have e4 := eq_dN id (ok_names hg q.1) hn
      have : numsB k ns (.list xs) = decide (xs.map nmOf = ns) := by
        show (xs.all (pairB k) && decide (xs.map nmOf = ns)) = _
        rw [q.1, Bool.true_and]
      rw [this]
      simp [e, itL]
      rw [e3]
      simp only [Tr.bind_done]
      generalize xs.map nmOf = ms at *
      simp [e4]
  | _ => simp [f_numbers_of, runF, b_numbers_of, tmIte, List.replicate, e, numsB]
theorem names_fit_val {ns : List Str} (hl : ns.length ≤ 1000) (hn : ∀ x ∈ ns, PyData.strOk x = true ∧ x.length ≤ 1000 ∧ nm x.cps.toList = true) (ha : ascB ns = true) : f_check_names [.dat (dN ns)] = .done .none := by
  have e : compL (tgName 1) yYes (xFn f_is_name 1 (aCons (xVar 1) aNil)) [1] (ns.map .str) [.dat (dN ns), .no] = .done (bD ((ns.map PyData.str).map fun _ => true)) :=
    comp_all' _ (by rw [List.length_map]; omega) fun x hx => by
      obtain ⟨y, hy, rfl⟩ := List.mem_map.mp hx
      obtain ⟨h1, h2, h3⟩ := hn y hy
      refine ⟨_, rfl, ?_⟩
      have := is_name_str h2 h1
      rw [h3] at this
      simp [noM, this]
  have e2 := all_b ((ns.map PyData.str).map fun _ => true)
  have e3 := is_ascending_val hl
  rw [ha] at e3
  have e4 : (((ns.map PyData.str).map fun _ => true).all id) = true := by simp
  rw [e4] at e2
  generalize ((ns.map PyData.str).map fun _ => true) = bs at *
  have f1 : f_names_fit [.dat (dN ns)] = .done (.bool true) := by
    simp only [f_names_fit, runF, b_names_fit, List.replicate, List.cons_append, List.nil_append]
    simp [isListD, itL]
    rw [e]
    simp only [Tr.bind_done, e2]
    simp [e3]
  simp [f_check_names, runF, b_check_names, tmIte, f1]
theorem are_numbers_val (k : Kd) {ns : List Str} (hl : ns.length ≤ 1000) (hn : ∀ x ∈ ns, PyData.strOk x = true ∧ x.length ≤ 1000 ∧ nm x.cps.toList = true) (ha : ascB ns = true) {d : PyData} (h : gd d = true) : f_are_numbers [dK k, .dat (dN ns), .dat d] = .done (.bool (numsB k ns d)) := by
  have e1 := names_fit_val hl hn ha
  have e2 := numbers_of_val k (fun x hx => (hn x hx).1) ha h
  generalize dN ns = D at *
  simp [f_are_numbers, runF, b_are_numbers, e1, e2]
theorem law_are_numbers_val (k : Kd) {ns : List Str} (hn : ∀ x ∈ ns, PyData.strOk x = true) {d : PyData} (h : gd d = true) : f_law_are_numbers [dK k, .dat (dN ns), .dat d] = .done (.bool (numsB k ns d)) := by
  cases q : isListD d with
  | false => rw [numsB_not q]; simp [f_law_are_numbers, runF, b_law_are_numbers, tmIte, List.replicate, q]
  | true =>
    cases d with
    | list xs =>
      obtain ⟨hl, hg⟩ := gd_list h
      generalize hD : dN ns = D at *
      let isP : PyData → Bool := fun x => match x with | .tuple ys => decide (ys.length = 2) | _ => false
      have e : compL (tgName 3) (yOr (yNot (yTru (xIsi isTupD (xVar 3)))) (yB (xOp (oEq not) (xCb o_len (aCons (xVar 3) aNil)) (xC (PyData.int 2))))) (xVar 3) [3] xs [dK k, .dat D, .dat (.list xs), .no] = .done ((xs.filter fun x => !isP x).map fun x => x) :=
        comp_ds _ _ (by omega) fun x hx => ⟨_, rfl, by
          cases x with
          | tuple ys =>
            simp [noM, isTupD, isP]
            by_cases z : ys.length = 2
            · simp [z]
            · have : ¬ ((ys.length : Int) = 2) := by omega
              simp [z, this]
          | _ => simp [noM, isTupD, isP], fun _ => rfl⟩
      have e1 := empty_filter isP (fun x => x) xs
      simp only [f_law_are_numbers, runF, b_law_are_numbers, List.replicate, List.cons_append, List.nil_append]
      cases q1 : xs.all isP
      · have : numsB k ns (.list xs) = false := by
          show (xs.all (pairB k) && decide (xs.map nmOf = ns)) = false
          have : xs.all (pairB k) = false := by
            rw [List.all_eq_false] at q1 ⊢
            obtain ⟨x, hx, h2⟩ := q1
            refine ⟨x, hx, fun h3 => h2 ?_⟩
            obtain ⟨y, v, rfl, _⟩ := pairB_str h3
            rfl
          rw [this]; rfl
        rw [q1] at e1
        rw [this]
        generalize ((xs.filter fun x => !isP x).map fun x => x) = L at *
        simp [isListD, itL, tmIte]
        rw [e]
        simp [e1]
      · have e2 : compL (tgName 3) (yOr (yNot (yTru (xFn f_law_is_name 1 (aCons (xOp o_ix (xVar 3) (xC (PyData.int 0))) aNil)))) (yNot (yTru (xFn f_law_is_number 2 (aCons (xVar 0) (aCons (xOp o_ix (xVar 3) (xC (PyData.int 1))) aNil)))))) (xVar 3) [3] xs [dK k, .dat D, .dat (.list xs), .no] = .done ((xs.filter fun x => !pairB k x).map fun x => x) :=
          comp_ds _ _ (by omega) fun x hx => ⟨_, rfl, by
            have hp := List.all_eq_true.mp q1 x hx
            have hgx := hg x hx
            cases x with
            | tuple ys =>
              obtain ⟨a, b, rfl⟩ := two (of_decide_eq_true hp)
              have e3 := law_is_name_val ((gd_tup hgx).2 a (by simp))
              have e4 := law_is_number_val k b
              cases q3 : nameB a
              · rw [q3] at e3
                simp [noM, e3, pairB, q3]
              · rw [q3] at e3
                simp [noM, e3, e4, pairB, q3]
            | _ => exact absurd hp (by simp [isP]), fun _ => rfl⟩
        have e5 := empty_filter (pairB k) (fun x => x) xs
        rw [q1] at e1
        generalize ((xs.filter fun x => !isP x).map fun x => x) = L at *
        cases q3 : xs.all (pairB k)
        · have : numsB k ns (.list xs) = false := by
            show (xs.all (pairB k) && decide (xs.map nmOf = ns)) = false
            rw [q3]; rfl
          rw [this]
          rw [q3] at e5
          generalize ((xs.filter fun x => !pairB k x).map fun x => x) = M at *
          simp [isListD, itL, tmIte]
          rw [e]
          simp [e1, itL, tmIte]
          rw [e2]
          simp [e5]
        · have e6 := firsts_comp (e := [dK k, .dat D, .dat (.list xs), .no]) (i := 3) hl q3 (by show 3 < 4; decide)
          have e7 := eq_dN id (ok_names hg q3) hn
          have : numsB k ns (.list xs) = decide (xs.map nmOf = ns) := by
            show (xs.all (pairB k) && decide (xs.map nmOf = ns)) = _
            rw [q3, Bool.true_and]
          rw [this]
          rw [q3] at e5
          rw [hD] at e7
          generalize ((xs.filter fun x => !pairB k x).map fun x => x) = M at *
          simp [isListD, itL, tmIte]
          rw [e]
          simp [e1, itL, tmIte]
          rw [e2]
          simp [e5, itL, tmIte]
          rw [e6]
          simp only [Tr.bind_done]
          generalize xs.map nmOf = ms at *
          simp [e7]
    | _ => cases q
end Hr
namespace Hr
open PySem PySem.Spec PyProof.Rows L2 Evl
/-! ### a value is judged rightly -/
structure Vl (d : PyData) : Prop where
  g : gd d = true
  r : okR d = true
theorem repD {d : PyData} (h : okR d = true) : o_reprD [.dat d] = .done (.str d.shown) := if_pos h
theorem ok_b3 (a b c : Bool) : okR (.list [.bool a, .bool b, .bool c]) = true := by cases a <;> cases b <;> cases c <;> decide +kernel
theorem ok_b4 (a b c d : Bool) : okR (.list [.bool a, .bool b, .bool c, .bool d]) = true := by cases a <;> cases b <;> cases c <;> cases d <;> decide +kernel
@[simp] theorem kw_0_1 (a : Sl) : kwIx 0 1 [0] [] [a] = .done [a] := rfl
@[simp] theorem kw_0_2 (a b : Sl) : kwIx 0 2 [1, 0] [] [a, b] = .done [b, a] := rfl
@[simp] theorem kw_0_3 (a b c : Sl) : kwIx 0 3 [2, 1, 0] [] [a, b, c] = .done [c, b, a] := rfl
abbrev abN : List Str := ["a", "b"]
theorem ab_ok : ∀ x ∈ abN, PyData.strOk x = true ∧ x.length ≤ 1000 ∧ nm x.cps.toList = true := by decide +kernel
theorem ab_asc : ascB abN = true := by decide +kernel
theorem value_body {v : PyData} (h : Vl v) (k : Kd) (s1 s3 s4 : Sl) : ∃ d, l_law_value_right_1 [.dat v, s1, dK k, s3, s4] = .done (.nx [.dat v, s1, dK k, .dat d, .dat d]) := by
  have e1 := law_is_line_val k h.g
  have e2 := law_are_lines_val k h.g
  have e3 := law_are_numbers_val k (ns := abN) (fun x hx => (ab_ok x hx).1) h.g
  have f1 := is_line_val k h.g
  have f2 := are_lines_val k h.g
  have f3 := are_numbers_val k (ns := abN) (by decide) ab_ok ab_asc h.g
  have e3 : f_law_are_numbers [dK k, .dat (.list [.str "a", .str "b"]), .dat v] = _ := e3
  have f3 : f_are_numbers [dK k, .dat (.list [.str "a", .str "b"]), .dat v] = _ := f3
  have r := repD (ok_b3 (lineB k v) (linesB k v) (numsB k abN v))
  refine ⟨.list [.bool (lineB k v), .bool (linesB k v), .bool (numsB k abN v)], ?_⟩
  generalize lineB k v = b1 at *
  generalize linesB k v = b2 at *
  generalize numsB k abN v = b3 at *
  generalize (PyData.list [.bool b1, .bool b2, .bool b3]).shown = S at *
  simp [l_law_value_right_1, tmIte, e1, e2, e3, f1, f2, f3, r]
theorem value_right {v : PyData} (h : Vl v) : f_law_value_right [.dat v] = .done (.bool true) := by
  have e0 := repD h.r
  obtain ⟨d1, l1⟩ := value_body h .H (.dat (.str v.shown)) .no .no
  obtain ⟨d2, l2⟩ := value_body h .B (.dat (.str v.shown)) (.dat d1) (.dat d1)
  have e1 := law_is_name_val h.g
  have e2 := law_is_book_val h.g
  have f1 := is_name_val h.g
  have f2 := is_book_val h.g
  have r := repD (ok_b4 (nameB v) (bookB v) (nameB v) (bookB v))
  have lp : forM (loopBody (tgName 2) l_law_value_right_1) [.str "hours", .str "bits"] [.dat v, .dat (.str v.shown), .no, .no, .no] = .done (.nx [.dat v, .dat (.str v.shown), dK .B, .dat d2, .dat d2]) := by
    rw [for_nx (e' := [.dat v, .dat (.str v.shown), dK .H, .dat d1, .dat d1]) l1, for_nx (e' := [.dat v, .dat (.str v.shown), dK .B, .dat d2, .dat d2]) l2, for_nil]
  have ad : o_add (.list [.bool (nameB v), .bool (bookB v)]) (.list [.bool (nameB v), .bool (bookB v)]) = .done (.list [.bool (nameB v), .bool (bookB v), .bool (nameB v), .bool (bookB v)]) := rfl
  generalize nameB v = b1 at *
  generalize bookB v = b2 at *
  generalize (PyData.list [.bool b1, .bool b2, .bool b1, .bool b2]).shown = S at *
  generalize v.shown = T at *
  simp [f_law_value_right, runF, b_law_value_right, List.replicate, e0, itL]
  rw [lp]
  simp [e1, e2, f1, f2, r, ad, e0]
end Hr
namespace Hr
open PySem PySem.Spec PyProof.Rows L2 Evl
/-! ### how long the texts of data are, dicts among them -/
mutual
def ntD : PyData → Bool
  | .none => true
  | .bool _ => true
  | .int i => decide (i.natAbs.log2 < 1920)
  | .str x => x.cps.toList.all fun c => decide (c < 16 ^ 8)
  | .list xs => ntA xs
  | .tuple xs => ntA xs
  | .dict kvs => ntK kvs
def ntA : List PyData → Bool
  | [] => true
  | x :: xs => ntD x && ntA xs
def ntK : List (PyData × PyData) → Bool
  | [] => true
  | (k, v) :: r => flatK k && ntD k && ntD v && ntK r
end
mutual
def csD : PyData → Nat
  | .none => 5
  | .bool _ => 5
  | .int _ => 1921
  | .str x => 10 * x.length + 2
  | .list xs => csA xs + 3
  | .tuple xs => csA xs + 3
  | .dict kvs => csK kvs + 3
def csA : List PyData → Nat
  | [] => 0
  | x :: xs => csD x + 2 + csA xs
def csK : List (PyData × PyData) → Nat
  | [] => 0
  | (k, v) :: r => csD k + csD v + 4 + csK r
end
theorem len_app3 (a b c : Str) : (a ++ b ++ c).length = a.length + b.length + c.length := by rw [strLen_append, strLen_append]
mutual
theorem nt_ok : ∀ d : PyData, ntD d = true → okK d = true ∧ d.showable = true ∧ d.shown.length ≤ csD d
  | .none, _ => ⟨rfl, rfl, by decide +kernel⟩
  | .bool b, _ => ⟨rfl, rfl, by cases b <;> decide +kernel⟩
  | .int i, h => by
    have h' : i.natAbs.log2 < 1920 := of_decide_eq_true h
    exact ⟨rfl, decide_eq_true h', PyProof.Rows.int_text_len_1921 h'⟩
  | .str x, h => by
    refine ⟨rfl, rfl, ?_⟩
    have h' : (x.cps.toList.all fun c => decide (c < 16 ^ 8)) = true := h
    exact StrLaws.reprText_len x fun c hc => of_decide_eq_true (List.all_eq_true.mp h' c hc)
  | .list xs, h => by
    obtain ⟨a, b, c⟩ := nta_ok xs h
    refine ⟨a, b, ?_⟩
    have l := listText_len_le (PyData.shownAll xs)
    show (listText (PyData.shownAll xs)).length ≤ csA xs + 3
    omega
  | .tuple xs, h => by
    obtain ⟨a, b, c⟩ := nta_ok xs h
    refine ⟨a, b, ?_⟩
    have l := tupleText_len_le (PyData.shownAll xs)
    show (tupleText (PyData.shownAll xs)).length ≤ csA xs + 3
    omega
  | .dict kvs, h => by
    obtain ⟨a, b, c⟩ := ntk_ok kvs h
    refine ⟨a, b, ?_⟩
    have l := dictText_len_le (PyData.shownKv kvs)
    show (dictText (PyData.shownKv kvs)).length ≤ csK kvs + 3
    omega
theorem nta_ok : ∀ xs : List PyData, ntA xs = true → okKs xs = true ∧ PyData.showableAll xs = true ∧ ((PyData.shownAll xs).map (·.length)).sum + 2 * (PyData.shownAll xs).length ≤ csA xs
  | [], _ => ⟨rfl, rfl, Nat.le_refl _⟩
  | x :: xs, h => by
    have h' : (ntD x && ntA xs) = true := h
    rw [Bool.and_eq_true] at h'
    obtain ⟨a, b, c⟩ := nt_ok x h'.1
    obtain ⟨a2, b2, c2⟩ := nta_ok xs h'.2
    refine ⟨by rw [okKs, a, a2]; rfl, by rw [PyData.showableAll, b, b2]; rfl, ?_⟩
    rw [PyData.shownAll, List.map_cons, List.sum_cons, List.length_cons, csA]
    omega
theorem ntk_ok : ∀ xs : List (PyData × PyData), ntK xs = true → okKv xs = true ∧ PyData.showableKv xs = true ∧ ((PyData.shownKv xs).map (·.length)).sum + 2 * (PyData.shownKv xs).length ≤ csK xs
  | [], _ => ⟨rfl, rfl, Nat.le_refl _⟩
  | (k, v) :: xs, h => by
    have h' : (flatK k && ntD k && ntD v && ntK xs) = true := h
    rw [Bool.and_eq_true, Bool.and_eq_true, Bool.and_eq_true] at h'
    obtain ⟨⟨⟨h0, h1⟩, h2⟩, h3⟩ := h'
    obtain ⟨_, b, c⟩ := nt_ok k h1
    obtain ⟨a1, b1, c1⟩ := nt_ok v h2
    obtain ⟨a2, b2, c2⟩ := ntk_ok xs h3
    refine ⟨by rw [okKv, h0, a1, a2]; rfl, by rw [PyData.showableKv, b, b1, b2]; rfl, ?_⟩
    rw [PyData.shownKv, List.map_cons, List.sum_cons, List.length_cons, csK]
    have : (k.shown ++ (": " : Str) ++ v.shown).length = k.shown.length + 2 + v.shown.length := by rw [len_app3]; rfl
    omega
end
/-- data within bounds: of its text, its depth -/
structure Sz (c p : Nat) (d : PyData) : Prop where
  n : ntD d = true
  g : gd d = true
  c : csD d ≤ c
  d : d.depth ≤ p
theorem Sz.vl {c p : Nat} {d : PyData} (h : Sz c p d) (hc : c ≤ 10000000) (hp : p ≤ 50) : Vl d := by
  obtain ⟨a, b, l⟩ := nt_ok d h.n
  refine ⟨h.g, ?_⟩
  unfold okR
  have h1 := h.c; have h2 := h.d
  rw [a, b, decide_eq_true (by omega : d.shown.length ≤ 10000000), decide_eq_true (by omega : d.depth ≤ 50)]; rfl
theorem Sz.mono {c p c' p' : Nat} {d : PyData} (h : Sz c p d) (hc : c ≤ c') (hp : p ≤ p') : Sz c' p' d := ⟨h.n, h.g, Nat.le_trans h.c hc, Nat.le_trans h.d hp⟩
theorem sz_none : Sz 5 0 .none := ⟨rfl, rfl, Nat.le_refl _, Nat.le_refl _⟩
theorem sz_bool (b : Bool) : Sz 5 0 (.bool b) := ⟨rfl, rfl, Nat.le_refl _, Nat.le_refl _⟩
theorem szd_int {i : Int} (h : sz i ≤ 900) : Sz 1921 0 (.int i) := ⟨decide_eq_true (by have := log_sz i; omega), decide_eq_true h, Nat.le_refl _, Nat.le_refl _⟩
theorem szd_str {x : Str} {n : Nat} (h : x.length ≤ n) (hn : n ≤ 1000) (hs : PyData.strOk x = true) : Sz (10 * n + 2) 0 (.str x) := by
  refine ⟨?_, ?_, by show 10 * x.length + 2 ≤ _; omega, Nat.le_refl _⟩
  · show (x.cps.toList.all fun c => decide (c < 16 ^ 8)) = true
    rw [List.all_eq_true]
    exact fun c hc => decide_eq_true (by have := ok_codes hs c hc; omega)
  · show (decide (x.length ≤ 1000) && PyData.strOk x) = true
    rw [hs, decide_eq_true (by omega)]; rfl
theorem all_ntA : ∀ {ds : List PyData}, (∀ d ∈ ds, ntD d = true) → ntA ds = true
  | [], _ => rfl
  | d :: ds, h => by
    show (ntD d && ntA ds) = true
    rw [h d (List.mem_cons_self ..), all_ntA fun x hx => h x (List.mem_cons_of_mem _ hx)]; rfl
theorem all_csA {B : Nat} : ∀ {ds : List PyData}, (∀ d ∈ ds, csD d ≤ B) → csA ds ≤ ds.length * (B + 2)
  | [], _ => Nat.zero_le _
  | d :: ds, h => by
    have h1 := h d (List.mem_cons_self ..)
    have h2 := all_csA (B := B) fun x hx => h x (List.mem_cons_of_mem _ hx)
    show csD d + 2 + csA ds ≤ _
    rw [List.length_cons, Nat.succ_mul]; omega
theorem szd_list {c p N : Nat} {ds : List PyData} (h : ∀ d ∈ ds, Sz c p d) (hl : ds.length ≤ N) (hN : N ≤ 1000) : Sz (N * (c + 2) + 3) (p + 1) (.list ds) := by
  refine ⟨all_ntA fun d hd => (h d hd).n, gd_list' (by omega) fun d hd => (h d hd).g, ?_, ?_⟩
  · have := all_csA (B := c) fun d hd => (h d hd).c
    have h2 := Nat.mul_le_mul_right (c + 2) hl
    show csA ds + 3 ≤ _
    omega
  · have := all_dep (B := p) fun d hd => (h d hd).d
    show PyData.depthAll ds + 1 ≤ _
    omega
theorem szd_tup {c p N : Nat} {ds : List PyData} (h : ∀ d ∈ ds, Sz c p d) (hl : ds.length ≤ N) (hN : N ≤ 1000) : Sz (N * (c + 2) + 3) (p + 1) (.tuple ds) := by
  refine ⟨all_ntA fun d hd => (h d hd).n, gd_tup' (by omega) fun d hd => (h d hd).g, ?_, ?_⟩
  · have := all_csA (B := c) fun d hd => (h d hd).c
    have h2 := Nat.mul_le_mul_right (c + 2) hl
    show csA ds + 3 ≤ _
    omega
  · have := all_dep (B := p) fun d hd => (h d hd).d
    show PyData.depthAll ds + 1 ≤ _
    omega
def szB (c p : Nat) (d : PyData) : Bool := ntD d && gd d && decide (csD d ≤ c) && decide (d.depth ≤ p)
theorem szB_ok {c p : Nat} {d : PyData} (h : szB c p d = true) : Sz c p d := by
  unfold szB at h
  simp only [Bool.and_eq_true, decide_eq_true_eq] at h
  exact ⟨h.1.1.1, h.1.1.2, h.1.2, h.2⟩
instance (c p : Nat) (d : PyData) : Decidable (Sz c p d) := decidable_of_iff (szB c p d = true) ⟨szB_ok, fun h => by
  unfold szB
  rw [h.n, h.g, decide_eq_true h.c, decide_eq_true h.d]; rfl⟩
end Hr
namespace Hr
open PySem PySem.Spec PyProof.Rows L2 Evl
/-! ### what is drawn, word by word -/
section
variable {ms mu mr : Ss_} {mt mt2 : Ts_} {ma mb me : Ex_} {e : Env} {n j : Nat} {Q : Out → Nat → Prop} {P : PyData → Nat → Prop}
theorem d_asg {R : PyData → Nat → Prop} (h : Al (me e) R n) (h2 : ∀ d m, R d m → Al (mu (e.set j (.dat d))) Q m) : Al (zSeq (zAsg me (tgName j)) mu e) Q n := by
  have : zSeq (zAsg me (tgName j)) mu e = (me e).bind fun d => mu (e.set j (.dat d)) := by
    show ((me e).bind _).bind _ = _
    rw [Tr.bind_assoc]; rfl
  rw [this]
  exact al_seq h h2
theorem d_ret (h : Al (me e) (fun d m => Q (.rt d) m) n) : Al (zRet me e) Q n := al_seq h fun d m hd => by simpa using hd
theorem d_op {g : PyData → PyData → Tr PyData} {R S : PyData → Nat → Prop} (h : Al (ma e) R n) (h2 : ∀ x m, R x m → Al (mb e) S m) (h3 : ∀ x y m k, R x m → S y k → Al (g x y) P k) : Al (xOp g ma mb e) P n := by
  have : xOp g ma mb e = (ma e).bind fun x => (mb e).bind fun y => g x y := rfl
  rw [this]
  exact al_seq h fun x m hx => al_seq (h2 x m hx) fun y k hy => h3 x y m k hx hy
theorem d_op' {g : PyData → PyData → Tr PyData} (h : Al (ma e) (fun x m => Al (mb e) (fun y k => Al (g x y) P k) m) n) : Al (xOp g ma mb e) P n :=
  al_seq h fun x m hx => al_seq hx fun y k hy => hy
theorem d_if {Q : Out → Nat → Prop} (h : Al (mt e) (fun b m => if b = true then Al (mr e) (fun o k => ∃ d, o = .rt d ∧ Q (.rt d) k) m else Al (mu e) Q m) n) : Al (zSeq (zIf mt mr zNext) mu e) Q n := by
  have : zSeq (zIf mt mr zNext) mu e = (mt e).bind fun b => if b = true then (mr e).bind (then_ mu) else mu e := by
    show (tmIte mt mr zNext e).bind _ = _
    unfold tmIte
    rw [Tr.bind_assoc]
    congr 1
    funext b
    cases b <;> rfl
  rw [this]
  refine al_seq h fun b m hb => ?_
  cases b
  · rw [if_neg nofun] at hb ⊢; exact hb
  · rw [if_pos rfl] at hb ⊢
    refine al_seq hb ?_
    rintro o k ⟨d, rfl, hd⟩
    simpa using hd
theorem d_ifx (h : Al (mt e) (fun b m => if b = true then Al (ma e) P m else Al (mb e) P m) n) : Al (xIf mt ma mb e) P n := by
  have : xIf mt ma mb e = (mt e).bind fun b => if b = true then ma e else mb e := by
    show tmIte mt ma mb e = _
    unfold tmIte
    rfl
  rw [this]
  refine al_seq h fun b m hb => ?_
  cases b
  · rw [if_neg nofun] at hb ⊢; exact hb
  · rw [if_pos rfl] at hb ⊢; exact hb
theorem d_B {R : Bool → Nat → Prop} (h : Al (me e) (fun d m => ∃ b, d = .bool b ∧ R b m) n) : Al (yB me e) R n := al_seq h fun d m ⟨b, hd, hb⟩ => by subst hd; simpa using hb
theorem d_and {R : Bool → Nat → Prop} (h : Al (mt e) (fun b m => if b = true then Al (mt2 e) R m else R false m) n) : Al (yAnd mt mt2 e) R n := by
  have : yAnd mt mt2 e = (mt e).bind fun b => if b = true then mt2 e else .done false := rfl
  rw [this]
  refine al_seq h fun b m hb => ?_
  cases b
  · rw [if_neg nofun] at hb ⊢; simpa using hb
  · rw [if_pos rfl] at hb ⊢; exact hb
/-- a draw -/
theorem d_rnd {b : Int} (hg : rdGen 0 e = .done ()) (hb : mb e = .done (.int b)) (h0 : 0 < b) (hz : sz b ≤ 2000) (hn : 0 < n) : Al (xFn f_law_random 2 (aGen 0 (aCons mb aNil)) e) (fun d m => ∃ z, 0 ≤ z ∧ z < b ∧ d = .int z ∧ m = n - 1) n := by
  have : xFn f_law_random 2 (aGen 0 (aCons mb aNil)) e = f_law_random [.gen, dI b] := e_fn (e_gen hg (e_cons hb e_nil)) rfl rfl
  rw [this]
  exact al_of (random_all h0 hz hn)
end
theorem sz_bd {i : Int} {n : Nat} (h : i.natAbs < 2 ^ n) : sz i ≤ n := Gf.bl_le.mpr h
theorem kd_of {z : Int} (h0 : 0 ≤ z) (h1 : z < 2) : ∃ k : Kd, o_ix (.list [.str "hours", .str "bits"]) (.int z) = .done (.str (ks k)) := by
  have : z = 0 ∨ z = 1 := by omega
  rcases this with rfl | rfl
  · exact ⟨.H, rfl⟩
  · exact ⟨.B, rfl⟩
/-- an item of a list -/
theorem ix_of {xs : List PyData} {z : Int} (h0 : 0 ≤ z) (h1 : z < xs.length) : ∃ d ∈ xs, o_ix (.list xs) (.int z) = .done d := by
  obtain ⟨i, rfl⟩ := Int.eq_ofNat_of_zero_le h0
  have hi : i < xs.length := by omega
  exact ⟨xs[i], List.getElem_mem hi, ix_l (List.getElem?_eq_getElem hi)⟩
def farM : Kd → Int
  | .H => 10 ^ 27
  | .B => 10 ^ 11
def menuM : Kd → List Int
  | .H => [0, 1, 2, 3, 4, 6, 8, 9, 10, 12, 15, 18]
  | .B => [0, 1, 2, 3, 4, 5, 6, 7, 9, 10, 12, 14]

theorem pow_ii' {i j : Int} (h : decide (0 ≤ j ∧ (Builtin.Int.intBits i : Int) * j ≤ 134217728) = true) : o_pow (.int i) (.int j) = .done (.int (i ^ j.toNat)) := by
  show (if decide (0 ≤ j ∧ (Builtin.Int.intBits i : Int) * j ≤ 134217728) = true then Tr.done (PyData.int (i ^ j.toNat)) else Tr.fail) = _
  rw [if_pos h]
theorem pow_27 : o_pow (.int 10) (.int 27) = .done (.int 1000000000000000000000000000) := pow_ii' (by decide +kernel)
theorem pow_11 : o_pow (.int 10) (.int 11) = .done (.int 100000000000) := pow_ii' (by decide +kernel)
theorem pow_29 : o_pow (.int 10) (.int 29) = .done (.int 100000000000000000000000000000) := pow_ii' (by decide +kernel)
def farK : Kd → Int
  | .H => 1000000000000000000000000000
  | .B => 100000000000
theorem farK_ok (k : Kd) : 0 < farK k ∧ sz (farK k) ≤ 90 := by cases k <;> exact ⟨by decide, by decide +kernel⟩
theorem e_far {k : Kd} {e : Env} {i : Nat} (h : rd i e = .done (.str (ks k))) : xIf (yB (xOp (oEq id) (xVar i) (xC (PyData.str "hours")))) (xOp o_pow (xC (PyData.int 10)) (xC (PyData.int 27))) (xOp o_pow (xC (PyData.int 10)) (xC (PyData.int 11))) e = .done (.int (farK k)) := by
  rw [e_ifx (b := isH k) (e_B (e_op (e_var h) rfl (eq_H k)))]
  cases k
  · exact e_op rfl rfl pow_27
  · exact e_op rfl rfl pow_11
def menuK : Kd → List Int
  | .H => [0, 1, 2, 3, 4, 6, 8, 9, 10, 12, 15, 18]
  | .B => [0, 1, 2, 3, 4, 5, 6, 7, 9, 10, 12, 14]
theorem menuK_ok {k : Kd} {b : Int} (h : b ∈ menuK k) : 0 ≤ b ∧ sz b ≤ 90 := by
  have key : ∀ k, ∀ b ∈ menuK k, 0 ≤ b ∧ sz b ≤ 90 := by
    intro k; cases k <;> decide +kernel
  exact key k b h
theorem by_draw {k : Kd} {n : Nat} (hn : 2 ≤ n) : Al (f_law_by [.gen, dK k]) (fun d m => (∃ b : Int, d = .int b ∧ 0 ≤ b ∧ sz b ≤ 90) ∧ n ≤ m + 2) n := by
  refine al_run ?_
  show Al (zSeq _ _ [.gen, dK k, .no]) _ n
  refine d_if ?_
  refine d_B ?_
  refine al_mono (P := fun d m => ∃ b, d = .bool b ∧ m = n - 1) ?_ ?_
  · refine d_op' (al_mono (d_rnd (e := [.gen, dK k, .no]) (b := 12) rfl rfl (by decide) (by decide +kernel) (by omega)) ?_)
    rintro d m ⟨z, _, _, rfl, rfl⟩
    refine al_eq (a := .int 0) rfl (al_eq (eq_ii id z 0) ⟨_, rfl, rfl⟩)
  · rintro d m ⟨b, rfl, rfl⟩
    refine ⟨b, rfl, ?_⟩
    cases b
    · rw [if_neg nofun]
      have hm : (xIf (yB (xOp (oEq id) (xVar 1) (xC (PyData.str "hours")))) (xEl (xLst (aCons (xC (PyData.int 0)) (aCons (xC (PyData.int 1)) (aCons (xC (PyData.int 2)) (aCons (xC (PyData.int 3)) (aCons (xC (PyData.int 4)) (aCons (xC (PyData.int 6)) (aCons (xC (PyData.int 8)) (aCons (xC (PyData.int 9)) (aCons (xC (PyData.int 10)) (aCons (xC (PyData.int 12)) (aCons (xC (PyData.int 15)) (aCons (xC (PyData.int 18)) aNil)))))))))))))) (xEl (xLst (aCons (xC (PyData.int 0)) (aCons (xC (PyData.int 1)) (aCons (xC (PyData.int 2)) (aCons (xC (PyData.int 3)) (aCons (xC (PyData.int 4)) (aCons (xC (PyData.int 5)) (aCons (xC (PyData.int 6)) (aCons (xC (PyData.int 7)) (aCons (xC (PyData.int 9)) (aCons (xC (PyData.int 10)) (aCons (xC (PyData.int 12)) (aCons (xC (PyData.int 14)) aNil))))))))))))))) [.gen, dK k, .no] = .done (.list ((menuK k).map .int)) := by
        rw [e_ifx (b := isH k) (e_B (e_op (e_var rfl) rfl (eq_H k)))]
        cases k <;> rfl
      refine a_asgA (P := fun d m => d = .list ((menuK k).map .int) ∧ m = n - 1) (al_eq hm ⟨rfl, rfl⟩) ?_
      rintro d m ⟨rfl, rfl⟩
      refine d_ret (d_op' (al_eq (a := .list ((menuK k).map .int)) rfl (al_mono (d_rnd (b := 12) rfl rfl (by decide) (by decide +kernel) (by omega)) ?_)))
      rintro d m ⟨z, z0, z1, rfl, rfl⟩
      have hl : ((menuK k).map PyData.int).length = 12 := by cases k <;> rfl
      obtain ⟨d, hd, e⟩ := ix_of (xs := (menuK k).map PyData.int) z0 (by rw [hl]; exact z1)
      obtain ⟨b, hb, rfl⟩ := List.mem_map.mp hd
      exact al_eq e (.inl ⟨_, rfl, ⟨b, rfl, menuK_ok hb⟩, by omega⟩)
    · rw [if_pos rfl]
      refine d_ret (al_mono (d_rnd (b := farK k) rfl (e_far rfl) (farK_ok k).1 (by have := (farK_ok k).2; omega) (by omega)) ?_)
      rintro d m ⟨z, z0, z1, rfl, rfl⟩
      refine ⟨_, rfl, .inl ⟨_, rfl, ⟨z, rfl, z0, ?_⟩, by omega⟩⟩
      refine sz_bd ?_
      have : z < 1000000000000000000000000000 := by cases k <;> (simp [farK] at z1; omega)
      have p : (2 : Nat) ^ 90 = 1237940039285380274899124224 := by decide +kernel
      rw [p]; omega
end Hr
namespace Hr
open PySem PySem.Spec PyProof.Rows L2 Evl
/-! ### a drawn line -/
theorem fng1 {g : List Sl → Tr PyData} {m1 : Ex_} {e : Env} {x : PyData} (h0 : rdGen 0 e = .done ()) (h1 : m1 e = .done x) : xFn g 2 (aGen 0 (aCons m1 aNil)) e = g [.gen, .dat x] := e_fn (e_gen h0 (e_cons h1 e_nil)) rfl rfl
theorem number_draw {k : Kd} {n : Nat} (hn : 3 ≤ n) : Al (f_law_number [.gen, dK k]) (fun d m => (∃ i : Int, d = .int i ∧ okB k i = true ∧ sz i ≤ 90) ∧ n ≤ m + 3) n := by
  refine al_run ?_
  show Al (zSeq _ _ [.gen, dK k, .no, .no]) _ n
  refine a_asgA (P := fun d m => (d = .int 20 ∨ d = .int (farK k)) ∧ m = n - 1) ?_ ?_
  · refine d_op' (al_eq (a := .list [.int 20, .int 20, .int 20, .int (farK k)]) ?_ (al_mono (d_rnd (b := 4) rfl rfl (by decide) (by decide +kernel) (by omega)) ?_))
    · exact e_lst (e_cons rfl (e_cons rfl (e_cons rfl (e_cons (e_far rfl) e_nil)))) rfl
    · rintro d m ⟨z, z0, z1, rfl, rfl⟩
      obtain ⟨d, hd, e⟩ := ix_of (xs := [.int 20, .int 20, .int 20, .int (farK k)]) z0 z1
      refine al_eq e ⟨?_, rfl⟩
      simp at hd; exact hd
  · rintro d m ⟨hd, rfl⟩
    obtain ⟨b, rfl, b0, bz, bl⟩ : ∃ b : Int, d = .int b ∧ 0 < b ∧ sz b ≤ 2000 ∧ b ≤ 1000000000000000000000000000 := by
      rcases hd with rfl | rfl
      · exact ⟨20, rfl, by decide, by decide +kernel, by decide⟩
      · exact ⟨farK k, rfl, (farK_ok k).1, by have := (farK_ok k).2; omega, by cases k <;> decide⟩
    refine a_asgA (al_mono (d_rnd (b := b) rfl rfl b0 bz (by omega)) fun d m h => h) ?_
    rintro d m ⟨z, z0, z1, rfl, rfl⟩
    have zz : sz z ≤ 90 := sz_bd (by
      have p : (2 : Nat) ^ 90 = 1237940039285380274899124224 := by decide +kernel
      rw [p]; omega)
    have zz' : sz (0 - z) ≤ 90 := sz_bd (by
      have p : (2 : Nat) ^ 90 = 1237940039285380274899124224 := by decide +kernel
      rw [p]; omega)
    refine d_ret (d_ifx (d_and (al_eq (a := isH k) (e_B (e_op (e_var rfl) rfl (eq_H k))) ?_)))
    cases k
    · show Al _ _ _
      refine d_B (d_op' (al_mono (d_rnd (b := 3) rfl rfl (by decide) (by decide +kernel) (by omega)) ?_))
      rintro d m ⟨y, y0, y1, rfl, rfl⟩
      refine al_eq (a := .int 0) rfl (al_eq (eq_ii id y 0) ⟨_, rfl, ?_⟩)
      split
      · exact al_eq (a := .int (0 - z)) rfl (.inl ⟨_, rfl, ⟨_, rfl, rfl, zz'⟩, by omega⟩)
      · exact al_eq (a := .int z) rfl (.inl ⟨_, rfl, ⟨_, rfl, rfl, zz⟩, by omega⟩)
    · show Al _ _ _
      exact al_eq (a := .int z) rfl (.inl ⟨_, rfl, ⟨_, rfl, decide_eq_true z0, zz⟩, by omega⟩)
theorem rest_loop (m : Nat) (hm : 0 < m) (hm8 : Gf.bl m ≤ 300) (k a : Sl) : ∀ (f n : Nat), Gf.bl n < f → Gf.bl n ≤ 300 →
    ∃ r, whileM t_law_rest_1 l_law_rest_1 f [k, a, dI (m : Int), dI (n : Int)] = .done (.nx [k, a, dI (m : Int), dI (r : Nat)]) ∧ Gf.bl r < Gf.bl m
  | 0, _, h, _ => by omega
  | f + 1, n, h, hl => by
    have bm := law_bits_nat (n := m) (by omega)
    have bn := law_bits_nat (n := n) (by omega)
    by_cases hy : Gf.bl m ≤ Gf.bl n
    · have lt := Gf.step_lt hm hy
      have bp := Gf.bl_pos hm
      have ble : Gf.bl (n ^^^ m * 2 ^ (Gf.bl n - Gf.bl m)) ≤ Gf.bl n - 1 := Gf.bl_le.mpr lt
      obtain ⟨r, ih, hr⟩ := rest_loop m hm hm8 k a f (n ^^^ m * 2 ^ (Gf.bl n - Gf.bl m)) (by omega) (by omega)
      refine ⟨r, ?_, hr⟩
      have t := law_two_val (n := Gf.bl n - Gf.bl m) (by omega)
      have hs : ((Gf.bl n : Nat) : Int) - ((Gf.bl m : Nat) : Int) = ((Gf.bl n - Gf.bl m : Nat) : Int) := by omega
      have hp : sz ((2 ^ (Gf.bl n - Gf.bl m) : Nat) : Int) ≤ 400 := by
        rw [sz_nat]
        exact Gf.bl_le.mpr (Nat.pow_lt_pow_right (by decide) (show Gf.bl n - Gf.bl m < 400 by omega))
      have zm : sz (m : Int) ≤ 300 := by rw [sz_nat]; exact hm8
      have mu := mul_ii (i := (m : Int)) (j := ((2 ^ (Gf.bl n - Gf.bl m) : Nat) : Int)) (by omega)
      have e4 := xor_nn n (m * 2 ^ (Gf.bl n - Gf.bl m))
      rw [while_go (e' := [k, a, dI (m : Int), dI ((n ^^^ m * 2 ^ (Gf.bl n - Gf.bl m) : Nat) : Int)]) ?_ ?_]
      · exact ih
      · refine e_B (e_op (x := .int ((Gf.bl n : Nat) : Int)) (y := .int ((Gf.bl m : Nat) : Int)) (e_fn (e_cons rfl e_nil) rfl bn) (e_fn (e_cons rfl e_nil) rfl bm) ?_)
        rw [ge_ii, decide_eq_true (by omega)]
      · refine e_asg (d := .int ((n ^^^ m * 2 ^ (Gf.bl n - Gf.bl m) : Nat) : Int)) ?_
        refine e_op (x := .int (n : Int)) (y := .int ((m * 2 ^ (Gf.bl n - Gf.bl m) : Nat) : Int)) rfl ?_ e4
        refine e_op (x := .int (m : Int)) (y := .int ((2 ^ (Gf.bl n - Gf.bl m) : Nat) : Int)) rfl ?_ (mu.trans (by rw [Int.natCast_mul]))
        refine e_fn (e_cons (d := .int ((Gf.bl n - Gf.bl m : Nat) : Int)) ?_ e_nil) rfl t
        refine e_op (x := .int ((Gf.bl n : Nat) : Int)) (y := .int ((Gf.bl m : Nat) : Int)) (e_fn (e_cons rfl e_nil) rfl bn) (e_fn (e_cons rfl e_nil) rfl bm) ?_
        rw [sub_ii, hs]
    · refine ⟨n, ?_, by omega⟩
      rw [while_end]
      refine e_B (e_op (x := .int ((Gf.bl n : Nat) : Int)) (y := .int ((Gf.bl m : Nat) : Int)) (e_fn (e_cons rfl e_nil) rfl bn) (e_fn (e_cons rfl e_nil) rfl bm) ?_)
      rw [ge_ii, decide_eq_false (by omega)]
theorem rest_draw {k : Kd} {a b : Int} (oa : okB k a = true) (b0 : 0 ≤ b) (za : sz a ≤ 90) (zb : sz b ≤ 90) : ∃ r : Int, f_law_rest [dK k, dI a, dI b] = .done (.int r) ∧ tellB k (.int r) (.int b) = true ∧ sz r ≤ 90 := by
  by_cases z : b = 0
  · subst z
    refine ⟨a, ?_, by simp [tellB, oa], za⟩
    simp [f_law_rest, runF, b_law_rest, tmIte, List.replicate]
  · cases k
    · have e2 := mod_ii (i := a) (j := b) (by omega)
      have h1 := Int.emod_nonneg a z
      have h2 := Int.emod_lt_of_pos a (show 0 < b by omega)
      refine ⟨a % b, ?_, ?_, ?_⟩
      · simp [f_law_rest, runF, b_law_rest, tmIte, List.replicate, z, e2]
      · simp [tellB, okB, b0, inB', h1, h2]
      · have hb : b.natAbs < 2 ^ 90 := Gf.bl_le.mp zb
        exact sz_bd (by omega)
    · have a0 : 0 ≤ a := of_decide_eq_true oa
      obtain ⟨n, rfl⟩ := Int.eq_ofNat_of_zero_le a0
      obtain ⟨m, rfl⟩ := Int.eq_ofNat_of_zero_le b0
      rw [sz_nat] at za zb
      obtain ⟨r, hr, hlt⟩ := rest_loop m (by omega) (by omega) (dK .B) (dI (n : Int)) 100000 n (by omega) (by omega)
      refine ⟨(r : Int), ?_, ?_, by rw [sz_nat]; omega⟩
      · have z' : ¬ m = 0 := by omega
        simp [f_law_rest, runF, b_law_rest, tmIte, List.replicate, z']
        rw [hr]
        rfl
      · simp only [tellB, okB, inB', sz_nat]
        simp
        exact .inr (decide_eq_true hlt)
structure Nms (ns : List Str) : Prop where
  nd : ns.Nodup
  two : 2 ≤ ns.length
  few : ns.length ≤ 10
  ok : ∀ x ∈ ns, PyData.strOk x = true ∧ x.length ≤ 6 ∧ nm x.cps.toList = true
/-- a line that was drawn -/
structure LnD (k : Kd) (ns : List Str) (d : PyData) : Prop where
  ex : ∃ (x y : Str) (a b : Int), d = .tuple [.str x, .str y, .int a, .int b] ∧ x ∈ ns ∧ y ∈ ns ∧ x ≠ y ∧ tellB k (.int a) (.int b) = true ∧ sz a ≤ 90 ∧ sz b ≤ 90
theorem LnD.line {k : Kd} {ns : List Str} {d : PyData} (h : LnD k ns d) (hn : Nms ns) : lineB k d = true := by
  obtain ⟨x, y, a, b, rfl, hx, hy, hxy, ht, _, _⟩ := h.ex
  have h1 : nameB (.str x) = true := (hn.ok x hx).2.2
  have h2 : nameB (.str y) = true := (hn.ok y hy).2.2
  have h3 : PyData.eqv (.str x) (.str y) = false := by rw [eqv_str, beq_eq_false_iff_ne]; exact hxy
  show (nameB (.str x) && (nameB (.str y) && (!PyData.eqv (.str x) (.str y) && tellB k (.int a) (.int b)))) = true
  rw [h1, h2, h3, ht]; rfl
theorem LnD.sz {k : Kd} {ns : List Str} {d : PyData} (h : LnD k ns d) (hn : Nms ns) : Sz 7695 1 d := by
  obtain ⟨x, y, a, b, rfl, hx, hy, _, _, za, zb⟩ := h.ex
  refine szd_tup (c := 1921) (p := 0) (N := 4) (fun d hd => ?_) (by show 4 ≤ 4; decide) (by decide)
  simp at hd
  rcases hd with rfl | rfl | rfl | rfl
  · exact (szd_str (hn.ok x hx).2.1 (by decide) (hn.ok x hx).1).mono (by decide) (by decide)
  · exact (szd_str (hn.ok y hy).2.1 (by decide) (hn.ok y hy).1).mono (by decide) (by decide)
  · exact szd_int (by omega)
  · exact szd_int (by omega)
theorem other_ne {i r L : Int} (i0 : 0 ≤ i) (i1 : i < L) (r0 : 0 ≤ r) (r1 : r < L - 1) : 0 ≤ (i + 1 + r) % L ∧ (i + 1 + r) % L < L ∧ (i + 1 + r) % L ≠ i := by
  refine ⟨Int.emod_nonneg _ (by omega), Int.emod_lt_of_pos _ (by omega), ?_⟩
  by_cases h : i + 1 + r < L
  · rw [Int.emod_eq_of_lt (by omega) h]; omega
  · have : i + 1 + r = (i + 1 + r - L) + L * 1 := by omega
    rw [this, Int.add_mul_emod_self_left, Int.emod_eq_of_lt (by omega) (by omega)]; omega
theorem ix_dN {ns : List Str} {z : Int} (h0 : 0 ≤ z) (h1 : z < ns.length) : ∃ x, x ∈ ns ∧ o_ix (dN ns) (.int z) = .done (.str x) ∧ ns[z.toNat]? = some x := by
  obtain ⟨i, rfl⟩ := Int.eq_ofNat_of_zero_le h0
  have hi : i < ns.length := by omega
  exact ⟨ns[i], List.getElem_mem hi, ix_l (by rw [List.getElem?_map, List.getElem?_eq_getElem hi]; rfl), List.getElem?_eq_getElem hi⟩
theorem line_draw {k : Kd} {ns : List Str} (hn : Nms ns) {n : Nat} (hm : 7 ≤ n) : Al (f_law_line [.gen, dK k, .dat (dN ns)]) (fun d m => LnD k ns d ∧ n ≤ m + 7) n := by
  have h2 := hn.two
  have h10 := hn.few
  have szl : ∀ i : Int, 0 ≤ i → i ≤ 10 → sz i ≤ 2000 := fun i h0 h1 => by
    have : sz i ≤ 4 := sz_bd (by omega)
    omega
  refine al_run ?_
  show Al (zSeq _ _ [.gen, dK k, .dat (dN ns), .no, .no, .no]) _ n
  have el : ∀ e : Env, rd 2 e = .done (dN ns) → xCb o_len (aCons (xVar 2) aNil) e = .done (.int (ns.length : Int)) := fun e he => by
    refine e_cb (e_cons (e_var he) e_nil) ?_
    rw [len_l, List.length_map]
  refine a_asgA (al_mono (d_rnd (b := ns.length) rfl (el _ rfl) (by omega) (szl _ (by omega) (by omega)) (by omega)) fun d m h => h) ?_
  rintro d m ⟨i, i0, i1, rfl, rfl⟩
  refine a_asgA (P := fun d m => (∃ j : Int, d = .int j ∧ 0 ≤ j ∧ j < ns.length ∧ j ≠ i) ∧ m = n - 1 - 1) ?_ ?_
  · refine d_op' ?_
    refine al_mono (P := fun d m => (∃ r : Int, d = .int (i + 1 + r) ∧ 0 ≤ r ∧ r < (ns.length : Int) - 1) ∧ m = n - 1 - 1) ?_ ?_
    · have : ∀ (e : Env), xCb o_int (aCons (xOp o_add (xOp o_add (xVar 3) (xC (PyData.int 1))) (xFn f_law_random 2 (aGen 0 (aCons (xOp o_sub (xCb o_len (aCons (xVar 2) aNil)) (xC (PyData.int 1))) aNil)))) aNil) e = (xOp o_add (xOp o_add (xVar 3) (xC (PyData.int 1))) (xFn f_law_random 2 (aGen 0 (aCons (xOp o_sub (xCb o_len (aCons (xVar 2) aNil)) (xC (PyData.int 1))) aNil))) e).bind fun d => o_int [.dat d] := fun e => by
        show ((_ : Tr PyData).bind _).bind _ = _
        rw [Tr.bind_assoc]; rfl
      rw [this]
      refine al_seq (P := fun d m => (∃ r : Int, d = .int (i + 1 + r) ∧ 0 ≤ r ∧ r < (ns.length : Int) - 1) ∧ m = n - 1 - 1) ?_ ?_
      · refine d_op' (al_eq (a := .int (i + 1)) rfl (al_mono (d_rnd (b := (ns.length : Int) - 1) rfl (e_op (el _ rfl) rfl rfl) (by omega) (szl _ (by omega) (by omega)) (by omega)) ?_))
        rintro d m ⟨r, r0, r1, rfl, rfl⟩
        exact al_eq (a := .int (i + 1 + r)) rfl ⟨⟨r, rfl, r0, r1⟩, rfl⟩
      · rintro d m ⟨⟨r, rfl, r0, r1⟩, rfl⟩
        exact al_eq (int_i _) ⟨⟨r, rfl, r0, r1⟩, rfl⟩
    · rintro d m ⟨⟨r, rfl, r0, r1⟩, rfl⟩
      refine al_eq (el _ rfl) (al_eq (mod_ii (by omega)) ⟨⟨_, rfl, ?_⟩, rfl⟩)
      exact other_ne i0 i1 r0 r1
  · rintro d m ⟨⟨j, rfl, j0, j1, hj⟩, rfl⟩
    refine a_asgA (P := fun d m => (∃ b : Int, d = .int b ∧ 0 ≤ b ∧ sz b ≤ 90) ∧ n - 1 - 1 ≤ m + 2) ?_ ?_
    · rw [fng1 (g := f_law_by) (x := .str (ks k)) rfl rfl]
      exact by_draw (by omega)
    · rintro d m ⟨⟨b, rfl, b0, zb⟩, hm2⟩
      obtain ⟨x, hx, e1, g1⟩ := ix_dN i0 i1
      obtain ⟨y, hy, e2, g2⟩ := ix_dN j0 j1
      have hxy : x ≠ y := fun q => by
        subst q
        have l1 : i.toNat < ns.length := by omega
        have l2 : j.toNat < ns.length := by omega
        rw [List.getElem?_eq_getElem l1] at g1
        rw [List.getElem?_eq_getElem l2] at g2
        have q2 := (Option.some.inj g1).trans (Option.some.inj g2).symm
        rcases Nat.lt_trichotomy i.toNat j.toNat with w | w | w
        · exact List.pairwise_iff_getElem.mp hn.nd _ _ l1 l2 w q2
        · omega
        · exact List.pairwise_iff_getElem.mp hn.nd _ _ l2 l1 w q2.symm
      refine d_ret ?_
      have split : ∀ e : Env, rd 2 e = .done (dN ns) → rd 3 e = .done (.int i) → rd 4 e = .done (.int j) → rd 5 e = .done (.int b) → rd 1 e = .done (.str (ks k)) → rdGen 0 e = .done () →
          xTup (aCons (xOp o_ix (xVar 2) (xVar 3)) (aCons (xOp o_ix (xVar 2) (xVar 4)) (aCons (xFn f_law_rest 3 (aCons (xVar 1) (aCons (xFn f_law_number 2 (aGen 0 (aCons (xVar 1) aNil))) (aCons (xVar 5) aNil)))) (aCons (xVar 5) aNil)))) e =
          (f_law_number [.gen, dK k]).bind fun z => (f_law_rest [dK k, .dat z, dI b]).bind fun r => .done (.tuple [.str x, .str y, r, .int b]) := fun e h2 h3 h4 h5 h1 h0 => by
        simp [h0, h1, h2, h3, h4, h5, e1, e2, Tr.bind_assoc]
      rw [split _ rfl rfl rfl rfl rfl rfl]
      refine al_seq (number_draw (k := k) (by omega)) ?_
      rintro z m2 ⟨⟨a, rfl, oa, za⟩, hm3⟩
      obtain ⟨r, er, ht, zr⟩ := rest_draw oa b0 za zb
      refine al_seq (P := fun d m => d = .int r ∧ m = m2) (al_eq er ⟨rfl, rfl⟩) ?_
      rintro d m ⟨rfl, rfl⟩
      exact al_eq rfl (.inl ⟨_, rfl, ⟨⟨x, y, r, b, rfl, hx, hy, hxy, ht, zr, zb⟩⟩, by omega⟩)
end Hr
namespace Hr
open PySem PySem.Spec PyProof.Rows L2 Evl
/-! ### drawn lines, words, odd values -/
theorem add_ll {xs ys : List PyData} (h : xs.length + ys.length ≤ 100000) : o_add (.list xs) (.list ys) = .done (.list (xs ++ ys)) := if_pos h
theorem d_lcI {f : List Sl → Tr (List PyData)} {mr : As_} {mg : Gs_} {mt : Ts_} {me : Ex_} {vs : List Nat} {e : Env} {n : Nat} {P : PyData → Nat → Prop} (h : Al (mr e) (fun es m => ∃ ds, f es = .done ds ∧ Al (compL mg mt me vs ds e) (fun ys k => P (.list ys) k) m) n) : Al (xEl (xLc (iCall f mr) mg mt me vs) e) P n := by
  have : xEl (xLc (iCall f mr) mg mt me vs) e = (mr e).bind fun es => (f es).bind fun ds => (compL mg mt me vs ds e).bind fun ys => .done (.list ys) := by
    show ((((mr e).bind f).bind _).bind _) = _
    rw [Tr.bind_assoc, Tr.bind_assoc]
  rw [this]
  refine al_seq h ?_
  rintro es m ⟨ds, h1, h2⟩
  rw [h1, Tr.bind_done]
  refine al_seq h2 ?_
  intro ys k hy
  simpa using hy
theorem d_cons1 {ma : Ex_} {e : Env} {n : Nat} {R : List Sl → Nat → Prop} (h : Al (ma e) (fun d m => R [.dat d] m) n) : Al (aCons ma aNil e) R n := by
  have : aCons ma aNil e = (ma e).bind fun d => .done [.dat d] := rfl
  rw [this]
  exact al_seq h fun d m hd => by simpa using hd
theorem comp_one {ds : List PyData} {mg : Gs_} {mt : Ts_} {me : Ex_} {vs : List Nat} {e : Env} {n : Nat} {P : List PyData → Nat → Prop} (hl : ds.length ≤ 100000) (h : Al (compM mg mt me ds (noM vs e)) P n) : Al (compL mg mt me vs ds e) P n := by
  unfold compL
  rw [if_pos hl]; exact h
theorem lines_draw {k : Kd} {ns : List Str} (hn : Nms ns) {n : Nat} (hm : 50 ≤ n) : Al (f_law_lines [.gen, dK k, .dat (dN ns), dI 6]) (fun d m => (∃ ds : List PyData, d = .list ds ∧ ds.length ≤ 6 ∧ ∀ x ∈ ds, LnD k ns x) ∧ n ≤ m + 50) n := by
  refine al_run ?_
  show Al (zRet _ [.gen, dK k, .dat (dN ns), dI 6, .no]) _ n
  refine d_ret (d_lcI (d_cons1 (al_mono (d_rnd (b := 7) rfl rfl (by decide) (by decide +kernel) (by omega)) ?_)))
  rintro d m ⟨z, z0, z1, rfl, rfl⟩
  have hl : (spanD 0 z.toNat).length = z.toNat := spanL 0 z.toNat
  refine ⟨spanD 0 z.toNat, rng1_ok (by omega) (by omega), comp_one (by omega) ?_⟩
  refine al_mono (al_of (comp_all_draw (fun x : PyData => x) (LnD k ns) 7 (spanD 0 z.toNat) (n - 1) fun d hd => ⟨_, rfl, fun m hm2 => ?_⟩)) ?_
  · have e : xFn f_law_line 3 (aGen 0 (aCons (xVar 1) (aCons (xVar 2) aNil))) ((noM [4] [.gen, dK k, .dat (dN ns), dI 6, .no]).set 4 (.dat d)) = f_law_line [.gen, dK k, .dat (dN ns)] := e_fn (e_gen rfl (e_cons (d := .str (ks k)) rfl (e_cons (d := dN ns) rfl e_nil))) rfl rfl
    show (xFn f_law_line 3 (aGen 0 (aCons (xVar 1) (aCons (xVar 2) aNil))) ((noM [4] [.gen, dK k, .dat (dN ns), dI 6, .no]).set 4 (.dat d))).all _ m
    rw [e]
    refine (al_mono (line_draw hn (by omega)) ?_).all
    rintro d m ⟨h1, h2⟩
    exact ⟨d, rfl, h1, h2⟩
  · rintro ys m ⟨xs, rfl, h1, h2, h3⟩
    refine .inl ⟨_, rfl, ⟨xs, by rw [List.map_id'], by omega, h2⟩, ?_⟩
    have : 7 * (spanD 0 z.toNat).length ≤ 42 := by omega
    omega
abbrev ALP : Str := "abcdefghijklmnopqrstuvwxyz0123456789ABZ_- \n\t"
theorem alp_ok : ALP.cps.toList.length = 44 ∧ ALP.length ≤ 100000 ∧ ∀ c ∈ ALP.cps.toList, c < 0x110000 := by decide +kernel
theorem str_app_ok {x y : Str} (h1 : PyData.strOk x = true) (h2 : PyData.strOk y = true) : PyData.strOk (x ++ y) = true := by rw [ok_app, h1, h2]; rfl
theorem word_draw {n : Nat} (hn : 11 ≤ n) : Al (f_law_word [.gen]) (fun d m => (∃ x : Str, d = .str x ∧ x.length ≤ 20 ∧ PyData.strOk x = true) ∧ n ≤ m + 11) n := by
  refine al_run ?_
  show Al (zSeq _ _ [.gen, .no, .no]) _ n
  refine a_asgA (P := fun d m => (∃ x : Str, d = .str x ∧ x.length ≤ 5 ∧ PyData.strOk x = true) ∧ m = n - 1) ?_ ?_
  · refine d_op' (al_eq (a := .list [.str "", .str "", .str "by", .str "is", .str "hours"]) ?_ (al_mono (d_rnd (b := 5) rfl rfl (by decide) (by decide +kernel) (by omega)) ?_))
    · exact e_lst (e_cons rfl (e_cons rfl (e_cons rfl (e_cons rfl (e_cons rfl e_nil))))) rfl
    · rintro d m ⟨z, z0, z1, rfl, rfl⟩
      obtain ⟨d, hd, e⟩ := ix_of (xs := [.str "", .str "", .str "by", .str "is", .str "hours"]) z0 z1
      refine al_eq e ⟨?_, rfl⟩
      simp at hd
      rcases hd with rfl | rfl | rfl | rfl <;> exact ⟨_, rfl, by decide +kernel, by decide +kernel⟩
  · rintro d m ⟨⟨x, rfl, hx, hs⟩, rfl⟩
    refine al_seq (P := fun o m => (∃ x s, o = .nx [.gen, .dat (.str x), s] ∧ x.length ≤ 14 ∧ PyData.strOk x = true) ∧ n - 1 ≤ m + 10) ?_ ?_
    · have : ∀ (mi : Is_) (mg : Gs_) (ms : Ss_) (e : Env), zFor mi mg ms e = (mi e).bind fun ds => forM (loopBody mg ms) ds e := fun _ _ _ _ => rfl
      rw [this]
      refine al_seq (P := fun ds m => ds.length ≤ 9 ∧ m = n - 1 - 1) ?_ ?_
      · have : ∀ (f : List Sl → Tr (List PyData)) (mr : As_) (e : Env), iCall f mr e = (mr e).bind f := fun _ _ _ => rfl
        rw [this]
        refine al_seq (P := fun es m => (∃ z : Int, es = [dI z] ∧ 0 ≤ z ∧ z < 10) ∧ m = n - 1 - 1) (d_cons1 (al_mono (d_rnd (b := 10) rfl rfl (by decide) (by decide +kernel) (by omega)) ?_)) ?_
        · rintro d m ⟨z, z0, z1, rfl, rfl⟩; exact ⟨⟨z, rfl, z0, z1⟩, rfl⟩
        · rintro es m ⟨⟨z, rfl, z0, z1⟩, rfl⟩
          refine al_eq (rng1_ok (by omega) (by omega)) ⟨?_, rfl⟩
          rw [spanL]; omega
      · rintro ds m ⟨hl, rfl⟩
        refine al_mono (al_forM (fun i e m => (∃ x s, e = [.gen, .dat (.str x), s] ∧ x.length ≤ 5 + i ∧ PyData.strOk x = true) ∧ n - 1 - 1 ≤ m + i) ⟨⟨x, .no, rfl, by omega, hs⟩, by omega⟩ ?_) ?_
        · rintro i d e m hi ⟨⟨x, s, rfl, hx, hs⟩, hm⟩
          have hlt : i < ds.length := (List.getElem?_eq_some_iff.mp hi).1
          show Al (zAsg _ (tgName 1) [.gen, .dat (.str x), .dat d]) _ m
          have : ∀ (me : Ex_) (e : Env), zAsg me (tgName 1) e = (me e).bind fun d => .done (.nx (e.set 1 (.dat d))) := fun _ _ => rfl
          rw [this]
          refine al_seq (P := fun d m' => (∃ y : Str, d = .str y ∧ y.length ≤ 5 + (i + 1) ∧ PyData.strOk y = true) ∧ m' = m - 1) ?_ ?_
          · refine d_op' (al_eq (a := .str x) rfl (d_op' (al_eq (a := .str ALP) rfl (al_mono (d_rnd (b := 44) rfl rfl (by decide) (by decide +kernel) (by omega)) ?_))))
            rintro d2 m2 ⟨z, z0, z1, rfl, rfl⟩
            obtain ⟨j, rfl⟩ := Int.eq_ofNat_of_zero_le z0
            have hj : j < ALP.cps.toList.length := by rw [alp_ok.1]; omega
            have e1 := ix_S (x := ALP) alp_ok.2.1 (List.getElem?_eq_getElem hj)
            refine al_eq e1 ?_
            have hok : PyData.strOk (mkS [ALP.cps.toList[j]]) = true := ok_mk fun c hc => by
              rw [List.mem_singleton] at hc; subst hc
              exact alp_ok.2.2 _ (List.getElem_mem hj)
            have l1 : (mkS [ALP.cps.toList[j]]).length = 1 := len_S _
            generalize ALP.cps.toList[j] = c at *
            have e2 : o_add (.str x) (.str (mkS [c])) = .done (.str (x ++ mkS [c])) := if_pos (by omega)
            exact al_eq e2 ⟨⟨_, rfl, by rw [strLen_append, l1]; omega, str_app_ok hs hok⟩, rfl⟩
          · rintro d2 m2 ⟨⟨y, rfl, hy, hys⟩, rfl⟩
            rw [al_done]
            exact ⟨_, rfl, ⟨y, .dat d, rfl, hy, hys⟩, by omega⟩
        · rintro o m ⟨e, rfl, ⟨y, s, rfl, hy, hys⟩, hm⟩
          exact ⟨⟨y, s, rfl, by omega, hys⟩, by omega⟩
    · rintro o m ⟨⟨y, s, rfl, hy, hys⟩, hm⟩
      show Al ((zRet (xVar 1)) [.gen, .dat (.str y), s]) _ m
      rw [e_ret (d := .str y) rfl, al_done]
      exact .inl ⟨_, rfl, ⟨y, rfl, by omega, hys⟩, by omega⟩

/-! odd values -/
theorem forM_idx {body : PyData → Env → Tr Out} (I : Nat → Env → Prop) : ∀ (ds : List PyData) (j : Nat) (e : Env), I j e → (∀ i d e, ds[i]? = some d → I (j + i) e → ∃ e', body d e = .done (.nx e') ∧ I (j + i + 1) e') → ∃ e', forM body ds e = .done (.nx e') ∧ I (j + ds.length) e'
  | [], j, e, h, _ => ⟨e, for_nil, h⟩
  | d :: ds, j, e, h, hb => by
    obtain ⟨e', h1, h2⟩ := hb 0 d e rfl h
    obtain ⟨e2, h3, h4⟩ := forM_idx I ds (j + 1) e' h2 fun i d e hi he => by
      have := hb (i + 1) d e hi (by rw [show j + (i + 1) = j + 1 + i by omega]; exact he)
      rw [show j + (i + 1) + 1 = j + 1 + i + 1 by omega] at this
      exact this
    refine ⟨e2, by rw [for_nx h1, h3], ?_⟩
    rw [List.length_cons, show j + (ds.length + 1) = j + 1 + ds.length by omega]
    exact h4
theorem e_asgOwn {ml : Is_} {i : Nat} {e : Env} {ds : List PyData} (h : ml e = .done ds) : zAsgOwn ml i e = .done (.nx (e.set i (.own ds))) := by show (ml e).bind _ = _; rw [h]; rfl
def oddH : List PyData := [.none, .bool true, .bool false, .str "", .str "A", .str "a b", .list [], .dict [], .tuple [], .str "aB", .str "x01", .str "x00", .str "x0", .str "x1000", .str "abcdefg", .int 7, .int (-1), .int 100000000000000000000000000000, .list [.str "a"], .tuple [.str "a"]]
theorem oddH_sz : ∀ x ∈ oddH, Sz 1921 1 x := by decide +kernel
theorem oddH_len : oddH.length = 20 := rfl
/-- the parts of a line -/
structure Prt (l : List PyData) (b : Int) : Prop where
  ex : ∃ p q r, l = [p, q, r, .int b]
  zb : sz b ≤ 90
  zs : ∀ x ∈ l, Sz 1921 0 x
theorem ixN_4 {j : Nat} (h : j < 4) : ixN 4 (j : Int) = some j := by
  have : j = 0 ∨ j = 1 ∨ j = 2 ∨ j = 3 := by omega
  rcases this with rfl | rfl | rfl | rfl <;> rfl
theorem odd_step {p q r : PyData} {b : Int} {acc : List PyData} {j : Nat} (hj : j < 4) (hacc : acc.length < 100000) (x o5 : PyData) (s6 : Sl) (s2 : Sl) :
    l_law_odd_1 [.gen, .dat (.tuple [p, q, r, .int b]), s2, .own acc, dI (j : Int), .dat x, s6] = .done (.nx [.gen, .dat (.tuple [p, q, r, .int b]), s2, .own (acc ++ [.tuple ([p, q, r, .int b].set j x)]), dI (j : Int), .dat x, .dat (.list ([p, q, r, .int b].set j x))]) := by
  have e1 := ixN_4 hj
  generalize hL : [p, q, r, .int b].set j x = L at *
  have hL' : ([p, q, r, PyData.int b].set j x) = L := hL
  simp [l_law_odd_1, e1, hL', frz, hacc, o_tuple]
structure OdI (l : List PyData) (c : Nat) (e : Env) : Prop where
  ex : ∃ acc s4 s5 s6, e = [.gen, .dat (.tuple l), .dat (.list oddH), .own acc, s4, s5, s6] ∧ acc.length = c ∧ ∀ x ∈ acc, Sz 11000 2 x
theorem set_mem {α : Type} {l : List α} {j : Nat} {x y : α} (h : y ∈ l.set j x) : y ∈ l ∨ y = x := List.mem_or_eq_of_mem_set h
theorem odd_val {l : List PyData} {b : Int} (h : Prt l b) : ∃ ds : List PyData, f_law_odd [.gen, .dat (.tuple l)] = .done (.list ds) ∧ ds.length = 124 ∧ ∀ x ∈ ds, Sz 11000 2 x := by
  obtain ⟨p, q, r, rfl⟩ := h.ex
  have hsz := h.zs
  have zb := h.zb
  have e29 := pow_29
  have h1 : (xEl (xLst (aCons (xC PyData.none) (aCons (xC (PyData.bool true)) (aCons (xC (PyData.bool false)) (aCons (xC (PyData.str "")) (aCons (xC (PyData.str "A")) (aCons (xC (PyData.str "a b")) (aCons (xEl (xLst aNil)) (aCons xD0 (aCons (xTup aNil) (aCons (xC (PyData.str "aB")) (aCons (xC (PyData.str "x01")) (aCons (xC (PyData.str "x00")) (aCons (xC (PyData.str "x0")) (aCons (xC (PyData.str "x1000")) (aCons (xC (PyData.str "abcdefg")) (aCons (xC (PyData.int 7)) (aCons (xUn o_neg (xC (PyData.int 1))) (aCons (xOp o_pow (xC (PyData.int 10)) (xC (PyData.int 29))) (aCons (xEl (xLst (aCons (xC (PyData.str "a")) aNil))) (aCons (xTup (aCons (xC (PyData.str "a")) aNil)) aNil)))))))))))))))))))))) [.gen, .dat (.tuple [p, q, r, .int b]), .no, .no, .no, .no, .no] = .done (.list oddH) := by
    refine e_lst (e_cons rfl (e_cons rfl (e_cons rfl (e_cons rfl (e_cons rfl (e_cons rfl (e_cons rfl (e_cons rfl (e_cons rfl (e_cons rfl (e_cons rfl (e_cons rfl (e_cons rfl (e_cons rfl (e_cons rfl (e_cons rfl (e_cons rfl (e_cons (e_op rfl rfl e29) (e_cons rfl (e_cons rfl e_nil)))))))))))))))))))) ?_
    rfl
  have h2 : (xCat (xVar 2) (xEl (xLst (aCons (xCb o_list (aCons (xVar 1) aNil)) (aCons (xSl (xVar 1) pNo (pSo (xC (PyData.int 3)))) (aCons (xOp o_add (xVar 1) (xTup (aCons (xC (PyData.int 0)) aNil))) (aCons (xC (PyData.str "line")) aNil))))))) [.gen, .dat (.tuple [p, q, r, .int b]), .dat (.list oddH), .no, .no, .no, .no] =
      .done (oddH ++ [.list [p, q, r, .int b], .tuple [p, q, r], .tuple [p, q, r, .int b, .int 0], .str "line"]) := rfl
  have hw : ∀ x ∈ oddH ++ [.list [p, q, r, .int b], .tuple [p, q, r], .tuple [p, q, r, .int b, .int 0], .str "line"], Sz 11000 2 x := fun x hx => by
    have h0 : Sz 1921 0 (.int 0) := by decide +kernel
    have hp := hsz p (by simp); have hq := hsz q (by simp); have hr := hsz r (by simp); have hb := hsz (.int b) (by simp)
    rcases List.mem_append.mp hx with hx | hx
    · exact (oddH_sz x hx).mono (by decide) (by decide)
    · simp at hx
      rcases hx with rfl | rfl | rfl | rfl
      · exact (szd_list (N := 4) hsz (by show 4 ≤ 4; decide) (by decide)).mono (by decide) (by decide)
      · exact (szd_tup (N := 4) (c := 1921) (p := 0) (fun y hy => hsz y (by simp at hy ⊢; rcases hy with rfl | rfl | rfl <;> simp)) (by show 3 ≤ 4; decide) (by decide)).mono (by decide) (by decide)
      · refine (szd_tup (N := 5) (c := 1921) (p := 0) (fun y hy => ?_) (by show 5 ≤ 5; decide) (by decide)).mono (by decide) (by decide)
        simp at hy
        rcases hy with rfl | rfl | rfl | rfl | rfl
        · exact hp
        · exact hq
        · exact hr
        · exact hb
        · exact h0
      · decide +kernel
  have inner : ∀ (i : Nat) (e : Env), i < 4 → OdI [p, q, r, .int b] (24 + 25 * i) e → ∃ e', loopBody (tgName 4) l_law_odd_2 (.int (0 + (i : Int))) e = .done (.nx e') ∧ OdI [p, q, r, .int b] (24 + 25 * (i + 1)) e' := fun i e hi he => by
    obtain ⟨acc, s4, s5, s6, rfl, hl, hacc⟩ := he.ex
    show ∃ e', l_law_odd_2 [.gen, .dat (.tuple [p, q, r, .int b]), .dat (.list oddH), .own acc, dI (0 + (i : Int)), s5, s6] = .done (.nx e') ∧ _
    rw [Int.zero_add]
    have es : iSeq itL (xOp o_add (xVar 2) (xEl (xLst (aCons (xOp o_ix (xVar 1) (xC (PyData.int 0))) (aCons (xOp o_ix (xVar 1) (xC (PyData.int 1))) (aCons (xOp o_ix (xVar 1) (xC (PyData.int 3))) (aCons (xOp o_sub (xOp o_ix (xVar 1) (xC (PyData.int 3))) (xC (PyData.int 1))) (aCons (xOp o_sub (xC (PyData.int 0)) (xC (PyData.int 5))) aNil)))))))) [.gen, .dat (.tuple [p, q, r, .int b]), .dat (.list oddH), .own acc, dI (i : Int), s5, s6] = .done (oddH ++ [p, q, .int b, .int (b - 1), .int (-5)]) := rfl
    have hits : ∀ x ∈ oddH ++ [p, q, .int b, .int (b - 1), .int (-5)], Sz 1921 1 x := fun x hx => by
      rcases List.mem_append.mp hx with hx | hx
      · exact oddH_sz x hx
      · simp at hx
        rcases hx with rfl | rfl | rfl | rfl | rfl
        · exact (hsz _ (by simp)).mono (by decide) (by decide)
        · exact (hsz _ (by simp)).mono (by decide) (by decide)
        · exact (hsz (.int b) (by simp)).mono (by decide) (by decide)
        · refine (szd_int ?_).mono (by decide) (by decide)
          have hb : b.natAbs < 2 ^ 90 := Gf.bl_le.mp zb
          have : (b - 1).natAbs < 2 ^ 92 := by
            have p : (2 : Nat) ^ 92 = 4 * 2 ^ 90 := by decide +kernel
            rw [p]; omega
          exact Nat.le_trans (sz_bd this) (by decide)
        · decide +kernel
    obtain ⟨e', h3, h4⟩ := forM_idx (body := loopBody (tgName 5) l_law_odd_1) (fun c e => ∃ acc s5 s6, e = [.gen, .dat (.tuple [p, q, r, .int b]), .dat (.list oddH), .own acc, dI (i : Int), s5, s6] ∧ acc.length = 24 + 25 * i + c ∧ ∀ x ∈ acc, Sz 11000 2 x)
      (oddH ++ [p, q, .int b, .int (b - 1), .int (-5)]) 0 [.gen, .dat (.tuple [p, q, r, .int b]), .dat (.list oddH), .own acc, dI (i : Int), s5, s6] ⟨acc, s5, s6, rfl, hl, hacc⟩ (fun c x e hc he => by
        obtain ⟨acc, s5, s6, rfl, hl, hacc⟩ := he
        have hx : x ∈ oddH ++ [p, q, .int b, .int (b - 1), .int (-5)] := List.mem_of_getElem? hc
        have hlt : c < (oddH ++ [p, q, .int b, .int (b - 1), .int (-5)]).length := (List.getElem?_eq_some_iff.mp hc).1
        have h25 : (oddH ++ [p, q, .int b, .int (b - 1), .int (-5)]).length = 25 := rfl
        refine ⟨_, odd_step hi (by omega) x x s6 (.dat (.list oddH)), _, _, _, rfl, by rw [List.length_append]; simp; omega, fun y hy => ?_⟩
        rcases List.mem_append.mp hy with hy | hy
        · exact hacc y hy
        · rw [List.mem_singleton] at hy
          subst hy
          refine (szd_tup (N := 4) (c := 1921) (p := 1) (fun y hy => ?_) (by rw [List.length_set]; show 4 ≤ 4; decide) (by decide)).mono (by decide) (by decide)
          rcases set_mem hy with hy | rfl
          · exact (hsz y hy).mono (by decide) (by decide)
          · exact hits _ hx)
    obtain ⟨acc', s5', s6', rfl, hl', hacc'⟩ := h4
    refine ⟨_, (e_for es).trans h3, ⟨acc', _, s5', s6', rfl, ?_, hacc'⟩⟩
    rw [hl']
    show 24 + 25 * i + (0 + 25) = _
    omega
  obtain ⟨e', h3, h4⟩ := forM_idx (body := loopBody (tgName 4) l_law_odd_2) (fun i e => OdI [p, q, r, .int b] (24 + 25 * i) e) (spanD 0 4) 0 [.gen, .dat (.tuple [p, q, r, .int b]), .dat (.list oddH), .own (oddH ++ [.list [p, q, r, .int b], .tuple [p, q, r], .tuple [p, q, r, .int b, .int 0], .str "line"]), .no, .no, .no] ⟨_, _, _, _, rfl, rfl, hw⟩ (fun i d e hi he => by
    obtain ⟨hlt, rfl⟩ := span_at hi
    rw [Nat.zero_add] at he ⊢
    exact inner i e hlt he)
  obtain ⟨acc, s4, s5, s6, rfl, hl, hacc⟩ := h4.ex
  refine ⟨acc, ?_, by rw [hl]; rfl, hacc⟩
  show ((b_law_odd [.gen, .dat (.tuple [p, q, r, .int b]), .no, .no, .no, .no, .no]).bind fin) = _
  have : b_law_odd [.gen, .dat (.tuple [p, q, r, .int b]), .no, .no, .no, .no, .no] = .done (.rt (.list acc)) := by
    unfold b_law_odd
    rw [e_seq (e_asg h1)]
    simp only [List.set_cons_succ, List.set_cons_zero]
    rw [e_seq (e_asgOwn h2)]
    simp only [List.set_cons_succ, List.set_cons_zero]
    have h4 : iCall rng1 (aCons (xC (PyData.int 4)) aNil) [.gen, .dat (.tuple [p, q, r, .int b]), .dat (.list oddH), .own (oddH ++ [.list [p, q, r, .int b], .tuple [p, q, r], .tuple [p, q, r, .int b, .int 0], .str "line"]), .no, .no, .no] = .done (spanD 0 4) := e_rng (es := [dI 4]) rfl (rng1_ok (j := 4) (by decide) (by decide))
    rw [e_seq ((e_for h4).trans h3), e_frz]
    rfl
  rw [this]; rfl
end Hr
namespace Hr
open PySem PySem.Spec PyProof.Rows L2 Evl
/-! ### the names of lines -/
def nmsOf : PyData → List Str
  | .tuple (.str x :: .str y :: _) => [x, y]
  | _ => []
def addN (acc : List Str) (d : PyData) : List Str := acc ++ (nmsOf d).filter fun z => !decide (z ∈ acc)
def namesN (acc : List Str) (ds : List PyData) : List Str := ds.foldl addN acc
/-- a line with two names -/
structure Ln2 (d : PyData) : Prop where
  ex : ∃ (x y : Str) (a b : PyData), d = .tuple [.str x, .str y, a, b] ∧ x ≠ y ∧ PyData.strOk x = true ∧ PyData.strOk y = true
theorem LnD.two {k : Kd} {ns : List Str} {d : PyData} (h : LnD k ns d) (hn : Nms ns) : Ln2 d := by
  obtain ⟨x, y, a, b, rfl, hx, hy, hxy, _, _, _⟩ := h.ex
  exact ⟨x, y, _, _, rfl, hxy, (hn.ok x hx).1, (hn.ok y hy).1⟩
theorem addN_len {acc : List Str} {d : PyData} : (addN acc d).length ≤ acc.length + 2 := by
  unfold addN
  rw [List.length_append]
  have h1 := List.length_filter_le (fun z => !decide (z ∈ acc)) (nmsOf d)
  have h2 : (nmsOf d).length ≤ 2 := by
    unfold nmsOf
    split <;> simp
  omega
theorem addN_ok {acc : List Str} {d : PyData} (h : Ln2 d) (ha : ∀ x ∈ acc, PyData.strOk x = true) : ∀ x ∈ addN acc d, PyData.strOk x = true := fun x hx => by
  unfold addN at hx
  rcases List.mem_append.mp hx with hx | hx
  · exact ha x hx
  · obtain ⟨y, z, a, b, rfl, _, h1, h2⟩ := h.ex
    have := (List.mem_filter.mp hx).1
    simp [nmsOf] at this
    rcases this with rfl | rfl
    · exact h1
    · exact h2
theorem add_two {acc : List Str} {x y : Str} {a b : PyData} (h : x ≠ y) : addK (addK (acc.map .inr) (.inr x)) (.inr y) = (addN acc (.tuple [.str x, .str y, a, b])).map Sum.inr := by
  unfold addK addN nmsOf
  by_cases h1 : x ∈ acc
  · have e1 : (Sum.inr x : Key) ∈ acc.map Sum.inr := List.mem_map.mpr ⟨x, h1, rfl⟩
    rw [if_pos e1]
    by_cases h2 : y ∈ acc
    · have e2 : (Sum.inr y : Key) ∈ acc.map Sum.inr := List.mem_map.mpr ⟨y, h2, rfl⟩
      rw [if_pos e2]; simp [h1, h2]
    · have e2 : ¬ (Sum.inr y : Key) ∈ acc.map Sum.inr := fun q => h2 (by
        obtain ⟨z, hz, e⟩ := List.mem_map.mp q
        cases e; exact hz)
      rw [if_neg e2]; simp [h1, h2]
  · have e1 : ¬ (Sum.inr x : Key) ∈ acc.map Sum.inr := fun q => h1 (by
      obtain ⟨z, hz, e⟩ := List.mem_map.mp q
      cases e; exact hz)
    rw [if_neg e1]
    by_cases h2 : y ∈ acc
    · have e2 : (Sum.inr y : Key) ∈ acc.map Sum.inr ++ [Sum.inr x] := List.mem_append_left _ (List.mem_map.mpr ⟨y, h2, rfl⟩)
      rw [if_pos e2]; simp [h1, h2]
    · have e2 : ¬ (Sum.inr y : Key) ∈ acc.map Sum.inr ++ [Sum.inr x] := fun q => by
        rcases List.mem_append.mp q with q | q
        · obtain ⟨z, hz, e⟩ := List.mem_map.mp q
          cases e; exact h2 hz
        · rw [List.mem_singleton] at q; cases q; exact h rfl
      rw [if_neg e2]; simp [h1, h2]
/-- the set's road -/
theorem set_road : ∀ (ds : List PyData) (acc : List Str) (L : Sl) , (∀ d ∈ ds, Ln2 d) → acc.length + 2 * ds.length < 4000 →
    goA (tgName 1) yYes (cI (iSeq itT (xSl (xVar 1) pNo (pSo (xC (PyData.int 2))))) (tgName 2) yYes (eS (xVar 2)) [2]) [1, 2] [L, .no, .no] ds (acc.map Sum.inr) = .done ((namesN acc ds).map Sum.inr)
  | [], _, _, _, _ => rfl
  | d :: ds, acc, L, h, hl => by
    obtain ⟨x, y, a, b, rfl, hxy, _, _⟩ := (h _ (List.mem_cons_self ..)).ex
    rw [List.length_cons] at hl
    have hl1 := addN_len (acc := acc) (d := .tuple [.str x, .str y, a, b])
    have ih := set_road ds (addN acc (.tuple [.str x, .str y, a, b])) L (fun d hd => h d (List.mem_cons_of_mem _ hd)) (by omega)
    have e1 : addS (acc.map Sum.inr) (.str x) = .done (addK (acc.map Sum.inr) (.inr x)) := by
      show (if (acc.map Sum.inr : List Key).length < 4000 then _ else _) = _
      rw [if_pos (by rw [List.length_map]; omega)]
    have hk : (addK (acc.map Sum.inr) (.inr x)).length ≤ acc.length + 1 := by
      unfold addK
      split <;> simp
    have e2 : addS (addK (acc.map Sum.inr) (.inr x)) (.str y) = .done (addK (addK (acc.map Sum.inr) (.inr x)) (.inr y)) := by
      show (if (addK (acc.map Sum.inr) (.inr x)).length < 4000 then _ else _) = _
      rw [if_pos (by omega)]
    rw [add_two (a := a) (b := b) hxy] at e2
    have step : (cI (iSeq itT (xSl (xVar 1) pNo (pSo (xC (PyData.int 2))))) (tgName 2) yYes (eS (xVar 2)) [2]) [L, .dat (.tuple [.str x, .str y, a, b]), .no] (acc.map Sum.inr) = .done ((addN acc (.tuple [.str x, .str y, a, b])).map Sum.inr) := by
      show (addS (acc.map Sum.inr) (.str x)).bind _ = _
      rw [e1, Tr.bind_done]
      show (addS (addK (acc.map Sum.inr) (.inr x)) (.str y)).bind _ = _
      rw [e2, Tr.bind_done]
      rfl
    show ((cI (iSeq itT (xSl (xVar 1) pNo (pSo (xC (PyData.int 2))))) (tgName 2) yYes (eS (xVar 2)) [2]) [L, .dat (.tuple [.str x, .str y, a, b]), .no] (acc.map Sum.inr)).bind _ = _
    rw [step, Tr.bind_done]
    exact ih
theorem in_dN {acc : List Str} {x : Str} (ha : ∀ x ∈ acc, PyData.strOk x = true) (hx : PyData.strOk x = true) : o_in not (.str x) (dN acc) = .done (.bool !decide (x ∈ acc)) := by
  show (if shp (.str x) = true ∧ shp (dN acc) = true then Tr.done (PyData.bool (!((acc.map PyData.str).any fun z => PyData.eqv z (.str x)))) else .fail) = _
  rw [if_pos ⟨shp_str hx, shp_dN ha⟩, List.any_map]
  congr 3
  rw [Bool.eq_iff_iff, decide_eq_true_iff, List.any_eq_true]
  constructor
  · rintro ⟨y, hy, e⟩
    have : (y == x) = true := e
    rw [beq_iff_eq] at this
    rw [← this]; exact hy
  · exact fun h => ⟨x, h, by show (x == x) = true; simp⟩
theorem law_step {acc : List Str} {x y : Str} {a b L : PyData} (s2 s3 s4 s5 s6 : Sl) (ha : ∀ x ∈ acc, PyData.strOk x = true) (hx : PyData.strOk x = true) (hy : PyData.strOk y = true) (hl : acc.length < 4000) :
    ∃ s6', loopBody (tgTup 4 (tgCons (tgName 2) (tgCons (tgName 3) (tgCons (tgName 4) (tgCons (tgName 5) tgNil))))) l_law_names_in_1 (.tuple [.str x, .str y, a, b]) [.dat L, .dat (dN acc), s2, s3, s4, s5, s6] = .done (.nx [.dat L, .dat (dN (addN acc (.tuple [.str x, .str y, a, b]))), .dat (.str x), .dat (.str y), .dat a, .dat b, s6']) := by
  refine ⟨s6, ?_⟩
  show l_law_names_in_1 [.dat L, .dat (dN acc), .dat (.str x), .dat (.str y), .dat a, .dat b, s6] = _
  have e : compL (tgName 6) (yB (xOp (o_in not) (xVar 6) (xVar 1))) (xVar 6) [6] ([x, y].map PyData.str) [.dat L, .dat (dN acc), .dat (.str x), .dat (.str y), .dat a, .dat b, s6] = .done (([x, y].filter fun z => !decide (z ∈ acc)).map .str) := by
    refine compL_fm _ _ (fun z => !decide (z ∈ acc)) _ (by simp) (fun z hz => ⟨_, rfl, ?_, fun _ => rfl⟩)
    refine e_B (e_op rfl rfl (in_dN ha ?_))
    simp at hz
    rcases hz with rfl | rfl
    · exact hx
    · exact hy
  refine e_asg (d := dN (addN acc (.tuple [.str x, .str y, a, b]))) (e_op (x := dN acc) rfl (e_lc (ds := [x, y].map PyData.str) rfl e) ?_)
  have h2 : (([x, y].filter fun z => !decide (z ∈ acc)).map PyData.str).length ≤ 2 := by
    rw [List.length_map]
    have := List.length_filter_le (fun z => !decide (z ∈ acc)) [x, y]
    simpa using this
  rw [add_ll (by rw [List.length_map]; omega), ← List.map_append]
  rfl
theorem law_road : ∀ (ds : List PyData) (acc : List Str) (L : PyData) (s2 s3 s4 s5 s6 : Sl), (∀ d ∈ ds, Ln2 d) → (∀ x ∈ acc, PyData.strOk x = true) → acc.length + 2 * ds.length < 4000 →
    ∃ t2 t3 t4 t5 t6, forM (loopBody (tgTup 4 (tgCons (tgName 2) (tgCons (tgName 3) (tgCons (tgName 4) (tgCons (tgName 5) tgNil))))) l_law_names_in_1) ds [.dat L, .dat (dN acc), s2, s3, s4, s5, s6] = .done (.nx [.dat L, .dat (dN (namesN acc ds)), t2, t3, t4, t5, t6])
  | [], _, _, _, _, _, _, _, _, _, _ => ⟨_, _, _, _, _, for_nil⟩
  | d :: ds, acc, L, s2, s3, s4, s5, s6, h, ha, hl => by
    have hd := h _ (List.mem_cons_self ..)
    obtain ⟨x, y, a, b, rfl, hxy, hx, hy⟩ := hd.ex
    rw [List.length_cons] at hl
    have hl1 := addN_len (acc := acc) (d := .tuple [.str x, .str y, a, b])
    obtain ⟨s6', e⟩ := law_step (L := L) (a := a) (b := b) s2 s3 s4 s5 s6 ha hx hy (by omega)
    obtain ⟨t2, t3, t4, t5, t6, ih⟩ := law_road ds (addN acc (.tuple [.str x, .str y, a, b])) L (.dat (.str x)) (.dat (.str y)) (.dat a) (.dat b) s6' (fun d hd => h d (List.mem_cons_of_mem _ hd)) (addN_ok hd ha) (by omega)
    exact ⟨t2, t3, t4, t5, t6, by rw [for_nx e]; exact ih⟩
theorem namesN_ok : ∀ {ds : List PyData} {acc : List Str}, (∀ d ∈ ds, Ln2 d) → (∀ x ∈ acc, PyData.strOk x = true) → ∀ x ∈ namesN acc ds, PyData.strOk x = true
  | [], _, _, ha => ha
  | d :: ds, acc, h, ha => namesN_ok (ds := ds) (fun e he => h e (List.mem_cons_of_mem _ he)) (addN_ok (h d (List.mem_cons_self ..)) ha)
theorem ok_strs (ns : List Str) : okSort (ns.map .str) = true := by
  unfold okSort
  simp only [Bool.and_eq_true, Bool.or_eq_true, List.all_eq_true]
  refine ⟨⟨fun d hd e he => ?_, .inr fun d hd => ?_⟩, fun d hd => ?_⟩
  · obtain ⟨x, _, rfl⟩ := List.mem_map.mp hd
    obtain ⟨y, _, rfl⟩ := List.mem_map.mp he
    rfl
  · obtain ⟨x, _, rfl⟩ := List.mem_map.mp hd
    rfl
  · obtain ⟨x, _, rfl⟩ := List.mem_map.mp hd
    exact decide_eq_true (Nat.zero_le _)
/-- the names of lines, in order -/
def sortN (ds : List PyData) : PyData := .list (sortD ((namesN [] ds).map .str))
theorem names_in_val {ds : List PyData} (h : ∀ d ∈ ds, Ln2 d) (hl : ds.length ≤ 1000) : f_names_in [.dat (.list ds)] = .done (sortD ((namesN [] ds).map .str)) := by
  have e := set_road ds [] (.dat (.list ds)) h (by simp; omega)
  have e1 : (xSortX (xCo (iSeq itL (xVar 0)) (tgName 1) yYes (cI (iSeq itT (xSl (xVar 1) pNo (pSo (xC (PyData.int 2))))) (tgName 2) yYes (eS (xVar 2)) [2]) [1, 2] [])) [.dat (.list ds), .no, .no] = .done (sortD ((namesN [] ds).map .str)) := by
    show (goA (tgName 1) yYes (cI (iSeq itT (xSl (xVar 1) pNo (pSo (xC (PyData.int 2))))) (tgName 2) yYes (eS (xVar 2)) [2]) [1, 2] [.dat (.list ds), .no, .no] ds []).bind sortX = _
    rw [show ([] : List Key) = ([] : List Str).map Sum.inr from rfl, e, Tr.bind_done]
    unfold sortX
    have : ((namesN [] ds).map Sum.inr).map kD = (namesN [] ds).map PyData.str := by rw [List.map_map]; rfl
    rw [this, if_pos (ok_strs _)]
  exact e1
theorem law_names_in_val {ds : List PyData} (h : ∀ d ∈ ds, Ln2 d) (hl : ds.length ≤ 1000) : f_law_names_in [.dat (.list ds)] = .done (sortN ds) := by
  obtain ⟨t2, t3, t4, t5, t6, e⟩ := law_road ds [] (.list ds) .no .no .no .no .no h (by simp) (by simp; omega)
  have e2 : o_sortL [.dat (dN (namesN [] ds))] = .done (sortD ((namesN [] ds).map .str)) := by
    show (if okSort ((namesN [] ds).map .str) = true then _ else _) = _
    rw [if_pos (ok_strs _)]
  have e0 : zAsg (xEl (xLst aNil)) (tgName 1) [.dat (.list ds), .no, .no, .no, .no, .no, .no] = .done (.nx [.dat (.list ds), .dat (dN []), .no, .no, .no, .no, .no]) := e_asg rfl
  have : b_law_names_in [.dat (.list ds), .no, .no, .no, .no, .no, .no] = .done (.rt (sortN ds)) := by
    unfold b_law_names_in
    refine (e_seq e0).trans ((e_seq ((e_for rfl).trans e)).trans (e_ret ?_))
    show (o_sortL [.dat (dN (namesN [] ds))]).bind _ = _
    rw [e2]; rfl
  show (b_law_names_in [.dat (.list ds), .no, .no, .no, .no, .no, .no]).bind fin = _
  rw [this]; rfl
theorem sortN_shp {ds : List PyData} (h : ∀ d ∈ ds, Ln2 d) : shp (sortN ds) = true := by
  have hs : ∀ d ∈ sortD ((namesN [] ds).map .str), ∃ x, d = PyData.str x ∧ PyData.strOk x = true := fun d hd => by
    obtain ⟨x, hx, rfl⟩ := List.mem_map.mp ((sortD_perm _).mem_iff.mp hd)
    exact ⟨x, rfl, namesN_ok h (by simp) x hx⟩
  unfold sortN
  generalize sortD ((namesN [] ds).map .str) = L at *
  have h1 : PyData.canLayAll0 L = true := by
    clear h
    induction L with
    | nil => rfl
    | cons d L ih =>
      obtain ⟨x, rfl, hx⟩ := hs d (List.mem_cons_self ..)
      show (PyData.strOk x && PyData.canLayAll0 L) = true
      rw [hx, ih fun e he => hs e (List.mem_cons_of_mem _ he)]; rfl
  have h2 := all_dep (B := 0) (ds := L) fun d hd => by
    obtain ⟨x, rfl, _⟩ := hs d hd; exact Nat.le_refl _
  show (PyData.canLayAll0 L && decide (PyData.depthAll L + 1 ≤ 64)) = true
  rw [h1, Bool.true_and]; exact decide_eq_true (by omega)
theorem eq_self' {f : Bool → Bool} {d : PyData} (h : shp d = true) : oEq f d d = .done (.bool (f true)) := by
  rw [oEq_ok h h, SeqAt.eqv_refl d (shp_can h)]
theorem unknowns_val {k : Kd} {ds : List PyData} (h : ∀ d ∈ ds, Ln2 d) (hl : ds.length ≤ 1000) (hg : gd (.tuple [.str (ks k), .list ds]) = true) (hb : linesB k (.list ds) = true) : f_unknowns [.dat (.tuple [.str (ks k), .list ds])] = .done (sortD ((namesN [] ds).map .str)) := by
  have e1 := check_book_val hg (by show (match kdOf (ks k) with | some k => linesB k (.list ds) | none => false) = true; rw [kdOf_of]; exact hb)
  have e2 := names_in_val h hl
  show (zSeqO _ _ _) = _
  show (((f_check_book [.dat (.tuple [.str (ks k), .list ds])]).bind _).bind _) = _
  rw [e1]
  show (f_names_in [.dat (.list ds)]) = _
  exact e2
end Hr
namespace Hr
open PySem PySem.Spec PyProof.Rows L2 Evl
/-! ### the law itself: books -/
theorem kind_draw {e : Env} {n : Nat} (hg : rdGen 0 e = .done ()) (hn : 0 < n) : Al (xOp o_ix (xEl (xLst (aCons (xC (PyData.str "hours")) (aCons (xC (PyData.str "bits")) aNil)))) (xFn f_law_random 2 (aGen 0 (aCons (xC (PyData.int 2)) aNil))) e) (fun d m => (∃ k : Kd, d = .str (ks k)) ∧ m = n - 1) n := by
  refine d_op' (al_eq (a := .list [.str "hours", .str "bits"]) (e_lst (e_cons rfl (e_cons rfl e_nil)) rfl) (al_mono (d_rnd (b := 2) hg rfl (by decide) (by decide +kernel) hn) ?_))
  rintro d m ⟨z, z0, z1, rfl, rfl⟩
  obtain ⟨k, hk⟩ := kd_of z0 z1
  exact al_eq hk ⟨⟨k, rfl⟩, rfl⟩
theorem nms1 : Nms ["a", "b"] := ⟨by decide +kernel, by decide, by decide, by decide +kernel⟩
theorem nms2 : Nms ["noon", "bell", "x9", "x10"] := ⟨by decide +kernel, by decide, by decide, by decide +kernel⟩
theorem nms3 : Nms ["by", "is", "of", "ahead"] := ⟨by decide +kernel, by decide, by decide, by decide +kernel⟩
theorem nms4 : Nms ["a", "b", "x10"] := ⟨by decide +kernel, by decide, by decide, by decide +kernel⟩
theorem ks_sz (k : Kd) : Sz 52 0 (.str (ks k)) := by cases k <;> decide +kernel
theorem sl_to {xs : List PyData} {i : Nat} (h : i ≤ xs.length) : o_sl (.list xs) none (some (i : Int)) = .done (.list (xs.take i)) := by
  show Tr.done (PyData.list (cutD xs none (some (i : Int)))) = _
  unfold cutD
  rw [HT.sIx_none, HT.sIx_nat, List.drop_zero, Nat.sub_zero, Nat.min_eq_left h]
theorem sl_from {xs : List PyData} {i : Nat} (h : i ≤ xs.length) : o_sl (.list xs) (some (i : Int)) none = .done (.list (xs.drop i)) := by
  show Tr.done (PyData.list (cutD xs (some (i : Int)) none)) = _
  unfold cutD
  rw [HT.sIx_none, HT.sIx_nat, Nat.min_eq_left h, List.take_of_length_le (by rw [List.length_drop]; omega)]
theorem e_sl {me : Ex_} {ml mh : Env → Tr (Option Int)} {e : Env} {d : PyData} {lo hi : Option Int} {r : Tr PyData} (h : me e = .done d) (h1 : ml e = .done lo) (h2 : mh e = .done hi) (h3 : o_sl d lo hi = r) : xSl me ml mh e = r := by
  show (me e).bind _ = _
  rw [h, Tr.bind_done]
  show (ml e).bind _ = _
  rw [h1, Tr.bind_done]
  show (mh e).bind _ = _
  rw [h2]; exact h3
theorem e_so {me : Ex_} {e : Env} {i : Int} (h : me e = .done (.int i)) : pSo me e = .done (some i) := by show (me e).bind _ = _; rw [h]; rfl
theorem rows_comp {i : Nat} {e : Env} {ds : List PyData} (hi : i < e.length) (hl : ds.length ≤ 1000) (h : ∀ x ∈ ds, Vl x) : compL (tgName i) (yNot (yTru (xFn f_law_value_right 1 (aCons (xVar i) aNil)))) (xVar i) [i] ds e = .done [] := by
  rw [comp_ds (mg := tgName i) (mt := yNot (yTru (xFn f_law_value_right 1 (aCons (xVar i) aNil)))) (me := xVar i) (fun x => x) (fun _ => false) (by omega) (fun x hx => ⟨_, rfl, ?_, fun q => absurd (show false = true from q) (by decide)⟩), List.filter_eq_nil_iff.mpr (fun _ _ => by decide)]
  · rfl
  · have hl2 : (noM [i] e).length = e.length := by simp [noM]
    refine e_not (b := true) (e_tru (d := .bool true) (e_fn (e_cons (d := x) ?_ e_nil) rfl (value_right (h x hx))) rfl)
    refine e_var ?_
    unfold rd
    rw [List.getElem?_set_self (by rw [hl2]; exact hi)]
theorem rows_test {i : Nat} {e : Env} {me : Ex_} {ds : List PyData} (hi : i < e.length) (hd : me e = .done (.list ds)) (hl : ds.length ≤ 1000) (h : ∀ x ∈ ds, Vl x) : yB (xOp (oEqE not) (xEl (xLc (iSeq itL me) (tgName i) (yNot (yTru (xFn f_law_value_right 1 (aCons (xVar i) aNil)))) (xVar i) [i])) (xEl (xLst aNil))) e = .done false :=
  e_B (e_op (e_lc hd (rows_comp hi hl h)) rfl (eqE_nil not []))
theorem d_par {i j n : Nat} {ma : As_} {mu : Ss_} {e : Env} {R : PyData → PyData → Nat → Prop} {Q : Out → Nat → Prop} (h : Al (ma e) (fun es m => ∃ x y, es = [.dat x, .dat y] ∧ R x y m) n) (h2 : ∀ x y m, R x y m → Al (mu ((e.set i (.dat x)).set j (.dat y))) Q m) : Al (zSeq (zPar i j ma) mu e) Q n := by
  have : zSeq (zPar i j ma) mu e = (ma e).bind fun es => (parK i j e es).bind (then_ mu) := by
    show ((ma e).bind _).bind _ = _
    rw [Tr.bind_assoc]
  rw [this]
  refine al_seq h ?_
  rintro es m ⟨x, y, rfl, hr⟩
  have : (parK i j e [.dat x, .dat y]).bind (then_ mu) = mu ((e.set i (.dat x)).set j (.dat y)) := rfl
  rw [this]
  exact h2 x y m hr
theorem d_cons {ma : Ex_} {mr : As_} {e : Env} {n : Nat} {R : PyData → Nat → Prop} {S : List Sl → Nat → Prop} (h : Al (ma e) R n) (h2 : ∀ d m, R d m → Al (mr e) (fun es k => S (.dat d :: es) k) m) : Al (aCons ma mr e) S n := by
  have : aCons ma mr e = (ma e).bind fun d => (mr e).bind fun es => .done (.dat d :: es) := rfl
  rw [this]
  refine al_seq h fun d m hd => al_seq (h2 d m hd) fun es k hk => ?_
  simpa using hk
theorem d_fng1 {g : List Sl → Tr PyData} {m1 : Ex_} {e : Env} {n : Nat} {P R : PyData → Nat → Prop} (h0 : rdGen 0 e = .done ()) (h : Al (m1 e) R n) (h2 : ∀ x m, R x m → Al (g [.gen, .dat x]) P m) : Al (xFn g 2 (aGen 0 (aCons m1 aNil)) e) P n := by
  have : xFn g 2 (aGen 0 (aCons m1 aNil)) e = (m1 e).bind fun x => g [.gen, .dat x] := by
    show ((rdGen 0 e).bind _).bind _ = _
    rw [h0, Tr.bind_done]
    show (((m1 e).bind _).bind _).bind _ = _
    rw [Tr.bind_assoc, Tr.bind_assoc]
    rfl
  rw [this]
  exact al_seq h h2
theorem prt_of {k : Kd} {ns : List Str} {d : PyData} (h : LnD k ns d) (hn : Nms ns) : ∃ l b, d = .tuple l ∧ Prt l b := by
  obtain ⟨x, y, a, b, rfl, hx, hy, _, _, za, zb⟩ := h.ex
  refine ⟨_, b, rfl, ⟨⟨_, _, _, rfl⟩, zb, fun d hd => ?_⟩⟩
  simp at hd
  rcases hd with rfl | rfl | rfl | rfl
  · exact (szd_str (hn.ok x hx).2.1 (by decide) (hn.ok x hx).1).mono (by decide) (by decide)
  · exact (szd_str (hn.ok y hy).2.1 (by decide) (hn.ok y hy).1).mono (by decide) (by decide)
  · exact szd_int (by omega)
  · exact szd_int (by omega)
theorem frz_own {e : Env} {i : Nat} {ds : List PyData} (h : e[i]? = some (.own ds)) : frz i e = e.set i (.dat (.list ds)) := by unfold frz; rw [h]
theorem al_orB {mt mt2 : Ts_} {e : Env} (h : mt e = .done false) (h2 : mt2 e = .done false) : yOr mt mt2 e = .done false := e_or h fun _ => h2

/-! what stands when the lines are drawn -/
structure Bkd (k : Kd) (ns : List Str) (ds : List PyData) : Prop where
  hn : Nms ns
  hl : ds.length ≤ 6
  hL : ∀ x ∈ ds, LnD k ns x
abbrev bkD (k : Kd) (ds : List PyData) : PyData := .tuple [.str (ks k), .list ds]
section
variable {k : Kd} {ns : List Str} {ds : List PyData}
theorem Bkd.lst (h : Bkd k ns ds) : Sz 46185 2 (.list ds) := szd_list (N := 6) (fun d hd => (h.hL d hd).sz h.hn) h.hl (by decide)
theorem tup2 {a b : PyData} (h1 : Sz 52 0 a) {c p : Nat} (hc : 52 ≤ c) (h2 : Sz c p b) : Sz (2 * (c + 2) + 3) (p + 1) (.tuple [a, b]) := szd_tup (N := 2) (fun d hd => by
  simp at hd
  rcases hd with rfl | rfl
  · exact h1.mono hc (Nat.zero_le _)
  · exact h2) (by show 2 ≤ 2; decide) (by decide)
theorem Bkd.bk (h : Bkd k ns ds) : Sz 92377 3 (bkD k ds) := tup2 (ks_sz k) (by decide) h.lst
theorem Bkd.lines (h : Bkd k ns ds) : linesB k (.list ds) = true := List.all_eq_true.mpr fun d hd => (h.hL d hd).line h.hn
theorem Bkd.two (h : Bkd k ns ds) : ∀ d ∈ ds, Ln2 d := fun d hd => (h.hL d hd).two h.hn
theorem Bkd.unk (h : Bkd k ns ds) : f_unknowns [.dat (bkD k ds)] = .done (sortD ((namesN [] ds).map .str)) := unknowns_val h.two (by have := h.hl; omega) h.bk.g h.lines
theorem Bkd.lnm (h : Bkd k ns ds) : f_law_names_in [.dat (.list ds)] = .done (sortN ds) := law_names_in_val h.two (by have := h.hl; omega)
theorem Bkd.rep (h : Bkd k ns ds) : o_reprD [.dat (bkD k ds)] = .done (.str (bkD k ds).shown) := repD (h.bk.vl (by decide) (by decide)).r
/-- the rows of a book -/
def row1 (k : Kd) (ds : List PyData) (i : Nat) (x : PyData) : List PyData := [bkD k ds, .list ds, .tuple [.str (ks k), .list (ds.take i ++ [x] ++ ds.drop i)], .list [.str (ks k), .list ds], .tuple [.str (ks k), .tuple ds]]
def oth : Kd → Kd
  | .H => .B
  | .B => .H
def row2 (k : Kd) (ds : List PyData) : List PyData := [.tuple [.str (ks (oth k)), .list ds], .tuple [.str "days", .list ds], .tuple [.str (ks k), .list ds, .int 0], .tuple [.str (ks k)], .tuple [.none, .list []]]
def row3 (k : Kd) (ds : List PyData) (x : PyData) : List PyData := [.tuple [.list [], .list ds], .tuple [.str (ks k), .list (ds ++ [.none])], .list (ds ++ [x]), .tuple ds, .tuple [.dict [], .list []], .tuple [.str (ks k), .none]]
theorem Bkd.mem (h : Bkd k ns ds) {x : PyData} (hx : Sz 11000 2 x) : ∀ {ys : List PyData}, (∀ y ∈ ys, y ∈ ds ∨ y = x ∨ y = .none) → ∀ y ∈ ys, Sz 11000 2 y := fun hy y hyy => by
  rcases hy y hyy with h1 | rfl | rfl
  · exact ((h.hL y h1).sz h.hn).mono (by decide) (by decide)
  · exact hx
  · exact sz_none.mono (by decide) (by decide)
theorem Bkd.rows (h : Bkd k ns ds) {i : Nat} {x : PyData} (hi : i ≤ ds.length) (hx : Sz 11000 2 x) : ∀ y ∈ row1 k ds i x ++ row2 k ds ++ row3 k ds x, Vl y := fun y hy => by
  have hl := h.hl
  have all7 : ∀ ys : List PyData, (∀ y ∈ ys, y ∈ ds ∨ y = x ∨ y = .none) → ys.length ≤ 7 → Sz 77017 3 (.list ys) ∧ Sz 77017 3 (.tuple ys) := fun ys h1 h2 =>
    ⟨szd_list (N := 7) (h.mem hx h1) h2 (by decide), szd_tup (N := 7) (h.mem hx h1) h2 (by decide)⟩
  have s0 := all7 ds (fun y hy => .inl hy) (by omega)
  have s1 := all7 (ds.take i ++ [x] ++ ds.drop i) (fun y hy => by
    simp only [List.mem_append, List.mem_singleton] at hy
    rcases hy with (hy | hy) | hy
    · exact .inl (List.mem_of_mem_take hy)
    · exact .inr (.inl hy)
    · exact .inl (List.mem_of_mem_drop hy)) (by simp; omega)
  have s2 := all7 (ds ++ [.none]) (fun y hy => by
    simp only [List.mem_append, List.mem_singleton] at hy
    rcases hy with hy | hy
    · exact .inl hy
    · exact .inr (.inr hy)) (by simp; omega)
  have s3 := all7 (ds ++ [x]) (fun y hy => by
    simp only [List.mem_append, List.mem_singleton] at hy
    rcases hy with hy | hy
    · exact .inl hy
    · exact .inr (.inl hy)) (by simp; omega)
  have kz := ks_sz k
  have lst3 : ∀ ys : List PyData, (∀ y ∈ ys, Sz 77017 3 y) → ys.length ≤ 3 → Sz 231060 4 (.list ys) ∧ Sz 231060 4 (.tuple ys) := fun ys h1 h2 => ⟨szd_list (N := 3) h1 h2 (by decide), szd_tup (N := 3) h1 h2 (by decide)⟩
  have kz' : ∀ k, Sz 77017 3 (.str (ks k)) := fun k => (ks_sz k).mono (by decide) (by decide)
  have t2 : ∀ a b : PyData, Sz 77017 3 a → Sz 77017 3 b → Vl (.list [a, b]) ∧ Vl (.tuple [a, b]) := fun a b h1 h2 => by
    have := lst3 [a, b] (fun y hy => by
      simp at hy
      rcases hy with rfl | rfl
      · exact h1
      · exact h2) (by show 2 ≤ 3; decide)
    exact ⟨this.1.vl (by decide) (by decide), this.2.vl (by decide) (by decide)⟩
  simp only [row1, row2, row3, List.mem_append, List.mem_cons, List.not_mem_nil, or_false] at hy
  rcases hy with ((rfl | rfl | rfl | rfl | rfl) | (rfl | rfl | rfl | rfl | rfl)) | (rfl | rfl | rfl | rfl | rfl | rfl)
  · exact (t2 _ _ (kz' k) s0.1).2
  · exact s0.1.vl (by decide) (by decide)
  · exact (t2 _ _ (kz' k) s1.1).2
  · exact (t2 _ _ (kz' k) s0.1).1
  · exact (t2 _ _ (kz' k) s0.2).2
  · exact (t2 _ _ (kz' _) s0.1).2
  · exact (t2 _ _ ((show Sz 52 0 (.str "days") by decide +kernel).mono (by decide) (by decide)) s0.1).2
  · refine (lst3 [.str (ks k), .list ds, .int 0] (fun y hy => ?_) (by show 3 ≤ 3; decide)).2.vl (by decide) (by decide)
    simp at hy
    rcases hy with rfl | rfl | rfl
    · exact kz' k
    · exact s0.1
    · exact (show Sz 1921 0 (.int 0) by decide +kernel).mono (by decide) (by decide)
  · refine (lst3 [.str (ks k)] (fun y hy => ?_) (by show 1 ≤ 3; decide)).2.vl (by decide) (by decide)
    simp at hy; subst hy; exact kz' k
  · exact (show Sz 100 3 (.tuple [.none, .list []]) by decide +kernel).vl (by decide) (by decide)
  · exact (t2 _ _ ((show Sz 100 3 (.list []) by decide +kernel).mono (by decide) (by decide)) s0.1).2
  · exact (t2 _ _ (kz' k) s2.1).2
  · exact s3.1.vl (by decide) (by decide)
  · exact s0.2.vl (by decide) (by decide)
  · exact (show Sz 100 3 (.tuple [.dict [], .list []]) by decide +kernel).vl (by decide) (by decide)
  · exact (t2 _ _ (kz' k) (sz_none.mono (by decide) (by decide))).2
end
theorem oth_val (k : Kd) : o_ix (.list [.str "bits", .str "hours"]) (.int (if (!isH k) = true then 1 else 0)) = .done (.str (ks (oth k))) := by cases k <;> rfl
end Hr
namespace Hr
open PySem PySem.Spec PyProof.Rows L2 Evl
theorem t_asg {me : Ex_} {mu : Ss_} {e : Env} {j n : Nat} {d : PyData} {Q : Out → Nat → Prop} (h : me e = .done d) (h2 : Al (mu (e.set j (.dat d))) Q n) : Al (zSeq (zAsg me (tgName j)) mu e) Q n := a_seq (e_asg h) h2
theorem e_tup {mr : As_} {e : Env} {es : List Sl} {ds : List PyData} (h : mr e = .done es) (h2 : (dats es).bind (few PyData.tuple) = .done (.tuple ds)) : xTup mr e = .done (.tuple ds) := by
  show (mr e).bind _ = _
  rw [h, Tr.bind_done]; exact h2
theorem ne_str {s : Str} {ma mb : Ex_} {e : Env} (h1 : ma e = .done (.str s)) (h2 : mb e = .done (.str s)) : yB (xOp (oEqE not) ma mb) e = .done false := e_B (e_op h1 h2 (by rw [eqE_str]; simp))
theorem eq_strX {s : Str} {ma mb : Ex_} {e : Env} (h1 : ma e = .done (.str s)) (h2 : mb e = .done (.str s)) : xOp (oEqE id) ma mb e = .done (.bool true) := e_op h1 h2 (by rw [eqE_str]; simp)
section
variable {k : Kd} {ns : List Str} {ds : List PyData}
abbrev B7 (k : Kd) (ns : List Str) (ds : List PyData) (s : Sl) : Env := [.gen, .dat (.str (ks k)), .dat (dN ns), .dat (.list ds), .dat (bkD k ds), .dat (.str (bkD k ds).shown), .dat (sortN ds), s, .no, .no, .no, .no, .no]
theorem unk_kw {e : Env} (h : Bkd k ns ds) (h4 : rd 4 e = .done (bkD k ds)) : xFnO f_unknowns 1 (aKw aNil (aCons (xVar 4) aNil) 0 1 [0]) e = .done (sortD ((namesN [] ds).map .str)) := by
  have e1 : aCons (xVar 4) aNil e = .done [.dat (bkD k ds)] := e_cons (e_var h4) e_nil
  have e2 : aKw aNil (aCons (xVar 4) aNil) 0 1 [0] e = .done [.dat (bkD k ds)] := by
    show ((Tr.done []).bind _) = _
    rw [Tr.bind_done]
    show ((aCons (xVar 4) aNil e).bind _) = _
    rw [e1]; rfl
  show ((aKw aNil (aCons (xVar 4) aNil) 0 1 [0] e).bind _) = _
  rw [e2, Tr.bind_done]
  show f_unknowns [.dat (bkD k ds)] = _
  exact h.unk
theorem unk_pl {e : Env} (h : Bkd k ns ds) (h4 : rd 4 e = .done (bkD k ds)) : xFnO f_unknowns 1 (aCons (xVar 4) aNil) e = .done (sortD ((namesN [] ds).map .str)) := by
  have e1 : aCons (xVar 4) aNil e = .done [.dat (bkD k ds)] := e_cons (e_var h4) e_nil
  show ((aCons (xVar 4) aNil e).bind _) = _
  rw [e1, Tr.bind_done]
  show f_unknowns [.dat (bkD k ds)] = _
  exact h.unk
theorem elO {ml : Is_} {e : Env} {ds : List PyData} (h : ml e = .done ds) : xEl ml e = .done (.list ds) := by show (ml e).bind _ = _; rw [h]; rfl
theorem told_test (h : Bkd k ns ds) : yLend 7 (yOr (yB (xOp (oEq not) (xVar 7) (xVar 6))) (yOr (yB (xOp (oEq not) (xEl (xFnO f_unknowns 1 (aKw aNil (aCons (xVar 4) aNil) 0 1 [0]))) (xVar 6))) (yB (xOp (oEqE not) (xCb o_reprD (aCons (xVar 4) aNil)) (xVar 5))))) (B7 k ns ds (.own (sortD ((namesN [] ds).map .str)))) = .done false := by
  show (yOr _ _) (frz 7 (B7 k ns ds (.own (sortD ((namesN [] ds).map .str))))) = _
  rw [frz_own (ds := sortD ((namesN [] ds).map .str)) rfl]
  have hs := sortN_shp h.two
  refine al_orB ?_ (al_orB ?_ ?_)
  · exact e_B (e_op (x := sortN ds) (y := sortN ds) rfl rfl (eq_self' hs))
  · exact e_B (e_op (x := sortN ds) (y := sortN ds) (elO (unk_kw h rfl)) rfl (eq_self' hs))
  · exact ne_str (e_cb (e_cons (d := bkD k ds) rfl e_nil) h.rep) rfl
theorem book_tail (h : Bkd k ns ds) {i : Nat} {x : PyData} {od : List PyData} (hi : i ≤ ds.length) (hx : Sz 11000 2 x) (s7 s9 : Sl) {n m : Nat} (hm : n ≤ m + 70) {E : Env} (hE : E = [.gen, .dat (.str (ks k)), .dat (dN ns), .dat (.list ds), .dat (bkD k ds), .dat (.str (bkD k ds).shown), .dat (sortN ds), s7, dI (i : Int), s9, .dat x, .no, .no]) :
    Al ((zSeq (zAsg (xEl (xLst (aCons (xVar 4) (aCons (xVar 3) (aCons (xTup (aCons (xVar 1) (aCons (xOp o_add (xOp o_add (xSl (xVar 3) pNo (pSo (xVar 8))) (xEl (xLst (aCons (xVar 10) aNil)))) (xSl (xVar 3) (pSo (xVar 8)) pNo)) aNil))) (aCons (xCb o_list (aCons (xVar 4) aNil)) (aCons (xTup (aCons (xVar 1) (aCons (xCb o_tuple (aCons (xVar 3) aNil)) aNil))) aNil))))))) (tgName 11))
      (zSeq (zAsg (xOp o_add (xVar 11) (xEl (xLst (aCons (xTup (aCons (xOp o_ix (xEl (xLst (aCons (xC (PyData.str "bits")) (aCons (xC (PyData.str "hours")) aNil)))) (xCb o_int (aCons (xOp (oEq id) (xVar 1) (xC (PyData.str "bits"))) aNil))) (aCons (xVar 3) aNil))) (aCons (xTup (aCons (xC (PyData.str "days")) (aCons (xVar 3) aNil))) (aCons (xTup (aCons (xVar 1) (aCons (xVar 3) (aCons (xC (PyData.int 0)) aNil)))) (aCons (xTup (aCons (xVar 1) aNil)) (aCons (xTup (aCons (xC PyData.none) (aCons (xEl (xLst aNil)) aNil))) aNil)))))))) (tgName 11))
      (zSeq (zAsg (xOp o_add (xVar 11) (xEl (xLst (aCons (xTup (aCons (xEl (xLst aNil)) (aCons (xVar 3) aNil))) (aCons (xTup (aCons (xVar 1) (aCons (xOp o_add (xVar 3) (xEl (xLst (aCons (xC PyData.none) aNil)))) aNil))) (aCons (xOp o_add (xVar 3) (xEl (xLst (aCons (xVar 10) aNil)))) (aCons (xCb o_tuple (aCons (xVar 3) aNil)) (aCons (xTup (aCons xD0 (aCons (xEl (xLst aNil)) aNil))) (aCons (xTup (aCons (xVar 1) (aCons (xC PyData.none) aNil))) aNil))))))))) (tgName 11))
      (zSeq (zIf (yB (xOp (oEqE not) (xEl (xLc (iSeq itL (xVar 11)) (tgName 12) (yNot (yTru (xFn f_law_value_right 1 (aCons (xVar 12) aNil)))) (xVar 12) [12])) (xEl (xLst aNil)))) (zRet (xC (PyData.bool false))) zNext)
      (zRet (xAnd (xOp (oEq id) (xEl (xFnO f_unknowns 1 (aCons (xVar 4) aNil))) (xVar 6)) (xOp (oEqE id) (xCb o_reprD (aCons (xVar 4) aNil)) (xVar 5)))))))) E) (fun o m => (∃ d, o = .rt d ∧ d = .bool true ∧ n ≤ m + 70) ∨ ∃ e, o = .nx e ∧ PyData.none = .bool true ∧ n ≤ m + 70) m := by
  have hl := h.hl
  subst hE
  refine t_asg (d := .list (row1 k ds i x)) ?_ ?_
  · refine e_lst (es := (row1 k ds i x).map Sl.dat) (e_cons rfl (e_cons rfl (e_cons (e_tup (e_cons rfl (e_cons (e_op (e_op (e_sl rfl rfl (e_so rfl) (sl_to hi)) rfl (add_ll (by simp; omega))) (e_sl rfl (e_so rfl) rfl (sl_from hi)) (add_ll (by simp; omega))) e_nil)) rfl) (e_cons rfl (e_cons rfl e_nil))))) rfl
  refine t_asg (d := .list (row1 k ds i x ++ row2 k ds)) ?_ ?_
  · refine e_op (x := .list (row1 k ds i x)) (y := .list (row2 k ds)) rfl (e_lst (es := (row2 k ds).map Sl.dat) (e_cons (e_tup (e_cons (e_op (x := .list [.str "bits", .str "hours"]) (y := .int (if (!isH k) = true then 1 else 0)) rfl (e_cb (e_cons (e_op rfl rfl (eq_B k)) e_nil) (int_b _)) (oth_val k)) (e_cons rfl e_nil)) rfl) (e_cons rfl (e_cons rfl (e_cons rfl (e_cons rfl e_nil))))) rfl) (add_ll (by simp [row1, row2]))
  refine t_asg (d := .list (row1 k ds i x ++ row2 k ds ++ row3 k ds x)) ?_ ?_
  · refine e_op (x := .list (row1 k ds i x ++ row2 k ds)) (y := .list (row3 k ds x)) rfl (e_lst (es := (row3 k ds x).map Sl.dat) (e_cons rfl (e_cons (e_tup (e_cons rfl (e_cons (e_op rfl rfl (add_ll (by simp; omega))) e_nil)) rfl) (e_cons (e_op rfl rfl (add_ll (by simp; omega))) (e_cons rfl (e_cons rfl (e_cons rfl e_nil)))))) rfl) (add_ll (by simp [row1, row2, row3]))
  refine a_if (rows_test (ds := row1 k ds i x ++ row2 k ds ++ row3 k ds x) (by simp) rfl (by simp [row1, row2, row3]) (h.rows hi hx)) ?_
  refine al_eq (a := .rt (.bool true)) (e_ret (e_andX (e_op (x := sortN ds) (y := sortN ds) (elO (unk_pl h rfl)) rfl (eq_self' (sortN_shp h.two))) (eq_strX (e_cb (e_cons (d := bkD k ds) rfl e_nil) h.rep) rfl))) (.inl ⟨_, rfl, rfl, hm⟩)
end
theorem book_right {n : Nat} (hn : 200 ≤ n) : Al (f_law_book_right [.gen]) (fun d m => d = .bool true ∧ n ≤ m + 70) n := by
  refine al_run ?_
  show Al (zSeq _ _ [.gen, .no, .no, .no, .no, .no, .no, .no, .no, .no, .no, .no, .no]) _ n
  refine a_asgA (kind_draw rfl (by omega)) ?_
  rintro d m ⟨⟨k, rfl⟩, rfl⟩
  refine a_asgA (P := fun d m => (∃ ns, d = dN ns ∧ Nms ns) ∧ m = n - 1 - 1) ?_ ?_
  · refine d_op' (al_eq (a := .list [dN ["a", "b"], dN ["noon", "bell", "x9", "x10"], dN ["by", "is", "of", "ahead"]]) rfl (al_mono (d_rnd (b := 3) rfl rfl (by decide) (by decide +kernel) (by omega)) ?_))
    rintro d m ⟨z, z0, z1, rfl, rfl⟩
    obtain ⟨d, hd, e⟩ := ix_of (xs := [dN ["a", "b"], dN ["noon", "bell", "x9", "x10"], dN ["by", "is", "of", "ahead"]]) z0 z1
    refine al_eq e ⟨?_, rfl⟩
    simp only [List.mem_cons, List.not_mem_nil, or_false] at hd
    rcases hd with rfl | rfl | rfl
    · exact ⟨_, rfl, nms1⟩
    · exact ⟨_, rfl, nms2⟩
    · exact ⟨_, rfl, nms3⟩
  rintro d m ⟨⟨ns, rfl, hns⟩, rfl⟩
  refine a_asgA (P := fun d m => (∃ ds : List PyData, d = .list ds ∧ ds.length ≤ 6 ∧ ∀ x ∈ ds, LnD k ns x) ∧ n - 1 - 1 ≤ m + 50) ?_ ?_
  · rw [show ∀ e : Env, rdGen 0 e = .done () → rd 1 e = .done (.str (ks k)) → rd 2 e = .done (dN ns) → xFn f_law_lines 4 (aGen 0 (aCons (xVar 1) (aCons (xVar 2) (aCons (xC (PyData.int 6)) aNil)))) e = f_law_lines [.gen, dK k, .dat (dN ns), dI 6] from fun e h0 h1 h2 => e_fn (e_gen h0 (e_cons (e_var h1) (e_cons (e_var h2) (e_cons rfl e_nil)))) rfl rfl]
    · exact lines_draw hns (by omega)
    · rfl
    · rfl
    · rfl
  rintro d m ⟨⟨ds, rfl, hl, hL⟩, hm⟩
  have h : Bkd k ns ds := ⟨hns, hl, hL⟩
  refine t_asg (d := bkD k ds) rfl ?_
  refine d_par (R := fun x y m' => x = .str (bkD k ds).shown ∧ y = sortN ds ∧ m' = m) ?_ ?_
  · refine al_eq (a := [.dat (.str (bkD k ds).shown), .dat (sortN ds)]) (e_cons (e_cb (e_cons (d := bkD k ds) rfl e_nil) h.rep) (e_cons (e_fn (e_cons (d := .list ds) rfl e_nil) rfl h.lnm) e_nil)) ⟨_, _, rfl, rfl, rfl, rfl⟩
  rintro _ _ m2 ⟨rfl, rfl, hm2⟩
  refine a_seq (e_asgOwn (unk_pl h rfl)) ?_
  refine a_if (told_test h) ?_
  refine a_seq (e' := B7 k ns ds (.own (sortD ((namesN [] ds).map .str) ++ [.none]))) ?_ ?_
  · have hs : (sortD ((namesN [] ds).map PyData.str)).length < 100000 := by
      have := (sortD_perm ((namesN [] ds).map PyData.str)).length_eq
      rw [this, List.length_map]
      have : ∀ (ds : List PyData) (acc : List Str), (namesN acc ds).length ≤ acc.length + 2 * ds.length := by
        intro ds
        induction ds with
        | nil => intro acc; exact Nat.le_refl _
        | cons d ds ih =>
          intro acc
          have h1 := ih (addN acc d)
          have h2 := addN_len (acc := acc) (d := d)
          rw [List.length_cons]
          show (namesN (addN acc d) ds).length ≤ _
          omega
      have := this ds []
      simp at this
      omega
    show (Tr.done (sortD ((namesN [] ds).map PyData.str))).bind _ = _
    rw [Tr.bind_done]
    show (Tr.done PyData.none).bind _ = _
    rw [Tr.bind_done]
    exact if_pos hs
  refine d_par (R := fun x y m' => (∃ i : Nat, x = .int (i : Int) ∧ i ≤ ds.length) ∧ (∃ od : List PyData, y = .list od ∧ od.length = 124 ∧ ∀ z ∈ od, Sz 11000 2 z) ∧ m2 ≤ m' + 8) ?_ ?_
  · refine d_cons (d_rnd (b := (ds.length : Int) + 1) rfl rfl (by omega) (by
      have : sz ((ds.length : Int) + 1) ≤ 4 := sz_bd (by omega)
      omega) (by omega)) ?_
    rintro d m' ⟨z, z0, z1, rfl, rfl⟩
    obtain ⟨i, rfl⟩ := Int.eq_ofNat_of_zero_le z0
    refine d_cons1 ?_
    refine d_fng1 (R := fun d m' => LnD k ns d ∧ m2 - 1 ≤ m' + 7) rfl ?_ ?_
    · rw [show ∀ e : Env, rdGen 0 e = .done () → rd 1 e = .done (.str (ks k)) → rd 2 e = .done (dN ns) → xFn f_law_line 3 (aGen 0 (aCons (xVar 1) (aCons (xVar 2) aNil))) e = f_law_line [.gen, dK k, .dat (dN ns)] from fun e h0 h1 h2 => e_fn (e_gen h0 (e_cons (e_var h1) (e_cons (e_var h2) e_nil))) rfl rfl]
      · exact line_draw hns (by omega)
      · rfl
      · rfl
      · rfl
    · rintro d m' ⟨hd, hm'⟩
      obtain ⟨l, b, rfl, hp⟩ := prt_of hd hns
      obtain ⟨od, e, hlen, hod⟩ := odd_val hp
      exact al_eq e ⟨_, _, rfl, ⟨i, rfl, by omega⟩, ⟨od, rfl, hlen, hod⟩, by omega⟩
  rintro _ _ m' ⟨⟨i, rfl, hi⟩, ⟨od, rfl, hlen, hod⟩, hm'⟩
  refine a_asgA (P := fun d k => (∃ x ∈ od, d = x) ∧ k = m' - 1) ?_ ?_
  · refine d_op' (al_eq (a := .list od) rfl (al_mono (d_rnd (b := (od.length : Int)) rfl rfl (by omega) (by rw [hlen]; decide +kernel) (by omega)) ?_))
    rintro d m3 ⟨z, z0, z1, rfl, rfl⟩
    obtain ⟨x, hx, e⟩ := ix_of z0 z1
    exact al_eq e ⟨⟨x, hx, rfl⟩, rfl⟩
  rintro _ _ ⟨⟨x, hx, rfl⟩, rfl⟩
  exact book_tail h (od := od) hi (hod _ hx) _ _ (by omega) rfl
end Hr
namespace Hr
open PySem PySem.Spec PyProof.Rows L2 Evl
/-! ### the law itself: all of it -/
theorem value_ok {i : Nat} {e : Env} {x : PyData} {ms : Ss_} (hx : rd i e = .done x) (h : Vl x) : zIf (yNot (yTru (xFn f_law_value_right 1 (aCons (xVar i) aNil)))) ms zNext e = .done (.nx e) :=
  e_ifF (e_not (b := true) (e_tru (d := .bool true) (e_fn (e_cons (d := x) (e_var hx) e_nil) rfl (value_right h)) rfl))
/-- numbers told -/
abbrev nb2 (i j : Int) : List PyData := [.tuple [.str "a", .int i], .tuple [.str "b", .int j]]
theorem s_ints {i : Int} (h : i.natAbs ≤ 100) : Sz 1921 0 (.int i) := szd_int (by
  have : sz i ≤ 7 := sz_bd (by omega)
  omega)
theorem s_a : Sz 52 0 (.str "a") := by decide +kernel
theorem s_b : Sz 52 0 (.str "b") := by decide +kernel
theorem nb2_sz {i j : Int} (hi : i.natAbs ≤ 100) (hj : j.natAbs ≤ 100) : ∀ x ∈ nb2 i j, Sz 3849 1 x := fun x hx => by
  simp at hx
  rcases hx with rfl | rfl
  · exact tup2 s_a (by decide) (s_ints hi)
  · exact tup2 s_b (by decide) (s_ints hj)
def fixR : List PyData := [.list [.tuple [.str "a", .int 1], .tuple [.str "b", .int 100000000000000000000000000000]], .list [.list [.str "a", .int 1], .tuple [.str "b", .int 1]]]
def fixS : List PyData := [.list [.tuple [.str "a", .bool true], .tuple [.str "b", .int 1]], .list [.tuple [.str "a", .none], .tuple [.str "b", .int 1]], .list [.tuple [.str "a", .int 1], .tuple [.str "a", .int 1]], .list [.tuple [.list [], .int 1], .tuple [.str "b", .int 1]], .list [.tuple [.str "a"], .tuple [.str "b", .int 1]], .list [.tuple [.str "a", .int 1, .int 2], .tuple [.str "b", .int 1]]]
theorem fix_sz : (∀ x ∈ fixR, Sz 20000 3 x) ∧ ∀ x ∈ fixS, Sz 20000 3 x := by decide +kernel
def rowA (i j : Int) : List PyData := [.list (nb2 i j), .list (nb2 i j).reverse, .list [.tuple [.str "a", .int i]], .list (nb2 i j ++ [.tuple [.str "c", .int 0]])] ++ fixR
def rowC (i j : Int) : List PyData := [.tuple (nb2 i j), .dict [(.str "a", .int i), (.str "b", .int j)]]
theorem rows_ok {i j : Int} (hi : i.natAbs ≤ 100) (hj : j.natAbs ≤ 100) : ∀ x ∈ rowA i j ++ fixS ++ rowC i j, Vl x := fun x hx => by
  have h := nb2_sz hi hj
  have lst : ∀ ys : List PyData, (∀ y ∈ ys, Sz 3849 1 y) → ys.length ≤ 3 → Vl (.list ys) ∧ Vl (.tuple ys) := fun ys h1 h2 => ⟨(szd_list (N := 3) h1 h2 (by decide)).vl (by decide) (by decide), (szd_tup (N := 3) h1 h2 (by decide)).vl (by decide) (by decide)⟩
  have ha := h (.tuple [.str "a", .int i]) (by simp)
  simp only [rowA, rowC, List.mem_append] at hx
  rcases hx with ((hx | hx) | hx) | hx
  · simp only [List.mem_cons, List.not_mem_nil, or_false] at hx
    rcases hx with rfl | rfl | rfl | rfl
    · exact (lst _ h (by simp)).1
    · exact (lst _ (fun y hy => h y (List.mem_reverse.mp hy)) (by simp)).1
    · refine (lst _ (fun y hy => ?_) (by simp)).1
      rw [List.mem_singleton] at hy; subst hy; exact ha
    · refine (lst _ (fun y hy => ?_) (by simp)).1
      rcases List.mem_append.mp hy with hy | hy
      · exact h y hy
      · rw [List.mem_singleton] at hy; subst hy
        exact (show Sz 3849 1 (.tuple [.str "c", .int 0]) by decide +kernel)
  · exact (fix_sz.1 x hx).vl (by decide) (by decide)
  · exact (fix_sz.2 x hx).vl (by decide) (by decide)
  · simp only [List.mem_cons, List.not_mem_nil, or_false] at hx
    rcases hx with rfl | rfl
    · exact (lst _ h (by simp)).2
    · have si := s_ints hi; have sj := s_ints hj
      refine Sz.vl (c := 5000) (p := 2) ⟨?_, rfl, ?_, ?_⟩ (by decide) (by decide)
      · show (flatK (.str "a") && ntD (.str "a") && ntD (.int i) && (flatK (.str "b") && ntD (.str "b") && ntD (.int j) && true)) = true
        rw [si.n, sj.n, s_a.n, s_b.n]; rfl
      · show csD (.str "a") + csD (.int i) + 4 + (csD (.str "b") + csD (.int j) + 4 + 0) + 3 ≤ 5000
        have h1 := si.c; have h2 := sj.c; have h3 := s_a.c; have h4 := s_b.c
        omega
      · exact (by decide : (1 : Nat) ≤ 2)
theorem dict_val (i j : Int) : o_dict [.dat (.list (nb2 i j))] = .done (.dict [(.str "a", .int i), (.str "b", .int j)]) := by
  have := dict_l [((.inr "a" : Key), PyData.int i), (.inr "b", .int j)]
  have e : mergeP ([] : List (Key × PyData)) [((.inr "a" : Key), PyData.int i), (.inr "b", .int j)] = [((.inr "a" : Key), PyData.int i), (.inr "b", .int j)] := by
    have hne : ¬ ((Sum.inr ("a" : Str) : Key) = Sum.inr ("b" : Str)) := by decide +kernel
    simp [mergeP, putP, hne]
  rw [e] at this
  exact this

theorem odd_rows {k : Kd} {ns : List Str} {d : PyData} (h : LnD k ns d) (hn : Nms ns) : ∃ od : List PyData, f_law_odd [.gen, .dat d] = .done (.list od) ∧ od.length = 124 ∧ ∀ z ∈ od, Sz 11000 2 z := by
  obtain ⟨l, b, rfl, hp⟩ := prt_of h hn
  exact odd_val hp
theorem tail01 {i j : Int} (hi : i.natAbs ≤ 100) (hj : j.natAbs ≤ 100) (s1 s2 s3 s5 : Sl) {n m : Nat} (hm : 200 ≤ m) (hn : n ≤ m + 100) {E : Env} (hE : E = [.gen, s1, s2, s3, .dat (.list (nb2 i j)), s5]) :
    Al ((zSeq (zAsg (xEl (xLst (aCons (xVar 4) (aCons (xEl (xRev (xVar 4))) (aCons (xSl (xVar 4) pNo (pSo (xC (PyData.int 1)))) (aCons (xOp o_add (xVar 4) (xEl (xLst (aCons (xTup (aCons (xC (PyData.str "c")) (aCons (xC (PyData.int 0)) aNil))) aNil)))) (aCons (xEl (xLst (aCons (xTup (aCons (xC (PyData.str "a")) (aCons (xC (PyData.int 1)) aNil))) (aCons (xTup (aCons (xC (PyData.str "b")) (aCons (xOp o_pow (xC (PyData.int 10)) (xC (PyData.int 29))) aNil))) aNil)))) (aCons (xEl (xLst (aCons (xEl (xLst (aCons (xC (PyData.str "a")) (aCons (xC (PyData.int 1)) aNil)))) (aCons (xTup (aCons (xC (PyData.str "b")) (aCons (xC (PyData.int 1)) aNil))) aNil)))) aNil)))))))) (tgName 5))
      (zSeq (zAsg (xOp o_add (xVar 5) (xEl (xLst (aCons (xEl (xLst (aCons (xTup (aCons (xC (PyData.str "a")) (aCons (xC (PyData.bool true)) aNil))) (aCons (xTup (aCons (xC (PyData.str "b")) (aCons (xC (PyData.int 1)) aNil))) aNil)))) (aCons (xEl (xLst (aCons (xTup (aCons (xC (PyData.str "a")) (aCons (xC PyData.none) aNil))) (aCons (xTup (aCons (xC (PyData.str "b")) (aCons (xC (PyData.int 1)) aNil))) aNil)))) (aCons (xEl (xLst (aCons (xTup (aCons (xC (PyData.str "a")) (aCons (xC (PyData.int 1)) aNil))) (aCons (xTup (aCons (xC (PyData.str "a")) (aCons (xC (PyData.int 1)) aNil))) aNil)))) (aCons (xEl (xLst (aCons (xTup (aCons (xEl (xLst aNil)) (aCons (xC (PyData.int 1)) aNil))) (aCons (xTup (aCons (xC (PyData.str "b")) (aCons (xC (PyData.int 1)) aNil))) aNil)))) (aCons (xEl (xLst (aCons (xTup (aCons (xC (PyData.str "a")) aNil)) (aCons (xTup (aCons (xC (PyData.str "b")) (aCons (xC (PyData.int 1)) aNil))) aNil)))) (aCons (xEl (xLst (aCons (xTup (aCons (xC (PyData.str "a")) (aCons (xC (PyData.int 1)) (aCons (xC (PyData.int 2)) aNil)))) (aCons (xTup (aCons (xC (PyData.str "b")) (aCons (xC (PyData.int 1)) aNil))) aNil)))) aNil))))))))) (tgName 5))
      (zSeq (zIf (yB (xOp (oEqE not) (xEl (xLc (iSeq itL (xOp o_add (xVar 5) (xEl (xLst (aCons (xCb o_tuple (aCons (xVar 4) aNil)) (aCons (xCb o_dict (aCons (xVar 4) aNil)) aNil)))))) (tgName 3) (yNot (yTru (xFn f_law_value_right 1 (aCons (xVar 3) aNil)))) (xVar 3) [3])) (xEl (xLst aNil)))) (zRet (xC (PyData.bool false))) zNext)
      (zRet (xFn f_law_book_right 1 (aGen 0 aNil)))))) E) (fun o m => (∃ d, o = .rt d ∧ d = .bool true ∧ n ≤ m + 200) ∨ ∃ e, o = .nx e ∧ PyData.none = .bool true ∧ n ≤ m + 200) m := by
  subst hE
  refine t_asg (d := .list (rowA i j)) ?_ ?_
  · exact e_lst (es := (rowA i j).map Sl.dat) (e_cons rfl (e_cons rfl (e_cons rfl (e_cons rfl (e_cons (e_lst (e_cons rfl (e_cons (e_tup (e_cons rfl (e_cons (e_op rfl rfl pow_29) e_nil)) rfl) e_nil)) rfl) (e_cons rfl e_nil)))))) rfl
  refine t_asg (d := .list (rowA i j ++ fixS)) ?_ ?_
  · exact e_op (x := .list (rowA i j)) (y := .list fixS) rfl rfl rfl
  refine a_if (rows_test (ds := rowA i j ++ fixS ++ rowC i j) (by simp) (e_op (x := .list (rowA i j ++ fixS)) (y := .list (rowC i j)) rfl (e_lst (es := (rowC i j).map Sl.dat) (e_cons rfl (e_cons (e_cb (e_cons (d := .list (nb2 i j)) rfl e_nil) (dict_val i j)) e_nil)) rfl) rfl) (by simp [rowA, fixR, fixS, rowC]) (rows_ok hi hj)) ?_
  refine d_ret ?_
  rw [show ∀ e : Env, rdGen 0 e = .done () → xFn f_law_book_right 1 (aGen 0 aNil) e = f_law_book_right [.gen] from fun e h0 => e_fn (e_gen h0 e_nil) rfl rfl]
  · refine al_mono (book_right hm) ?_
    rintro d m2 ⟨rfl, h2⟩
    exact .inl ⟨_, rfl, rfl, by omega⟩
  · rfl
theorem right01 {n : Nat} (hn : 400 ≤ n) : Al (f_law_right [.gen]) (fun d m => d = .bool true ∧ n ≤ m + 200) n := by
  refine al_run ?_
  show Al (zSeq _ _ [.gen, .no, .no, .no, .no, .no]) _ n
  refine a_seqE (fun s : Sl => [.gen, s, .no, .no, .no, .no]) (fun _ m => n ≤ m + 88) ?_ ?_
  · have h8 : iCall rng1 (aCons (xC (PyData.int 8)) aNil) [.gen, .no, .no, .no, .no, .no] = .done (spanD 0 8) := e_rng (es := [dI 8]) rfl (rng1_ok (j := 8) (by decide) (by decide))
    rw [e_for h8]
    refine al_mono (al_forK (fun e => ∃ s, e = [.gen, s, .no, .no, .no, .no]) 11 (spanD 0 8) _ n ⟨.no, rfl⟩ (by rw [spanL]; omega) ?_) ?_
    · rintro d hd e m ⟨s, rfl⟩ hm
      show Al (l_law_right_1 [.gen, .dat d, .no, .no, .no, .no]) _ m
      have : l_law_right_1 [.gen, .dat d, .no, .no, .no, .no] = (f_law_word [.gen]).bind fun w => zIf (yNot (yTru (xFn f_law_value_right 1 (aCons (xC w) aNil)))) (zRet (xC (PyData.bool false))) zNext [.gen, .dat d, .no, .no, .no, .no] := by
        simp [l_law_right_1, tmIte, Tr.bind_assoc]
      rw [this]
      refine al_seq (word_draw (by omega)) ?_
      rintro w m2 ⟨⟨x, rfl, hx, hs⟩, hm2⟩
      have hv : Vl (.str x) := (szd_str hx (by decide) hs).vl (by decide) (by decide)
      have e1 : zIf (yNot (yTru (xFn f_law_value_right 1 (aCons (xC (PyData.str x)) aNil)))) (zRet (xC (PyData.bool false))) zNext [.gen, .dat d, .no, .no, .no, .no] = .done (.nx [.gen, .dat d, .no, .no, .no, .no]) :=
        e_ifF (e_not (b := true) (e_tru (d := .bool true) (e_fn (e_cons (d := .str x) rfl e_nil) rfl (value_right hv)) rfl))
      rw [e1, al_done]
      exact ⟨_, rfl, ⟨_, rfl⟩, hm2⟩
    · rintro o m ⟨e', rfl, ⟨s, rfl⟩, hm⟩
      rw [spanL] at hm
      exact ⟨s, rfl, by have : (8 : Int).toNat = 8 := rfl; omega⟩
  intro s m hm
  refine a_asgA (P := fun d m' => (∃ k, LnD k ["a", "b", "x10"] d) ∧ m ≤ m' + 8) ?_ ?_
  · have sp : ∀ (M : Ex_) (e : Env), rdGen 0 e = .done () → xFn f_law_line 3 (aGen 0 (aCons M (aCons (xEl (xLst (aCons (xC (PyData.str "a")) (aCons (xC (PyData.str "b")) (aCons (xC (PyData.str "x10")) aNil))))) aNil))) e = (M e).bind fun x => f_law_line [.gen, .dat x, .dat (dN ["a", "b", "x10"])] := fun M e h0 => by
      simp [h0, Tr.bind_assoc]
      rfl
    rw [sp _ _ rfl]
    refine al_seq (kind_draw rfl (by omega)) ?_
    rintro d m2 ⟨⟨k, rfl⟩, rfl⟩
    refine al_mono (line_draw nms4 (by omega)) ?_
    rintro d m2 ⟨h1, h2⟩
    exact ⟨⟨k, h1⟩, by omega⟩
  rintro d m2 ⟨⟨k, hd⟩, hm2⟩
  obtain ⟨od, eo, hlen, hod⟩ := odd_rows hd nms4
  refine a_for (ds := d :: od) (fun e => ∃ s3, e = [.gen, s, .dat d, s3, .no, .no]) ?_ ⟨.no, rfl⟩ ?_ ?_
  · exact e_itL (e_op (x := .list [d]) (y := .list od) (e_lst (e_cons (d := d) rfl e_nil) rfl) (e_fn (e_gen rfl (e_cons (d := d) rfl e_nil)) rfl eo) (add_ll (by simp; omega)))
  · rintro x hx e ⟨s3, rfl⟩
    have hv : Vl x := by
      rcases List.mem_cons.mp hx with rfl | hx
      · exact (hd.sz nms4).vl (by decide) (by decide)
      · exact (hod x hx).vl (by decide) (by decide)
    refine ⟨[.gen, s, .dat d, .dat x, .no, .no], ?_, ⟨_, rfl⟩⟩
    show l_law_right_2 [.gen, s, .dat d, .dat x, .no, .no] = _
    exact value_ok rfl hv
  rintro e ⟨s3, rfl⟩
  refine a_asgA (P := fun y m' => (∃ i j : Int, y = .list (nb2 i j) ∧ i.natAbs ≤ 100 ∧ j.natAbs ≤ 100) ∧ m2 ≤ m' + 2) ?_ ?_
  · have sp : ∀ e : Env, rdGen 0 e = .done () → xEl (xLst (aCons (xTup (aCons (xC (PyData.str "a")) (aCons (xFn f_law_random 2 (aGen 0 (aCons (xC (PyData.int 20)) aNil))) aNil))) (aCons (xTup (aCons (xC (PyData.str "b")) (aCons (xOp o_sub (xC (PyData.int 0)) (xFn f_law_random 2 (aGen 0 (aCons (xC (PyData.int 20)) aNil)))) aNil))) aNil))) e =
        (f_law_random [.gen, dI 20]).bind fun x => (f_law_random [.gen, dI 20]).bind fun y => (o_sub (.int 0) y).bind fun z => .done (.list [.tuple [.str "a", x], .tuple [.str "b", z]]) := fun e h0 => by
      simp [h0, Tr.bind_assoc]
    rw [sp _ rfl]
    refine al_seq (al_of (random_all (b := 20) (by decide) (by decide +kernel) (by omega))) ?_
    rintro x m3 ⟨i, i0, i1, rfl, rfl⟩
    refine al_seq (al_of (random_all (b := 20) (by decide) (by decide +kernel) (by omega))) ?_
    rintro y m3 ⟨j, j0, j1, rfl, rfl⟩
    exact al_eq (a := .list (nb2 i (0 - j))) rfl ⟨⟨i, 0 - j, rfl, by omega, by omega⟩, by omega⟩
  rintro y m3 ⟨⟨i, j, rfl, hi, hj⟩, hm3⟩
  exact tail01 hi hj s (.dat d) s3 .no (by omega) (by omega) rfl
theorem law_true : (f_law [.scr]).all (fun d _ => d = .bool true) 9000000 := by
  refine Al.all ?_
  unfold f_law
  refine al_run ?_
  unfold b_law
  refine a_seqE (fun _ : Unit => [.scr, dI 2, .no, .no, .no]) (fun _ m => 8000000 ≤ m) ?_ ?_
  · have hr := rng1_ok (j := 3) (by decide) (by decide)
    simp [hr, List.replicate]
    refine al_mono (al_forM (fun j e m => e = [.scr, (if j = 0 then .no else dI ((j : Int) - 1)), .no, .no, .no] ∧ 9000000 ≤ m + 200 * j) ⟨rfl, by omega⟩ ?_) ?_
    · rintro i d e m hd ⟨rfl, hm⟩
      obtain ⟨hi, rfl⟩ := span_at hd
      have hi : i < 3 := hi
      show Al (l_law_1 [.scr, dI (0 + (i : Int)), .no, .no, .no]) _ m
      unfold l_law_1
      refine al_mono (al_turn (k := 0 + (i : Int)) rfl rfl (by omega) (right01 (by omega))) ?_
      rintro o m2 ⟨rfl, hm2⟩
      refine ⟨_, rfl, ?_, by omega⟩
      rw [if_neg (by omega)]
      congr 3
      omega
    · rintro o m ⟨e', rfl, rfl, hm⟩
      rw [spanL] at hm
      refine ⟨?_, by omega⟩
      rw [spanL]; rfl
  intro _ m hm
  refine al_eq (a := .rt (.bool true)) (isO_eq ?_) (.inl ⟨_, rfl, rfl⟩)
  decide +kernel
end Hr
namespace Hr
open PySem PySem.Spec PyProof.Rows L2 Evl
section
variable {P : Program} {w : World} {K : PySem.W.Frag} {mg : Str → Option Value} {base : Heap}
theorem d_is_kind (D : Def K mg "is_kind" s_is_kind P_is_kind) (z_isinstance : mg "isinstance" = none) (z_str : mg "str" = none) {kd_KINDS : Addr} (m_KINDS : mg "KINDS" = some (.ref kd_KINDS)) (hc_KINDS : ∀ H, SqT K H kd_KINDS [.str "hours", .str "bits"]) : Has P w K mg base 1 "is_kind" P_is_kind (spM K f_is_kind 1) :=
  D.hasM sc_is_kind b_is_kind fun g cdv A out s H E hr => ⟨_,
      (pss_one (ps_ret (pe_and (pe_callB (id := "isinstance") (r := rIsi K) call_isi (by rfl) z_isinstance (by decide +kernel) (pa_cons (pv 0) (pa_cons (pe_bltn (v := .ty "str") (by rfl) z_str (by decide +kernel) rfl) pa_nil))) (pe_one (pe_cmpR (op_inX (units65 hr.room)) (pv 0) (pe_glob (v := .ref _) (by rfl) m_KINDS rfl) (by rfl)))))),
      (sm_ret (em_andV (em_isi kitD_str (em_var 0)) (em_op p2_in (em_var 0) (em_c fun F => .tup (hc_KINDS F) (.cons (.str _) (.cons (.str _) .nil))))))⟩
theorem d_is_whole (D : Def K mg "is_whole" s_is_whole P_is_whole) (z_bool : mg "bool" = none) (z_int : mg "int" = none) (z_isinstance : mg "isinstance" = none) : Has P w K mg base 1 "is_whole" P_is_whole (spM K f_is_whole 1) :=
  D.hasM sc_is_whole b_is_whole fun g cdv A out s H E hr => ⟨_,
      (pss_one (ps_ret (pe_and (pe_callB (id := "isinstance") (r := rIsi K) call_isi (by rfl) z_isinstance (by decide +kernel) (pa_cons (pv 0) (pa_cons (pe_bltn (v := .ty "int") (by rfl) z_int (by decide +kernel) rfl) pa_nil))) (pe_one (pe_not (pe_callB (id := "isinstance") (r := rIsi K) call_isi (by rfl) z_isinstance (by decide +kernel) (pa_cons (pv 0) (pa_cons (pe_bltn (v := .ty "bool") (by rfl) z_bool (by decide +kernel) rfl) pa_nil)))))))),
      (sm_ret (em_andV (em_isi kitD_int (em_var 0)) (em_notV (em_isi kitD_bool (em_var 0)))))⟩
theorem d_is_count (D : Def K mg "is_count" s_is_count P_is_count) (h_is_whole : Has P w K mg base 1 "is_whole" P_is_whole (spM K f_is_whole 1)) : Has P w K mg base 2 "is_count" P_is_count (spM K f_is_count 1) :=
  D.hasM sc_is_count b_is_count fun g cdv A out s H E hr => ⟨_,
      (pss_one (ps_ret (pe_and (pe_h h_is_whole hr (pa_cons (pv 0) pa_nil)) (pe_one (pe_cmpR op_ge (pv 0) pe_int (nomark _)))))),
      (sm_ret (em_andV (em_fn (am_cons (em_var 0) am_nil)) (em_op p2_ge (em_var 0) (em_int _))))⟩
theorem d_is_number (D : Def K mg "is_number" s_is_number P_is_number) (h_is_whole : Has P w K mg base 1 "is_whole" P_is_whole (spM K f_is_whole 1)) : Has P w K mg base 2 "is_number" P_is_number (spM K f_is_number 2) :=
  D.hasM sc_is_number b_is_number fun g cdv A out s H E hr => ⟨_,
      (pss_one (ps_ret (pe_and (pe_h h_is_whole hr (pa_cons (pv 1) pa_nil)) (pe_one (pe_or (pe_cmpR (op_eqD hr.room.units) (pv 0) pe_str (nomark _)) (pe_one (pe_cmpR op_ge (pv 1) pe_int (nomark _)))))))),
      (sm_ret (em_andV (em_fn (am_cons (em_var 1) am_nil)) (em_orV (em_op p2_eq (em_var 0) (em_str _)) (em_op p2_ge (em_var 1) (em_int _)))))⟩
theorem d_check_kind (D : Def K mg "check_kind" s_check_kind P_check_kind) (h_is_kind : Has P w K mg base 1 "is_kind" P_is_kind (spM K f_is_kind 1)) : Has P w K mg base 2 "check_kind" P_check_kind (spM K f_check_kind 1) :=
  D.hasM sc_check_kind b_check_kind fun g cdv A out s H E hr => ⟨_,
      (pss_one (ps_if (pt_not (pt_truth (pe_h h_is_kind hr (pa_cons (pv 0) pa_nil)) (by intro _; rfl))) (pss_one ps_never) pss_nil)),
      (sm_if (tm_not (tm_truth (em_fn (am_cons (em_var 0) am_nil)))) sm_never sm_next)⟩
theorem d_is_ascending (D : Def K mg "is_ascending" s_is_ascending P_is_ascending) (z_all : mg "all" = none) (z_len : mg "len" = none) (z_range : mg "range" = none) : Has P w K mg base 1 "is_ascending" P_is_ascending (spM K f_is_ascending 1) :=
  D.hasM sc_is_ascending b_is_ascending fun g cdv A out s H E hr => ⟨_,
      (pss_one (ps_ret (pe_callB (id := "all") (r := rAll K) (cr_all rfl) (by rfl) z_all (by decide +kernel) (pa_cons (pe_lc (own := [("at", 1)]) (g := gName 1) rfl sc_is_ascending.nd (pi_range2 (by rfl) z_range (pa_cons pe_int (pa_cons (pe_callB (id := "len") (r := rLenA K) cA_len (by rfl) z_len (by decide +kernel) (pa_cons (pv 0) pa_nil)) pa_nil))) (blkOk_by (own := [("at", 1)]) (N := N_is_ascending) (sc := defScope s_is_ascending) (by decide +kernel)) (fun _ _ _ _ _ => (pg_name (i := 1) sc_is_ascending.nd rfl (.inl rfl))) (fun _ _ _ _ _ => pts_nil) (fun _ _ _ _ _ => (pe_cmpR op_ltX (pe_ix ix_seq (pv 0) (pe_op op_sub (pv 1) pe_int) (fun _ _ => rfl)) (pe_ix ix_seq (pv 0) (pv 1) (fun _ _ => rfl)) (nomark _)))) pa_nil)))),
      (sm_ret (em_cb pc_all (am_cons (em_el (el_lc (vs := [1]) (im_rng2 (am_cons (em_int _) (am_cons (em_cb pc_len (am_cons (em_var 0) am_nil)) am_nil))) (gm_name 1) (calm_name 1) (by decide) tm_yes (em_op p2_lt (em_op p2_ix (em_var 0) (em_op p2_sub (em_var 1) (em_int _))) (em_op p2_ix (em_var 0) (em_var 1))))) am_nil)))⟩
theorem d_is_name (D : Def K mg "is_name" s_is_name P_is_name) (z_all : mg "all" = none) (z_isinstance : mg "isinstance" = none) (z_len : mg "len" = none) (z_str : mg "str" = none) {tk_FIGURES : Tok} (m_FIGURES : mg "FIGURES" = some (.str "0123456789" tk_FIGURES)) {tk_LETTERS : Tok} (m_LETTERS : mg "LETTERS" = some (.str "abcdefghijklmnopqrstuvwxyz" tk_LETTERS)) : Has P w K mg base 1 "is_name" P_is_name (spM K f_is_name 1) :=
  D.hasM sc_is_name b_is_name fun g cdv A out s H E hr => ⟨_,
      (pss_cons (ps_if (pt_not (pt_truth (pe_callB (id := "isinstance") (r := rIsi K) call_isi (by rfl) z_isinstance (by decide +kernel) (pa_cons (pv 0) (pa_cons (pe_bltn (v := .ty "str") (by rfl) z_str (by decide +kernel) rfl) pa_nil))) (by intro _; rfl))) (pss_one (ps_ret pe_bl)) pss_nil)
      (pss_cons (ps_set (i := 1) sc_is_name.nd rfl (.inl rfl) (pe_m1 PySem.F.slot_str_rstrip PySem.F.type_str_rstrip mt_rstripChars (pv 0) (pe_glob (v := .str "0123456789") (by rfl) m_FIGURES ⟨_, rfl⟩)))
      (pss_cons (ps_set (i := 2) sc_is_name.nd rfl (.inl rfl) (pe_slice sl_X (pv 0) (po_some (pe_callB (id := "len") (r := rLenA K) cA_len (by rfl) z_len (by decide +kernel) (pa_cons (pv 1) pa_nil))) po_none))
      (pss_cons (ps_if (PW.pt (pw_or (pt_not (pt_chain op_le op_le pe_int (pe_callB (id := "len") (r := rLenA K) cA_len (by rfl) z_len (by decide +kernel) (pa_cons (pv 1) pa_nil)) pe_int)) (pw_or1 (pt_not (pt_truth (pe_callB (id := "all") (r := rAll K) (cr_all rfl) (by rfl) z_all (by decide +kernel) (pa_cons (pe_lc (own := [("letter", 3)]) (g := gName 3) rfl sc_is_name.nd (pi_str (pv 1)) (blkOk_by (own := [("letter", 3)]) (N := N_is_name) (sc := defScope s_is_name) (by decide +kernel)) (fun _ _ _ _ _ => (pg_name (i := 3) sc_is_name.nd rfl (.inl rfl))) (fun _ _ _ _ _ => pts_nil) (fun _ _ _ _ _ => (pe_cmpR (op_inX (units65 hr.room)) (pv 3) (pe_glob (v := .str "abcdefghijklmnopqrstuvwxyz") (by rfl) m_LETTERS ⟨_, rfl⟩) (by rfl)))) pa_nil)) (by intro _; rfl)))))) (pss_one (ps_ret pe_bl)) pss_nil)
      (pss_one (ps_ret (pe_and (pe_cmpR op_le (pe_callB (id := "len") (r := rLenA K) cA_len (by rfl) z_len (by decide +kernel) (pa_cons (pv 2) pa_nil)) pe_int (nomark _)) (pe_one (pe_or (pe_cmpR (op_eqD hr.room.units) (pv 2) pe_str (nomark _)) (pe_one (pe_not (pe_m1 PySem.F.slot_str_startswith PySem.F.type_str_startswith mt_startswith (pv 2) pe_str)))))))))))),
      (sm_seq (sm_if (tm_not (tm_truth (em_isi kitD_str (em_var 0)))) (sm_ret (em_bl false)) sm_next)
      (sm_seq (sm_asg (em_m1 m1_rstrip (em_var 0) (em_str _)) (gm_name 1) (calm_name 1))
      (sm_seq (sm_asg (em_sl (em_var 0) (om_some (em_cb pc_len (am_cons (em_var 1) am_nil))) om_none) (gm_name 2) (calm_name 2))
      (sm_seq (sm_if (tm_or (tm_not (tm_test (em_chain p2_le p2_le (em_int _) (em_cb pc_len (am_cons (em_var 1) am_nil)) (em_int _)))) (tm_not (tm_truth (em_cb pc_all (am_cons (em_el (el_lc (vs := [3]) (im_str (em_var 1)) (gm_name 3) (calm_name 3) (by decide) tm_yes (em_op p2_in (em_var 3) (em_str _)))) am_nil))))) (sm_ret (em_bl false)) sm_next)
      (sm_ret (em_andV (em_op p2_le (em_cb pc_len (am_cons (em_var 2) am_nil)) (em_int _)) (em_orV (em_op p2_eq (em_var 2) (em_str _)) (em_notV (em_m1 m1_starts (em_var 2) (em_str _))))))))))⟩
theorem d_may_tell (D : Def K mg "may_tell" s_may_tell P_may_tell) (h_is_number : Has P w K mg base 2 "is_number" P_is_number (spM K f_is_number 2)) (h_is_count : Has P w K mg base 2 "is_count" P_is_count (spM K f_is_count 1)) : Has P w K mg base 3 "may_tell" P_may_tell (spM K f_may_tell 3) :=
  D.hasM sc_may_tell b_may_tell fun g cdv A out s H E hr => ⟨_,
      (pss_cons (ps_if (PW.pt (pw_or (pt_not (pt_truth (pe_h h_is_count hr (pa_cons (pv 2) pa_nil)) (by intro _; rfl))) (pw_or1 (pt_not (pt_truth (pe_h h_is_number hr (pa_cons (pv 0) (pa_cons (pv 1) pa_nil))) (by intro _; rfl)))))) (pss_one (ps_ret pe_bl)) pss_nil)
      (pss_cons (ps_if (pt_cmpR (op_eqD hr.room.units) (pv 2) pe_int (nomark _)) (pss_one (ps_ret pe_bl)) pss_nil)
      (pss_cons (ps_if (pt_cmpR (op_eqD hr.room.units) (pv 0) pe_str (nomark _)) (pss_one (ps_ret (pe_chain op_le op_ltX pe_int (pv 1) (pv 2)))) pss_nil)
      (pss_one (ps_ret (pe_cmpR op_ltX (pe_bits (pv 1)) (pe_bits (pv 2)) (nomark _))))))),
      (sm_seq (sm_if (tm_or (tm_not (tm_truth (em_fn (am_cons (em_var 2) am_nil)))) (tm_not (tm_truth (em_fn (am_cons (em_var 0) (am_cons (em_var 1) am_nil)))))) (sm_ret (em_bl false)) sm_next)
      (sm_seq (sm_if (tm_test (em_op p2_eq (em_var 2) (em_int _))) (sm_ret (em_bl true)) sm_next)
      (sm_seq (sm_if (tm_test (em_op p2_eq (em_var 0) (em_str _))) (sm_ret (em_chain p2_le p2_lt (em_int _) (em_var 1) (em_var 2))) sm_next)
      (sm_ret (em_op p2_lt (em_bits (em_var 1)) (em_bits (em_var 2)))))))⟩
theorem d_line_fits (D : Def K mg "line_fits" s_line_fits P_line_fits) (z_isinstance : mg "isinstance" = none) (z_len : mg "len" = none) (z_tuple : mg "tuple" = none) (h_may_tell : Has P w K mg base 3 "may_tell" P_may_tell (spM K f_may_tell 3)) (h_is_name : Has P w K mg base 1 "is_name" P_is_name (spM K f_is_name 1)) : Has P w K mg base 4 "line_fits" P_line_fits (spM K f_line_fits 2) :=
  D.hasM sc_line_fits b_line_fits fun g cdv A out s H E hr => ⟨_,
      (pss_cons (ps_if (PW.pt (pw_or (pt_not (pt_truth (pe_callB (id := "isinstance") (r := rIsi K) call_isi (by rfl) z_isinstance (by decide +kernel) (pa_cons (pv 1) (pa_cons (pe_bltn (v := .ty "tuple") (by rfl) z_tuple (by decide +kernel) rfl) pa_nil))) (by intro _; rfl))) (pw_or1 (pt_cmpR (op_neD hr.room.units) (pe_callB (id := "len") (r := rLenA K) cA_len (by rfl) z_len (by decide +kernel) (pa_cons (pv 1) pa_nil)) pe_int (nomark _))))) (pss_one (ps_ret pe_bl)) pss_nil)
      (pss_cons (ps_asg (pv 1) (pg_tup rfl (pgs_cons (pg_name (i := 2) sc_line_fits.nd rfl (.inl rfl)) (pgs_cons (pg_name (i := 3) sc_line_fits.nd rfl (.inl rfl)) (pgs_cons (pg_name (i := 4) sc_line_fits.nd rfl (.inl rfl)) (pgs_cons (pg_name (i := 5) sc_line_fits.nd rfl (.inl rfl)) pgs_nil))))))
      (pss_one (ps_ret (pe_and (pe_h h_is_name hr (pa_cons (pv 2) pa_nil)) (pe_and (pe_h h_is_name hr (pa_cons (pv 3) pa_nil)) (pe_and (pe_cmpR (op_neD hr.room.units) (pv 2) (pv 3) (nomark _)) (pe_one (pe_h h_may_tell hr (pa_cons (pv 0) (pa_cons (pv 4) (pa_cons (pv 5) pa_nil)))))))))))),
      (sm_seq (sm_if (tm_or (tm_not (tm_truth (em_isi kitD_tuple (em_var 1)))) (tm_test (em_op p2_ne (em_cb pc_len (am_cons (em_var 1) am_nil)) (em_int _)))) (sm_ret (em_bl false)) sm_next)
      (sm_seq (sm_asg (em_var 1) (gm_tup (gms_cons (gm_name 2) (calm_name 2) (gms_cons (gm_name 3) (calm_name 3) (gms_cons (gm_name 4) (calm_name 4) (gms_cons (gm_name 5) (calm_name 5) gms_nil))))) (calm_tup (calms_cons (calm_name 2) (calms_cons (calm_name 3) (calms_cons (calm_name 4) (calms_cons (calm_name 5) calms_nil))))))
      (sm_ret (em_andV (em_fn (am_cons (em_var 2) am_nil)) (em_andV (em_fn (am_cons (em_var 3) am_nil)) (em_andV (em_op p2_ne (em_var 2) (em_var 3)) (em_fn (am_cons (em_var 0) (am_cons (em_var 4) (am_cons (em_var 5) am_nil))))))))))⟩
theorem d_lines_fit (D : Def K mg "lines_fit" s_lines_fit P_lines_fit) (z_all : mg "all" = none) (z_isinstance : mg "isinstance" = none) (z_list : mg "list" = none) (h_line_fits : Has P w K mg base 4 "line_fits" P_line_fits (spM K f_line_fits 2)) : Has P w K mg base 5 "lines_fit" P_lines_fit (spM K f_lines_fit 2) :=
  D.hasM sc_lines_fit b_lines_fit fun g cdv A out s H E hr => ⟨_,
      (pss_one (ps_ret (pe_and (pe_callB (id := "isinstance") (r := rIsi K) call_isi (by rfl) z_isinstance (by decide +kernel) (pa_cons (pv 1) (pa_cons (pe_bltn (v := .ty "list") (by rfl) z_list (by decide +kernel) rfl) pa_nil))) (pe_one (pe_callB (id := "all") (r := rAll K) (cr_all rfl) (by rfl) z_all (by decide +kernel) (pa_cons (pe_lc (own := [("line", 2)]) (g := gName 2) rfl sc_lines_fit.nd (pi_list (pv 1)) (blkOk_by (own := [("line", 2)]) (N := N_lines_fit) (sc := defScope s_lines_fit) (by decide +kernel)) (fun _ _ _ _ _ => (pg_name (i := 2) sc_lines_fit.nd rfl (.inl rfl))) (fun _ _ _ _ _ => pts_nil) (fun _ _ _ _ _ => (pe_h h_line_fits hr (pa_cons (pv 0) (pa_cons (pv 2) pa_nil))))) pa_nil)))))),
      (sm_ret (em_andV (em_isi kitD_list (em_var 1)) (em_cb pc_all (am_cons (em_el (el_lc (vs := [2]) (im_list (em_var 1)) (gm_name 2) (calm_name 2) (by decide) tm_yes (em_fn (am_cons (em_var 0) (am_cons (em_var 2) am_nil))))) am_nil))))⟩
theorem d_names_fit (D : Def K mg "names_fit" s_names_fit P_names_fit) (z_all : mg "all" = none) (z_isinstance : mg "isinstance" = none) (z_list : mg "list" = none) (h_is_ascending : Has P w K mg base 1 "is_ascending" P_is_ascending (spM K f_is_ascending 1)) (h_is_name : Has P w K mg base 1 "is_name" P_is_name (spM K f_is_name 1)) : Has P w K mg base 2 "names_fit" P_names_fit (spM K f_names_fit 1) :=
  D.hasM sc_names_fit b_names_fit fun g cdv A out s H E hr => ⟨_,
      (pss_one (ps_ret (pe_and (pe_callB (id := "isinstance") (r := rIsi K) call_isi (by rfl) z_isinstance (by decide +kernel) (pa_cons (pv 0) (pa_cons (pe_bltn (v := .ty "list") (by rfl) z_list (by decide +kernel) rfl) pa_nil))) (pe_and (pe_callB (id := "all") (r := rAll K) (cr_all rfl) (by rfl) z_all (by decide +kernel) (pa_cons (pe_lc (own := [("name", 1)]) (g := gName 1) rfl sc_names_fit.nd (pi_list (pv 0)) (blkOk_by (own := [("name", 1)]) (N := N_names_fit) (sc := defScope s_names_fit) (by decide +kernel)) (fun _ _ _ _ _ => (pg_name (i := 1) sc_names_fit.nd rfl (.inl rfl))) (fun _ _ _ _ _ => pts_nil) (fun _ _ _ _ _ => (pe_h h_is_name hr (pa_cons (pv 1) pa_nil)))) pa_nil)) (pe_one (pe_h h_is_ascending hr (pa_cons (pv 0) pa_nil))))))),
      (sm_ret (em_andV (em_isi kitD_list (em_var 0)) (em_andV (em_cb pc_all (am_cons (em_el (el_lc (vs := [1]) (im_list (em_var 0)) (gm_name 1) (calm_name 1) (by decide) tm_yes (em_fn (am_cons (em_var 1) am_nil)))) am_nil)) (em_fn (am_cons (em_var 0) am_nil)))))⟩
theorem d_number_told (D : Def K mg "number_told" s_number_told P_number_told) (z_isinstance : mg "isinstance" = none) (z_len : mg "len" = none) (z_tuple : mg "tuple" = none) (h_is_number : Has P w K mg base 2 "is_number" P_is_number (spM K f_is_number 2)) (h_is_name : Has P w K mg base 1 "is_name" P_is_name (spM K f_is_name 1)) : Has P w K mg base 3 "number_told" P_number_told (spM K f_number_told 2) :=
  D.hasM sc_number_told b_number_told fun g cdv A out s H E hr => ⟨_,
      (pss_one (ps_ret (pe_and (pe_callB (id := "isinstance") (r := rIsi K) call_isi (by rfl) z_isinstance (by decide +kernel) (pa_cons (pv 1) (pa_cons (pe_bltn (v := .ty "tuple") (by rfl) z_tuple (by decide +kernel) rfl) pa_nil))) (pe_and (pe_cmpR (op_eqD hr.room.units) (pe_callB (id := "len") (r := rLenA K) cA_len (by rfl) z_len (by decide +kernel) (pa_cons (pv 1) pa_nil)) pe_int (nomark _)) (pe_and (pe_h h_is_name hr (pa_cons (pe_ix ix_seq (pv 1) pe_int (fun _ _ => rfl)) pa_nil)) (pe_one (pe_h h_is_number hr (pa_cons (pv 0) (pa_cons (pe_ix ix_seq (pv 1) pe_int (fun _ _ => rfl)) pa_nil))))))))),
      (sm_ret (em_andV (em_isi kitD_tuple (em_var 1)) (em_andV (em_op p2_eq (em_cb pc_len (am_cons (em_var 1) am_nil)) (em_int _)) (em_andV (em_fn (am_cons (em_op p2_ix (em_var 1) (em_int _)) am_nil)) (em_fn (am_cons (em_var 0) (am_cons (em_op p2_ix (em_var 1) (em_int _)) am_nil)))))))⟩
theorem d_numbers_fit (D : Def K mg "numbers_fit" s_numbers_fit P_numbers_fit) (z_all : mg "all" = none) (z_isinstance : mg "isinstance" = none) (z_list : mg "list" = none) (h_number_told : Has P w K mg base 3 "number_told" P_number_told (spM K f_number_told 2)) (h_is_ascending : Has P w K mg base 1 "is_ascending" P_is_ascending (spM K f_is_ascending 1)) : Has P w K mg base 4 "numbers_fit" P_numbers_fit (spM K f_numbers_fit 2) :=
  D.hasM sc_numbers_fit b_numbers_fit fun g cdv A out s H E hr => ⟨_,
      (pss_cons (ps_if (PW.pt (pw_or (pt_not (pt_truth (pe_callB (id := "isinstance") (r := rIsi K) call_isi (by rfl) z_isinstance (by decide +kernel) (pa_cons (pv 1) (pa_cons (pe_bltn (v := .ty "list") (by rfl) z_list (by decide +kernel) rfl) pa_nil))) (by intro _; rfl))) (pw_or1 (pt_not (pt_truth (pe_callB (id := "all") (r := rAll K) (cr_all rfl) (by rfl) z_all (by decide +kernel) (pa_cons (pe_lc (own := [("item", 2)]) (g := gName 2) rfl sc_numbers_fit.nd (pi_list (pv 1)) (blkOk_by (own := [("item", 2)]) (N := N_numbers_fit) (sc := defScope s_numbers_fit) (by decide +kernel)) (fun _ _ _ _ _ => (pg_name (i := 2) sc_numbers_fit.nd rfl (.inl rfl))) (fun _ _ _ _ _ => pts_nil) (fun _ _ _ _ _ => (pe_h h_number_told hr (pa_cons (pv 0) (pa_cons (pv 2) pa_nil))))) pa_nil)) (by intro _; rfl)))))) (pss_one (ps_ret pe_bl)) pss_nil)
      (pss_one (ps_ret (pe_h h_is_ascending hr (pa_cons (pe_lc (own := [("item", 2)]) (g := gName 2) rfl sc_numbers_fit.nd (pi_list (pv 1)) (blkOk_by (own := [("item", 2)]) (N := N_numbers_fit) (sc := defScope s_numbers_fit) (by decide +kernel)) (fun _ _ _ _ _ => (pg_name (i := 2) sc_numbers_fit.nd rfl (.inl rfl))) (fun _ _ _ _ _ => pts_nil) (fun _ _ _ _ _ => (pe_ix ix_seq (pv 2) pe_int (fun _ _ => rfl)))) pa_nil))))),
      (sm_seq (sm_if (tm_or (tm_not (tm_truth (em_isi kitD_list (em_var 1)))) (tm_not (tm_truth (em_cb pc_all (am_cons (em_el (el_lc (vs := [2]) (im_list (em_var 1)) (gm_name 2) (calm_name 2) (by decide) tm_yes (em_fn (am_cons (em_var 0) (am_cons (em_var 2) am_nil))))) am_nil))))) (sm_ret (em_bl false)) sm_next)
      (sm_ret (em_fn (am_cons (em_el (el_lc (vs := [2]) (im_list (em_var 1)) (gm_name 2) (calm_name 2) (by decide) tm_yes (em_op p2_ix (em_var 2) (em_int _)))) am_nil))))⟩
theorem d_numbers_of (D : Def K mg "numbers_of" s_numbers_of P_numbers_of) (h_numbers_fit : Has P w K mg base 4 "numbers_fit" P_numbers_fit (spM K f_numbers_fit 2)) : Has P w K mg base 5 "numbers_of" P_numbers_of (spM K f_numbers_of 3) :=
  D.hasM sc_numbers_of b_numbers_of fun g cdv A out s H E hr => ⟨_,
      (pss_one (ps_ret (pe_and (pe_h h_numbers_fit hr (pa_cons (pv 0) (pa_cons (pv 2) pa_nil))) (pe_one (pe_cmpR (op_eqD hr.room.units) (pe_lc (own := [("item", 3)]) (g := gName 3) rfl sc_numbers_of.nd (pi_list (pv 2)) (blkOk_by (own := [("item", 3)]) (N := N_numbers_of) (sc := defScope s_numbers_of) (by decide +kernel)) (fun _ _ _ _ _ => (pg_name (i := 3) sc_numbers_of.nd rfl (.inl rfl))) (fun _ _ _ _ _ => pts_nil) (fun _ _ _ _ _ => (pe_ix ix_seq (pv 3) pe_int (fun _ _ => rfl)))) (pv 1) (nomark _)))))),
      (sm_ret (em_andV (em_fn (am_cons (em_var 0) (am_cons (em_var 2) am_nil))) (em_op p2_eq (em_el (el_lc (vs := [3]) (im_list (em_var 2)) (gm_name 3) (calm_name 3) (by decide) tm_yes (em_op p2_ix (em_var 3) (em_int _)))) (em_var 1))))⟩
theorem d_is_line (D : Def K mg "is_line" s_is_line P_is_line) (h_check_kind : Has P w K mg base 2 "check_kind" P_check_kind (spM K f_check_kind 1)) (h_line_fits : Has P w K mg base 4 "line_fits" P_line_fits (spM K f_line_fits 2)) : Has P w K mg base 5 "is_line" P_is_line (spM K f_is_line 2) :=
  D.hasM sc_is_line b_is_line fun g cdv A out s H E hr => ⟨_,
      (pss_cons (ps_expr (pe_h h_check_kind hr (pa_cons (pv 0) pa_nil)))
      (pss_one (ps_ret (pe_h h_line_fits hr (pa_cons (pv 0) (pa_cons (pv 1) pa_nil)))))),
      (sm_seq (sm_drop (em_fn (am_cons (em_var 0) am_nil)))
      (sm_ret (em_fn (am_cons (em_var 0) (am_cons (em_var 1) am_nil)))))⟩
theorem d_are_lines (D : Def K mg "are_lines" s_are_lines P_are_lines) (h_check_kind : Has P w K mg base 2 "check_kind" P_check_kind (spM K f_check_kind 1)) (h_lines_fit : Has P w K mg base 5 "lines_fit" P_lines_fit (spM K f_lines_fit 2)) : Has P w K mg base 6 "are_lines" P_are_lines (spM K f_are_lines 2) :=
  D.hasM sc_are_lines b_are_lines fun g cdv A out s H E hr => ⟨_,
      (pss_cons (ps_expr (pe_h h_check_kind hr (pa_cons (pv 0) pa_nil)))
      (pss_one (ps_ret (pe_h h_lines_fit hr (pa_cons (pv 0) (pa_cons (pv 1) pa_nil)))))),
      (sm_seq (sm_drop (em_fn (am_cons (em_var 0) am_nil)))
      (sm_ret (em_fn (am_cons (em_var 0) (am_cons (em_var 1) am_nil)))))⟩
theorem d_is_book (D : Def K mg "is_book" s_is_book P_is_book) (z_isinstance : mg "isinstance" = none) (z_len : mg "len" = none) (z_tuple : mg "tuple" = none) (h_lines_fit : Has P w K mg base 5 "lines_fit" P_lines_fit (spM K f_lines_fit 2)) (h_is_kind : Has P w K mg base 1 "is_kind" P_is_kind (spM K f_is_kind 1)) : Has P w K mg base 6 "is_book" P_is_book (spM K f_is_book 1) :=
  D.hasM sc_is_book b_is_book fun g cdv A out s H E hr => ⟨_,
      (pss_cons (ps_if (PW.pt (pw_or (pt_not (pt_truth (pe_callB (id := "isinstance") (r := rIsi K) call_isi (by rfl) z_isinstance (by decide +kernel) (pa_cons (pv 0) (pa_cons (pe_bltn (v := .ty "tuple") (by rfl) z_tuple (by decide +kernel) rfl) pa_nil))) (by intro _; rfl))) (pw_or1 (pt_cmpR (op_neD hr.room.units) (pe_callB (id := "len") (r := rLenA K) cA_len (by rfl) z_len (by decide +kernel) (pa_cons (pv 0) pa_nil)) pe_int (nomark _))))) (pss_one (ps_ret pe_bl)) pss_nil)
      (pss_one (ps_ret (pe_and (pe_h h_is_kind hr (pa_cons (pe_ix ix_seq (pv 0) pe_int (fun _ _ => rfl)) pa_nil)) (pe_one (pe_h h_lines_fit hr (pa_cons (pe_ix ix_seq (pv 0) pe_int (fun _ _ => rfl)) (pa_cons (pe_ix ix_seq (pv 0) pe_int (fun _ _ => rfl)) pa_nil)))))))),
      (sm_seq (sm_if (tm_or (tm_not (tm_truth (em_isi kitD_tuple (em_var 0)))) (tm_test (em_op p2_ne (em_cb pc_len (am_cons (em_var 0) am_nil)) (em_int _)))) (sm_ret (em_bl false)) sm_next)
      (sm_ret (em_andV (em_fn (am_cons (em_op p2_ix (em_var 0) (em_int _)) am_nil)) (em_fn (am_cons (em_op p2_ix (em_var 0) (em_int _)) (am_cons (em_op p2_ix (em_var 0) (em_int _)) am_nil))))))⟩
theorem d_check_names (D : Def K mg "check_names" s_check_names P_check_names) (h_names_fit : Has P w K mg base 2 "names_fit" P_names_fit (spM K f_names_fit 1)) : Has P w K mg base 3 "check_names" P_check_names (spM K f_check_names 1) :=
  D.hasM sc_check_names b_check_names fun g cdv A out s H E hr => ⟨_,
      (pss_one (ps_if (pt_not (pt_truth (pe_h h_names_fit hr (pa_cons (pv 0) pa_nil)) (by intro _; rfl))) (pss_one ps_never) pss_nil)),
      (sm_if (tm_not (tm_truth (em_fn (am_cons (em_var 0) am_nil)))) sm_never sm_next)⟩
theorem d_are_numbers (D : Def K mg "are_numbers" s_are_numbers P_are_numbers) (h_check_kind : Has P w K mg base 2 "check_kind" P_check_kind (spM K f_check_kind 1)) (h_check_names : Has P w K mg base 3 "check_names" P_check_names (spM K f_check_names 1)) (h_numbers_of : Has P w K mg base 5 "numbers_of" P_numbers_of (spM K f_numbers_of 3)) : Has P w K mg base 6 "are_numbers" P_are_numbers (spM K f_are_numbers 3) :=
  D.hasM sc_are_numbers b_are_numbers fun g cdv A out s H E hr => ⟨_,
      (pss_cons (ps_expr (pe_h h_check_kind hr (pa_cons (pv 0) pa_nil)))
      (pss_cons (ps_expr (pe_h h_check_names hr (pa_cons (pv 1) pa_nil)))
      (pss_one (ps_ret (pe_h h_numbers_of hr (pa_cons (pv 0) (pa_cons (pv 1) (pa_cons (pv 2) pa_nil)))))))),
      (sm_seq (sm_drop (em_fn (am_cons (em_var 0) am_nil)))
      (sm_seq (sm_drop (em_fn (am_cons (em_var 1) am_nil)))
      (sm_ret (em_fn (am_cons (em_var 0) (am_cons (em_var 1) (am_cons (em_var 2) am_nil)))))))⟩
theorem d_check_book (D : Def K mg "check_book" s_check_book P_check_book) (h_is_book : Has P w K mg base 6 "is_book" P_is_book (spM K f_is_book 1)) : Has P w K mg base 7 "check_book" P_check_book (spM K f_check_book 1) :=
  D.hasM sc_check_book b_check_book fun g cdv A out s H E hr => ⟨_,
      (pss_one (ps_if (pt_not (pt_truth (pe_h h_is_book hr (pa_cons (pv 0) pa_nil)) (by intro _; rfl))) (pss_one ps_never) pss_nil)),
      (sm_if (tm_not (tm_truth (em_fn (am_cons (em_var 0) am_nil)))) sm_never sm_next)⟩
theorem d_names_in (D : Def K mg "names_in" s_names_in P_names_in) (z_sorted : mg "sorted" = none) : Has P w K mg base 1 "names_in" P_names_in (spMO K f_names_in 1) :=
  D.hasMO sc_names_in b_names_in fun g cdv A out s H E hr => ⟨_,
      (pss_one (ps_ret (pe_callB (id := "sorted") (r := rSortX K w) (cr_sortX rfl hr) (by rfl) z_sorted (by decide +kernel) (pa_cons (pe_co (c := ⟨_, gName 1, _, [1, 2]⟩) (cs := [⟨_, gName 2, _, [2]⟩]) (own := [("line", 1), ("name", 2)]) isCo_set rfl makes_set rfl rfl sc_names_in.nd (pi_list (pv 0)) (blkOk_by (own := [("line", 1), ("name", 2)]) (N := N_names_in) (sc := defScope s_names_in) (by decide +kernel)) (fun _ _ _ _ _ => ⟨(pg_name (i := 1) sc_names_in.nd rfl (.inl rfl)), pts_nil, (.cons (pi_tup (pe_slice sl_X (pv 1) po_none (po_some pe_int))) (pg_name (i := 2) sc_names_in.nd rfl (.inl rfl)) pts_nil (fun _ => rfl) (by simp) .nil), fun D => pem_set (fun _ _ z => z) (pv 2) D⟩) (fun _ => rfl)) pa_nil)))),
      (o_ret (el_sortX (im_list (em_var 0)) (gmh_name 1) (calm_name 1) (by decide) tm_yes (mem_cl (vs := [2]) (Ac := AcS w) (fun _ _ _ _ _ _ h => h) (im_tup (em_sl (em_var 1) om_none (om_some (em_int _)))) (gmh_name 2) (calm_name 2) (by decide) tm_yes (mem_set (em_var 2)))))⟩
theorem d_unknowns (D : Def K mg "unknowns" s_unknowns P_unknowns) (h_check_book : Has P w K mg base 7 "check_book" P_check_book (spM K f_check_book 1)) (h_names_in : Has P w K mg base 1 "names_in" P_names_in (spMO K f_names_in 1)) : Has P w K mg base 8 "unknowns" P_unknowns (spMO K f_unknowns 1) :=
  D.hasMO sc_unknowns b_unknowns fun g cdv A out s H E hr => ⟨_,
      (pss_cons (ps_expr (pe_h h_check_book hr (pa_cons (pv 0) pa_nil)))
      (pss_one (ps_ret (pe_h h_names_in hr (pa_cons (pe_ix ix_seq (pv 0) pe_int (fun _ _ => rfl)) pa_nil))))),
      (o_seq (sm_drop (em_fn (am_cons (em_var 0) am_nil)))
      (o_ret (el_fn (am_cons (em_op p2_ix (em_var 0) (em_int _)) am_nil))))⟩
theorem d_law_is_whole (D : Def K mg "_law_is_whole" s_law_is_whole P_law_is_whole) (z_bool : mg "bool" = none) (z_int : mg "int" = none) (z_isinstance : mg "isinstance" = none) : Has P w K mg base 1 "_law_is_whole" P_law_is_whole (spM K f_law_is_whole 1) :=
  D.hasM sc_law_is_whole b_law_is_whole fun g cdv A out s H E hr => ⟨_,
      (pss_one (ps_ret (pe_and (pe_callB (id := "isinstance") (r := rIsi K) call_isi (by rfl) z_isinstance (by decide +kernel) (pa_cons (pv 0) (pa_cons (pe_bltn (v := .ty "int") (by rfl) z_int (by decide +kernel) rfl) pa_nil))) (pe_one (pe_not (pe_callB (id := "isinstance") (r := rIsi K) call_isi (by rfl) z_isinstance (by decide +kernel) (pa_cons (pv 0) (pa_cons (pe_bltn (v := .ty "bool") (by rfl) z_bool (by decide +kernel) rfl) pa_nil)))))))),
      (sm_ret (em_andV (em_isi kitD_int (em_var 0)) (em_notV (em_isi kitD_bool (em_var 0)))))⟩
theorem d_law_two (D : Def K mg "_law_two" s_law_two P_law_two) (z_int : mg "int" = none) : Has P w K mg base 1 "_law_two" P_law_two (spM K f_law_two 1) :=
  D.hasM sc_law_two b_law_two fun g cdv A out s H E hr => ⟨_,
      (pss_one (ps_ret (pe_op op_shlNN pe_int (pe_callTy (T := "int") (r := rIntA) cA_int (by rfl) z_int (by decide +kernel) (pa_cons (pv 0) pa_nil))))),
      (sm_ret (em_op p2_shl (em_int _) (em_cb pc_int (am_cons (em_var 0) am_nil))))⟩
theorem d_law_bits (D : Def K mg "_law_bits" s_law_bits P_law_bits) (h_law_two : Has P w K mg base 1 "_law_two" P_law_two (spM K f_law_two 1)) : Has P w K mg base 2 "_law_bits" P_law_bits (spM K f_law_bits 1) :=
  D.hasM sc_law_bits b_law_bits fun g cdv A out s H E hr => ⟨_,
      (pss_cons (ps_set (i := 1) sc_law_bits.nd rfl (.inl rfl) pe_int)
      (pss_cons (ps_while PassesOwn.never (pt_cmpR op_le (pe_h h_law_two hr (pa_cons (pv 1) pa_nil)) (pv 0) (nomark _)) (pss_one (ps_set (i := 1) sc_law_bits.nd rfl (.inl rfl) (pe_op op_addX (pv 1) pe_int))))
      (pss_one (ps_ret (pv 1))))),
      (sm_seq (sm_asg (em_int _) (gm_name 1) (calm_name 1))
      (sm_seq (sm_while 100000 (tm_test (em_op p2_le (em_fn (am_cons (em_var 1) am_nil)) (em_var 0))) (sm_asg (em_op p2_add (em_var 1) (em_int _)) (gm_name 1) (calm_name 1)))
      (sm_ret (em_var 1))))⟩
theorem d_law_rest (D : Def K mg "_law_rest" s_law_rest P_law_rest) (z_int : mg "int" = none) (h_law_bits : Has P w K mg base 2 "_law_bits" P_law_bits (spM K f_law_bits 1)) (h_law_two : Has P w K mg base 1 "_law_two" P_law_two (spM K f_law_two 1)) : Has P w K mg base 3 "_law_rest" P_law_rest (spM K f_law_rest 3) :=
  D.hasM sc_law_rest b_law_rest fun g cdv A out s H E hr => ⟨_,
      (pss_cons (ps_if (PW.pt (pw_or (pt_cmpR (op_eqD hr.room.units) (pv 2) pe_int (nomark _)) (pw_or1 (pt_cmpR (op_eqD hr.room.units) (pv 0) pe_str (nomark _))))) (pss_one (ps_ret (pe_ifExp (pt_cmpR (op_eqD hr.room.units) (pv 2) pe_int (nomark _)) (pv 1) (pe_op op_modN (pe_callTy (T := "int") (r := rIntA) cA_int (by rfl) z_int (by decide +kernel) (pa_cons (pv 1) pa_nil)) (pe_callTy (T := "int") (r := rIntA) cA_int (by rfl) z_int (by decide +kernel) (pa_cons (pv 2) pa_nil)))))) pss_nil)
      (pss_cons (ps_set (i := 3) sc_law_rest.nd rfl (.inl rfl) (pv 1))
      (pss_cons (ps_while PassesOwn.never (pt_cmpR op_ge (pe_h h_law_bits hr (pa_cons (pv 3) pa_nil)) (pe_h h_law_bits hr (pa_cons (pv 2) pa_nil)) (nomark _)) (pss_one (ps_set (i := 3) sc_law_rest.nd rfl (.inl rfl) (pe_op op_xorN (pv 3) (pe_op op_mulXX (pv 2) (pe_h h_law_two hr (pa_cons (pe_op op_sub (pe_h h_law_bits hr (pa_cons (pv 3) pa_nil)) (pe_h h_law_bits hr (pa_cons (pv 2) pa_nil))) pa_nil)))))))
      (pss_one (ps_ret (pv 3)))))),
      (sm_seq (sm_if (tm_or (tm_test (em_op p2_eq (em_var 2) (em_int _))) (tm_test (em_op p2_eq (em_var 0) (em_str _)))) (sm_ret (em_if (tm_test (em_op p2_eq (em_var 2) (em_int _))) (em_var 1) (em_op p2_mod (em_cb pc_int (am_cons (em_var 1) am_nil)) (em_cb pc_int (am_cons (em_var 2) am_nil))))) sm_next)
      (sm_seq (sm_asg (em_var 1) (gm_name 3) (calm_name 3))
      (sm_seq (sm_while 100000 (tm_test (em_op p2_ge (em_fn (am_cons (em_var 3) am_nil)) (em_fn (am_cons (em_var 2) am_nil)))) (sm_asg (em_op p2_xor (em_var 3) (em_op p2_mul (em_var 2) (em_fn (am_cons (em_op p2_sub (em_fn (am_cons (em_var 3) am_nil)) (em_fn (am_cons (em_var 2) am_nil))) am_nil)))) (gm_name 3) (calm_name 3)))
      (sm_ret (em_var 3)))))⟩
theorem d_law_by (D : Def K mg "_law_by" s_law_by P_law_by) (h_law_random : Has P w K mg base 2 "_law_random" P_law_random (spM K f_law_random 2)) : Has P w K mg base 3 "_law_by" P_law_by (spM K f_law_by 2) :=
  D.hasM sc_law_by b_law_by fun g cdv A out s H E hr => ⟨_,
      (pss_cons (ps_if (pt_cmpR (op_eqD hr.room.units) (pe_h h_law_random hr (pa_cons (pv 0) (pa_cons pe_int pa_nil))) pe_int (nomark _)) (pss_one (ps_ret (pe_h h_law_random hr (pa_cons (pv 0) (pa_cons (pe_ifExp (pt_cmpR (op_eqD hr.room.units) (pv 1) pe_str (nomark _)) (pe_op op_powX pe_int pe_int) (pe_op op_powX pe_int pe_int)) pa_nil))))) pss_nil)
      (pss_cons (ps_set (i := 2) sc_law_by.nd rfl (.inl rfl) (pe_ifExp (pt_cmpR (op_eqD hr.room.units) (pv 1) pe_str (nomark _)) (pe_lst (pa_cons pe_int (pa_cons pe_int (pa_cons pe_int (pa_cons pe_int (pa_cons pe_int (pa_cons pe_int (pa_cons pe_int (pa_cons pe_int (pa_cons pe_int (pa_cons pe_int (pa_cons pe_int (pa_cons pe_int pa_nil))))))))))))) (pe_lst (pa_cons pe_int (pa_cons pe_int (pa_cons pe_int (pa_cons pe_int (pa_cons pe_int (pa_cons pe_int (pa_cons pe_int (pa_cons pe_int (pa_cons pe_int (pa_cons pe_int (pa_cons pe_int (pa_cons pe_int pa_nil)))))))))))))))
      (pss_one (ps_ret (pe_ix ix_seq (pv 2) (pe_h h_law_random hr (pa_cons (pv 0) (pa_cons pe_int pa_nil))) (fun _ _ => rfl)))))),
      (sm_seq (sm_if (tm_test (em_op p2_eq (em_fn (am_gen 0 (am_cons (em_int _) am_nil))) (em_int _))) (sm_ret (em_fn (am_gen 0 (am_cons (em_if (tm_test (em_op p2_eq (em_var 1) (em_str _))) (em_op p2_pow (em_int _) (em_int _)) (em_op p2_pow (em_int _) (em_int _))) am_nil)))) sm_next)
      (sm_seq (sm_asg (em_if (tm_test (em_op p2_eq (em_var 1) (em_str _))) (em_el (el_lst (am_cons (em_int _) (am_cons (em_int _) (am_cons (em_int _) (am_cons (em_int _) (am_cons (em_int _) (am_cons (em_int _) (am_cons (em_int _) (am_cons (em_int _) (am_cons (em_int _) (am_cons (em_int _) (am_cons (em_int _) (am_cons (em_int _) am_nil)))))))))))))) (em_el (el_lst (am_cons (em_int _) (am_cons (em_int _) (am_cons (em_int _) (am_cons (em_int _) (am_cons (em_int _) (am_cons (em_int _) (am_cons (em_int _) (am_cons (em_int _) (am_cons (em_int _) (am_cons (em_int _) (am_cons (em_int _) (am_cons (em_int _) am_nil))))))))))))))) (gm_name 2) (calm_name 2))
      (sm_ret (em_op p2_ix (em_var 2) (em_fn (am_gen 0 (am_cons (em_int _) am_nil)))))))⟩
theorem d_law_number (D : Def K mg "_law_number" s_law_number P_law_number) (h_law_random : Has P w K mg base 2 "_law_random" P_law_random (spM K f_law_random 2)) : Has P w K mg base 3 "_law_number" P_law_number (spM K f_law_number 2) :=
  D.hasM sc_law_number b_law_number fun g cdv A out s H E hr => ⟨_,
      (pss_cons (ps_set (i := 2) sc_law_number.nd rfl (.inl rfl) (pe_ix ix_seq (pe_lst (pa_cons pe_int (pa_cons pe_int (pa_cons pe_int (pa_cons (pe_ifExp (pt_cmpR (op_eqD hr.room.units) (pv 1) pe_str (nomark _)) (pe_op op_powX pe_int pe_int) (pe_op op_powX pe_int pe_int)) pa_nil))))) (pe_h h_law_random hr (pa_cons (pv 0) (pa_cons pe_int pa_nil))) (fun _ _ => rfl)))
      (pss_cons (ps_set (i := 3) sc_law_number.nd rfl (.inl rfl) (pe_h h_law_random hr (pa_cons (pv 0) (pa_cons (pv 2) pa_nil))))
      (pss_one (ps_ret (pe_ifExp (PW.pt (pw_and (pt_cmpR (op_eqD hr.room.units) (pv 1) pe_str (nomark _)) (pw_and1 (pt_cmpR (op_eqD hr.room.units) (pe_h h_law_random hr (pa_cons (pv 0) (pa_cons pe_int pa_nil))) pe_int (nomark _))))) (pe_op op_sub pe_int (pv 3)) (pv 3)))))),
      (sm_seq (sm_asg (em_op p2_ix (em_el (el_lst (am_cons (em_int _) (am_cons (em_int _) (am_cons (em_int _) (am_cons (em_if (tm_test (em_op p2_eq (em_var 1) (em_str _))) (em_op p2_pow (em_int _) (em_int _)) (em_op p2_pow (em_int _) (em_int _))) am_nil)))))) (em_fn (am_gen 0 (am_cons (em_int _) am_nil)))) (gm_name 2) (calm_name 2))
      (sm_seq (sm_asg (em_fn (am_gen 0 (am_cons (em_var 2) am_nil))) (gm_name 3) (calm_name 3))
      (sm_ret (em_if (tm_and (tm_test (em_op p2_eq (em_var 1) (em_str _))) (tm_test (em_op p2_eq (em_fn (am_gen 0 (am_cons (em_int _) am_nil))) (em_int _)))) (em_op p2_sub (em_int _) (em_var 3)) (em_var 3)))))⟩
theorem d_law_line (D : Def K mg "_law_line" s_law_line P_law_line) (z_int : mg "int" = none) (z_len : mg "len" = none) (h_law_random : Has P w K mg base 2 "_law_random" P_law_random (spM K f_law_random 2)) (h_law_by : Has P w K mg base 3 "_law_by" P_law_by (spM K f_law_by 2)) (h_law_rest : Has P w K mg base 3 "_law_rest" P_law_rest (spM K f_law_rest 3)) (h_law_number : Has P w K mg base 3 "_law_number" P_law_number (spM K f_law_number 2)) : Has P w K mg base 4 "_law_line" P_law_line (spM K f_law_line 3) :=
  D.hasM sc_law_line b_law_line fun g cdv A out s H E hr => ⟨_,
      (pss_cons (ps_set (i := 3) sc_law_line.nd rfl (.inl rfl) (pe_h h_law_random hr (pa_cons (pv 0) (pa_cons (pe_callB (id := "len") (r := rLenA K) cA_len (by rfl) z_len (by decide +kernel) (pa_cons (pv 2) pa_nil)) pa_nil))))
      (pss_cons (ps_set (i := 4) sc_law_line.nd rfl (.inl rfl) (pe_op op_modN (pe_callTy (T := "int") (r := rIntA) cA_int (by rfl) z_int (by decide +kernel) (pa_cons (pe_op op_addX (pe_op op_addX (pv 3) pe_int) (pe_h h_law_random hr (pa_cons (pv 0) (pa_cons (pe_op op_sub (pe_callB (id := "len") (r := rLenA K) cA_len (by rfl) z_len (by decide +kernel) (pa_cons (pv 2) pa_nil)) pe_int) pa_nil)))) pa_nil)) (pe_callB (id := "len") (r := rLenA K) cA_len (by rfl) z_len (by decide +kernel) (pa_cons (pv 2) pa_nil))))
      (pss_cons (ps_set (i := 5) sc_law_line.nd rfl (.inl rfl) (pe_h h_law_by hr (pa_cons (pv 0) (pa_cons (pv 1) pa_nil))))
      (pss_one (ps_ret (pe_tup (pa_cons (pe_ix ix_seq (pv 2) (pv 3) (fun _ _ => rfl)) (pa_cons (pe_ix ix_seq (pv 2) (pv 4) (fun _ _ => rfl)) (pa_cons (pe_h h_law_rest hr (pa_cons (pv 1) (pa_cons (pe_h h_law_number hr (pa_cons (pv 0) (pa_cons (pv 1) pa_nil))) (pa_cons (pv 5) pa_nil)))) (pa_cons (pv 5) pa_nil)))))))))),
      (sm_seq (sm_asg (em_fn (am_gen 0 (am_cons (em_cb pc_len (am_cons (em_var 2) am_nil)) am_nil))) (gm_name 3) (calm_name 3))
      (sm_seq (sm_asg (em_op p2_mod (em_cb pc_int (am_cons (em_op p2_add (em_op p2_add (em_var 3) (em_int _)) (em_fn (am_gen 0 (am_cons (em_op p2_sub (em_cb pc_len (am_cons (em_var 2) am_nil)) (em_int _)) am_nil)))) am_nil)) (em_cb pc_len (am_cons (em_var 2) am_nil))) (gm_name 4) (calm_name 4))
      (sm_seq (sm_asg (em_fn (am_gen 0 (am_cons (em_var 1) am_nil))) (gm_name 5) (calm_name 5))
      (sm_ret (em_tup (am_cons (em_op p2_ix (em_var 2) (em_var 3)) (am_cons (em_op p2_ix (em_var 2) (em_var 4)) (am_cons (em_fn (am_cons (em_var 1) (am_cons (em_fn (am_gen 0 (am_cons (em_var 1) am_nil))) (am_cons (em_var 5) am_nil)))) (am_cons (em_var 5) am_nil)))))))))⟩
theorem d_law_lines (D : Def K mg "_law_lines" s_law_lines P_law_lines) (z_range : mg "range" = none) (h_law_random : Has P w K mg base 2 "_law_random" P_law_random (spM K f_law_random 2)) (h_law_line : Has P w K mg base 4 "_law_line" P_law_line (spM K f_law_line 3)) : Has P w K mg base 5 "_law_lines" P_law_lines (spM K f_law_lines 4) :=
  D.hasM sc_law_lines b_law_lines fun g cdv A out s H E hr => ⟨_,
      (pss_one (ps_ret (pe_lc (own := [("_law_turn", 4)]) (g := gName 4) rfl sc_law_lines.nd (pi_range1 (by rfl) z_range (pa_cons (pe_h h_law_random hr (pa_cons (pv 0) (pa_cons (pe_op op_addX (pv 3) pe_int) pa_nil))) pa_nil)) (blkOk_by (own := [("_law_turn", 4)]) (N := N_law_lines) (sc := defScope s_law_lines) (by decide +kernel)) (fun _ _ _ _ _ => (pg_name (i := 4) sc_law_lines.nd rfl (.inl rfl))) (fun _ _ _ _ _ => pts_nil) (fun _ _ _ _ _ => (pe_h h_law_line hr (pa_cons (pv 0) (pa_cons (pv 1) (pa_cons (pv 2) pa_nil)))))))),
      (sm_ret (em_el (el_lc (vs := [4]) (im_rng1 (am_cons (em_fn (am_gen 0 (am_cons (em_op p2_add (em_var 3) (em_int _)) am_nil))) am_nil)) (gm_name 4) (calm_name 4) (by decide) tm_yes (em_fn (am_gen 0 (am_cons (em_var 1) (am_cons (em_var 2) am_nil)))))))⟩
theorem d_law_names_in (D : Def K mg "_law_names_in" s_law_names_in P_law_names_in) (z_sorted : mg "sorted" = none) : Has P w K mg base 1 "_law_names_in" P_law_names_in (spM K f_law_names_in 1) :=
  D.hasM sc_law_names_in b_law_names_in fun g cdv A out s H E hr => ⟨_,
      (pss_cons (ps_set (i := 1) sc_law_names_in.nd rfl (.inr rfl) (pe_lst pa_nil))
      (pss_cons (ps_for PassesOwn.never rfl (pi_list (pv 0)) (pg_tup rfl (pgs_cons (pg_name (i := 2) sc_law_names_in.nd rfl (.inl rfl)) (pgs_cons (pg_name (i := 3) sc_law_names_in.nd rfl (.inl rfl)) (pgs_cons (pg_name (i := 4) sc_law_names_in.nd rfl (.inl rfl)) (pgs_cons (pg_name (i := 5) sc_law_names_in.nd rfl (.inl rfl)) pgs_nil))))) (pss_one (ps_set (i := 1) sc_law_names_in.nd rfl (.inr rfl) (pe_op op_addX (pv 1) (pe_lc (own := [("_law_name", 6)]) (g := gName 6) rfl sc_law_names_in.nd (pi_list (pe_lst (pa_cons (pv 2) (pa_cons (pv 3) pa_nil)))) (blkOk_by (own := [("_law_name", 6)]) (N := N_law_names_in) (sc := defScope s_law_names_in) (by decide +kernel)) (fun _ _ _ _ _ => (pg_name (i := 6) sc_law_names_in.nd rfl (.inl rfl))) (fun _ _ _ _ _ => (pts_one (pt_cmpR (op_ninX (units65 hr.room)) (pv 6) (pv 1) (by rfl)))) (fun _ _ _ _ _ => (pv 6)))))))
      (pss_one (ps_ret (pe_callB (id := "sorted") (r := rSortD K) (cr_sortD hr) (by rfl) z_sorted (by decide +kernel) (pa_cons (pv 1) pa_nil)))))),
      (sm_seq (sm_asg (em_el (el_lst am_nil)) (gm_name 1) (calm_name 1))
      (sm_seq (sm_for (im_list (em_var 0)) (gm_tup (gms_cons (gm_name 2) (calm_name 2) (gms_cons (gm_name 3) (calm_name 3) (gms_cons (gm_name 4) (calm_name 4) (gms_cons (gm_name 5) (calm_name 5) gms_nil))))) (calm_tup (calms_cons (calm_name 2) (calms_cons (calm_name 3) (calms_cons (calm_name 4) (calms_cons (calm_name 5) calms_nil))))) (sm_asg (em_op p2_add (em_var 1) (em_el (el_lc (vs := [6]) (im_list (em_el (el_lst (am_cons (em_var 2) (am_cons (em_var 3) am_nil))))) (gm_name 6) (calm_name 6) (by decide) (tm_test (em_op p2_nin (em_var 6) (em_var 1))) (em_var 6)))) (gm_name 1) (calm_name 1)))
      (sm_ret (em_el (el_sort (am_cons (em_var 1) am_nil))))))⟩
theorem d_law_is_name (D : Def K mg "_law_is_name" s_law_is_name P_law_is_name) (z_isinstance : mg "isinstance" = none) (z_len : mg "len" = none) (z_str : mg "str" = none) : Has P w K mg base 1 "_law_is_name" P_law_is_name (spM K f_law_is_name 1) :=
  D.hasM sc_law_is_name b_law_is_name fun g cdv A out s H E hr => ⟨_,
      (pss_cons (ps_if (pt_not (pt_truth (pe_callB (id := "isinstance") (r := rIsi K) call_isi (by rfl) z_isinstance (by decide +kernel) (pa_cons (pv 0) (pa_cons (pe_bltn (v := .ty "str") (by rfl) z_str (by decide +kernel) rfl) pa_nil))) (by intro _; rfl))) (pss_one (ps_ret pe_bl)) pss_nil)
      (pss_cons (ps_set (i := 1) sc_law_is_name.nd rfl (.inl rfl) pe_int)
      (pss_cons (ps_while PassesOwn.never (PW.pt (pw_and (pt_cmpR op_ltX (pv 1) (pe_callB (id := "len") (r := rLenA K) cA_len (by rfl) z_len (by decide +kernel) (pa_cons (pv 0) pa_nil)) (nomark _)) (pw_and1 (pt_cmpR (op_inX (units65 hr.room)) (pe_ix ix_seq (pv 0) (pv 1) (fun _ _ => rfl)) pe_str (by rfl))))) (pss_one (ps_set (i := 1) sc_law_is_name.nd rfl (.inl rfl) (pe_op op_addX (pv 1) pe_int))))
      (pss_cons (ps_set (i := 2) sc_law_is_name.nd rfl (.inl rfl) (pe_slice sl_X (pv 0) (po_some (pv 1)) po_none))
      (pss_cons (ps_if (PW.pt (pw_or (pt_not (pt_chain op_le op_le pe_int (pv 1) pe_int)) (pw_or (pt_cmpR op_gt (pe_callB (id := "len") (r := rLenA K) cA_len (by rfl) z_len (by decide +kernel) (pa_cons (pv 2) pa_nil)) pe_int (nomark _)) (pw_or1 (pt_cmpR (op_neE hr.room.units) (pe_lc (own := [("_law_sign", 3)]) (g := gName 3) rfl sc_law_is_name.nd (pi_str (pv 2)) (blkOk_by (own := [("_law_sign", 3)]) (N := N_law_is_name) (sc := defScope s_law_is_name) (by decide +kernel)) (fun _ _ _ _ _ => (pg_name (i := 3) sc_law_is_name.nd rfl (.inl rfl))) (fun _ _ _ _ _ => (pts_one (pt_cmpR (op_ninX (units65 hr.room)) (pv 3) pe_str (by rfl)))) (fun _ _ _ _ _ => (pv 3))) (pe_lst pa_nil) (nomark _)))))) (pss_one (ps_ret pe_bl)) pss_nil)
      (pss_one (ps_ret (pe_or (pe_cmpR (op_eqD hr.room.units) (pv 2) pe_str (nomark _)) (pe_or (pe_cmpR (op_eqD hr.room.units) (pv 2) pe_str (nomark _)) (pe_one (pe_cmpR (op_neD hr.room.units) (pe_ix ix_seq (pv 2) pe_int (fun _ _ => rfl)) pe_str (nomark _)))))))))))),
      (sm_seq (sm_if (tm_not (tm_truth (em_isi kitD_str (em_var 0)))) (sm_ret (em_bl false)) sm_next)
      (sm_seq (sm_asg (em_int _) (gm_name 1) (calm_name 1))
      (sm_seq (sm_while 100000 (tm_and (tm_test (em_op p2_lt (em_var 1) (em_cb pc_len (am_cons (em_var 0) am_nil)))) (tm_test (em_op p2_in (em_op p2_ix (em_var 0) (em_var 1)) (em_str _)))) (sm_asg (em_op p2_add (em_var 1) (em_int _)) (gm_name 1) (calm_name 1)))
      (sm_seq (sm_asg (em_sl (em_var 0) (om_some (em_var 1)) om_none) (gm_name 2) (calm_name 2))
      (sm_seq (sm_if (tm_or (tm_not (tm_test (em_chain p2_le p2_le (em_int _) (em_var 1) (em_int _)))) (tm_or (tm_test (em_op p2_gt (em_cb pc_len (am_cons (em_var 2) am_nil)) (em_int _))) (tm_test (em_op p2_neE (em_el (el_lc (vs := [3]) (im_str (em_var 2)) (gm_name 3) (calm_name 3) (by decide) (tm_test (em_op p2_nin (em_var 3) (em_str _))) (em_var 3))) (em_el (el_lst am_nil)))))) (sm_ret (em_bl false)) sm_next)
      (sm_ret (em_orV (em_op p2_eq (em_var 2) (em_str _)) (em_orV (em_op p2_eq (em_var 2) (em_str _)) (em_op p2_ne (em_op p2_ix (em_var 2) (em_int _)) (em_str _))))))))))⟩
theorem d_law_is_number (D : Def K mg "_law_is_number" s_law_is_number P_law_is_number) (h_law_is_whole : Has P w K mg base 1 "_law_is_whole" P_law_is_whole (spM K f_law_is_whole 1)) : Has P w K mg base 2 "_law_is_number" P_law_is_number (spM K f_law_is_number 2) :=
  D.hasM sc_law_is_number b_law_is_number fun g cdv A out s H E hr => ⟨_,
      (pss_one (ps_ret (pe_and (pe_h h_law_is_whole hr (pa_cons (pv 1) pa_nil)) (pe_one (pe_or (pe_cmpR (op_eqD hr.room.units) (pv 0) pe_str (nomark _)) (pe_one (pe_cmpR op_ge (pv 1) pe_int (nomark _)))))))),
      (sm_ret (em_andV (em_fn (am_cons (em_var 1) am_nil)) (em_orV (em_op p2_eq (em_var 0) (em_str _)) (em_op p2_ge (em_var 1) (em_int _)))))⟩
theorem d_law_is_line (D : Def K mg "_law_is_line" s_law_is_line P_law_is_line) (z_isinstance : mg "isinstance" = none) (z_len : mg "len" = none) (z_tuple : mg "tuple" = none) (h_law_is_name : Has P w K mg base 1 "_law_is_name" P_law_is_name (spM K f_law_is_name 1)) (h_law_is_whole : Has P w K mg base 1 "_law_is_whole" P_law_is_whole (spM K f_law_is_whole 1)) (h_law_is_number : Has P w K mg base 2 "_law_is_number" P_law_is_number (spM K f_law_is_number 2)) (h_law_bits : Has P w K mg base 2 "_law_bits" P_law_bits (spM K f_law_bits 1)) : Has P w K mg base 3 "_law_is_line" P_law_is_line (spM K f_law_is_line 2) :=
  D.hasM sc_law_is_line b_law_is_line fun g cdv A out s H E hr => ⟨_,
      (pss_cons (ps_if (PW.pt (pw_or (pt_not (pt_truth (pe_callB (id := "isinstance") (r := rIsi K) call_isi (by rfl) z_isinstance (by decide +kernel) (pa_cons (pv 1) (pa_cons (pe_bltn (v := .ty "tuple") (by rfl) z_tuple (by decide +kernel) rfl) pa_nil))) (by intro _; rfl))) (pw_or (pt_cmpR (op_neD hr.room.units) (pe_callB (id := "len") (r := rLenA K) cA_len (by rfl) z_len (by decide +kernel) (pa_cons (pv 1) pa_nil)) pe_int (nomark _)) (pw_or (pt_not (pt_truth (pe_h h_law_is_name hr (pa_cons (pe_ix ix_seq (pv 1) pe_int (fun _ _ => rfl)) pa_nil)) (by intro _; rfl))) (pw_or (pt_not (pt_truth (pe_h h_law_is_name hr (pa_cons (pe_ix ix_seq (pv 1) pe_int (fun _ _ => rfl)) pa_nil)) (by intro _; rfl))) (pw_or1 (pt_cmpR (op_eqD hr.room.units) (pe_ix ix_seq (pv 1) pe_int (fun _ _ => rfl)) (pe_ix ix_seq (pv 1) pe_int (fun _ _ => rfl)) (nomark _)))))))) (pss_one (ps_ret pe_bl)) pss_nil)
      (pss_cons (ps_if (PW.pt (pw_or (pt_not (pt_truth (pe_h h_law_is_number hr (pa_cons (pv 0) (pa_cons (pe_ix ix_seq (pv 1) pe_int (fun _ _ => rfl)) pa_nil))) (by intro _; rfl))) (pw_or (pt_not (pt_truth (pe_h h_law_is_whole hr (pa_cons (pe_ix ix_seq (pv 1) pe_int (fun _ _ => rfl)) pa_nil)) (by intro _; rfl))) (pw_or1 (pt_cmpR op_ltX (pe_ix ix_seq (pv 1) pe_int (fun _ _ => rfl)) pe_int (nomark _)))))) (pss_one (ps_ret pe_bl)) pss_nil)
      (pss_cons (ps_if (pt_cmpR (op_eqD hr.room.units) (pe_ix ix_seq (pv 1) pe_int (fun _ _ => rfl)) pe_int (nomark _)) (pss_one (ps_ret pe_bl)) pss_nil)
      (pss_one (ps_ret (pe_ifExp (pt_cmpR (op_eqD hr.room.units) (pv 0) pe_str (nomark _)) (pe_chain op_le op_ltX pe_int (pe_ix ix_seq (pv 1) pe_int (fun _ _ => rfl)) (pe_ix ix_seq (pv 1) pe_int (fun _ _ => rfl))) (pe_cmpR op_ltX (pe_h h_law_bits hr (pa_cons (pe_ix ix_seq (pv 1) pe_int (fun _ _ => rfl)) pa_nil)) (pe_h h_law_bits hr (pa_cons (pe_ix ix_seq (pv 1) pe_int (fun _ _ => rfl)) pa_nil)) (nomark _)))))))),
      (sm_seq (sm_if (tm_or (tm_not (tm_truth (em_isi kitD_tuple (em_var 1)))) (tm_or (tm_test (em_op p2_ne (em_cb pc_len (am_cons (em_var 1) am_nil)) (em_int _))) (tm_or (tm_not (tm_truth (em_fn (am_cons (em_op p2_ix (em_var 1) (em_int _)) am_nil)))) (tm_or (tm_not (tm_truth (em_fn (am_cons (em_op p2_ix (em_var 1) (em_int _)) am_nil)))) (tm_test (em_op p2_eq (em_op p2_ix (em_var 1) (em_int _)) (em_op p2_ix (em_var 1) (em_int _)))))))) (sm_ret (em_bl false)) sm_next)
      (sm_seq (sm_if (tm_or (tm_not (tm_truth (em_fn (am_cons (em_var 0) (am_cons (em_op p2_ix (em_var 1) (em_int _)) am_nil))))) (tm_or (tm_not (tm_truth (em_fn (am_cons (em_op p2_ix (em_var 1) (em_int _)) am_nil)))) (tm_test (em_op p2_lt (em_op p2_ix (em_var 1) (em_int _)) (em_int _))))) (sm_ret (em_bl false)) sm_next)
      (sm_seq (sm_if (tm_test (em_op p2_eq (em_op p2_ix (em_var 1) (em_int _)) (em_int _))) (sm_ret (em_bl true)) sm_next)
      (sm_ret (em_if (tm_test (em_op p2_eq (em_var 0) (em_str _))) (em_chain p2_le p2_lt (em_int _) (em_op p2_ix (em_var 1) (em_int _)) (em_op p2_ix (em_var 1) (em_int _))) (em_op p2_lt (em_fn (am_cons (em_op p2_ix (em_var 1) (em_int _)) am_nil)) (em_fn (am_cons (em_op p2_ix (em_var 1) (em_int _)) am_nil))))))))⟩
theorem d_law_are_lines (D : Def K mg "_law_are_lines" s_law_are_lines P_law_are_lines) (z_isinstance : mg "isinstance" = none) (z_list : mg "list" = none) (h_law_is_line : Has P w K mg base 3 "_law_is_line" P_law_is_line (spM K f_law_is_line 2)) : Has P w K mg base 4 "_law_are_lines" P_law_are_lines (spM K f_law_are_lines 2) :=
  D.hasM sc_law_are_lines b_law_are_lines fun g cdv A out s H E hr => ⟨_,
      (pss_one (ps_ret (pe_and (pe_callB (id := "isinstance") (r := rIsi K) call_isi (by rfl) z_isinstance (by decide +kernel) (pa_cons (pv 1) (pa_cons (pe_bltn (v := .ty "list") (by rfl) z_list (by decide +kernel) rfl) pa_nil))) (pe_one (pe_cmpR (op_eqE hr.room.units) (pe_lc (own := [("_law_item", 2)]) (g := gName 2) rfl sc_law_are_lines.nd (pi_list (pv 1)) (blkOk_by (own := [("_law_item", 2)]) (N := N_law_are_lines) (sc := defScope s_law_are_lines) (by decide +kernel)) (fun _ _ _ _ _ => (pg_name (i := 2) sc_law_are_lines.nd rfl (.inl rfl))) (fun _ _ _ _ _ => (pts_one (pt_not (pt_truth (pe_h h_law_is_line hr (pa_cons (pv 0) (pa_cons (pv 2) pa_nil))) (by intro _; rfl))))) (fun _ _ _ _ _ => (pv 2))) (pe_lst pa_nil) (nomark _)))))),
      (sm_ret (em_andV (em_isi kitD_list (em_var 1)) (em_op p2_eqE (em_el (el_lc (vs := [2]) (im_list (em_var 1)) (gm_name 2) (calm_name 2) (by decide) (tm_not (tm_truth (em_fn (am_cons (em_var 0) (am_cons (em_var 2) am_nil))))) (em_var 2))) (em_el (el_lst am_nil)))))⟩
theorem d_law_is_book (D : Def K mg "_law_is_book" s_law_is_book P_law_is_book) (z_isinstance : mg "isinstance" = none) (z_len : mg "len" = none) (z_str : mg "str" = none) (z_tuple : mg "tuple" = none) (h_law_are_lines : Has P w K mg base 4 "_law_are_lines" P_law_are_lines (spM K f_law_are_lines 2)) : Has P w K mg base 5 "_law_is_book" P_law_is_book (spM K f_law_is_book 1) :=
  D.hasM sc_law_is_book b_law_is_book fun g cdv A out s H E hr => ⟨_,
      (pss_cons (ps_if (PW.pt (pw_or (pt_not (pt_truth (pe_callB (id := "isinstance") (r := rIsi K) call_isi (by rfl) z_isinstance (by decide +kernel) (pa_cons (pv 0) (pa_cons (pe_bltn (v := .ty "tuple") (by rfl) z_tuple (by decide +kernel) rfl) pa_nil))) (by intro _; rfl))) (pw_or (pt_cmpR (op_neD hr.room.units) (pe_callB (id := "len") (r := rLenA K) cA_len (by rfl) z_len (by decide +kernel) (pa_cons (pv 0) pa_nil)) pe_int (nomark _)) (pw_or (pt_not (pt_truth (pe_callB (id := "isinstance") (r := rIsi K) call_isi (by rfl) z_isinstance (by decide +kernel) (pa_cons (pe_ix ix_seq (pv 0) pe_int (fun _ _ => rfl)) (pa_cons (pe_bltn (v := .ty "str") (by rfl) z_str (by decide +kernel) rfl) pa_nil))) (by intro _; rfl))) (pw_or1 (pt_cmpR (op_ninX (units65 hr.room)) (pe_ix ix_seq (pv 0) pe_int (fun _ _ => rfl)) (pe_lst (pa_cons pe_str (pa_cons pe_str pa_nil))) (by rfl))))))) (pss_one (ps_ret pe_bl)) pss_nil)
      (pss_one (ps_ret (pe_h h_law_are_lines hr (pa_cons (pe_ix ix_seq (pv 0) pe_int (fun _ _ => rfl)) (pa_cons (pe_ix ix_seq (pv 0) pe_int (fun _ _ => rfl)) pa_nil)))))),
      (sm_seq (sm_if (tm_or (tm_not (tm_truth (em_isi kitD_tuple (em_var 0)))) (tm_or (tm_test (em_op p2_ne (em_cb pc_len (am_cons (em_var 0) am_nil)) (em_int _))) (tm_or (tm_not (tm_truth (em_isi kitD_str (em_op p2_ix (em_var 0) (em_int _))))) (tm_test (em_op p2_nin (em_op p2_ix (em_var 0) (em_int _)) (em_el (el_lst (am_cons (em_str _) (am_cons (em_str _) am_nil))))))))) (sm_ret (em_bl false)) sm_next)
      (sm_ret (em_fn (am_cons (em_op p2_ix (em_var 0) (em_int _)) (am_cons (em_op p2_ix (em_var 0) (em_int _)) am_nil)))))⟩
theorem d_law_are_numbers (D : Def K mg "_law_are_numbers" s_law_are_numbers P_law_are_numbers) (z_isinstance : mg "isinstance" = none) (z_len : mg "len" = none) (z_list : mg "list" = none) (z_tuple : mg "tuple" = none) (h_law_is_number : Has P w K mg base 2 "_law_is_number" P_law_is_number (spM K f_law_is_number 2)) (h_law_is_name : Has P w K mg base 1 "_law_is_name" P_law_is_name (spM K f_law_is_name 1)) : Has P w K mg base 3 "_law_are_numbers" P_law_are_numbers (spM K f_law_are_numbers 3) :=
  D.hasM sc_law_are_numbers b_law_are_numbers fun g cdv A out s H E hr => ⟨_,
      (pss_cons (ps_if (PW.pt (pw_or (pt_not (pt_truth (pe_callB (id := "isinstance") (r := rIsi K) call_isi (by rfl) z_isinstance (by decide +kernel) (pa_cons (pv 2) (pa_cons (pe_bltn (v := .ty "list") (by rfl) z_list (by decide +kernel) rfl) pa_nil))) (by intro _; rfl))) (pw_or1 (pt_cmpR (op_neE hr.room.units) (pe_lc (own := [("_law_item", 3)]) (g := gName 3) rfl sc_law_are_numbers.nd (pi_list (pv 2)) (blkOk_by (own := [("_law_item", 3)]) (N := N_law_are_numbers) (sc := defScope s_law_are_numbers) (by decide +kernel)) (fun _ _ _ _ _ => (pg_name (i := 3) sc_law_are_numbers.nd rfl (.inl rfl))) (fun _ _ _ _ _ => (pts_one (PW.pt (pw_or (pt_not (pt_truth (pe_callB (id := "isinstance") (r := rIsi K) call_isi (by rfl) z_isinstance (by decide +kernel) (pa_cons (pv 3) (pa_cons (pe_bltn (v := .ty "tuple") (by rfl) z_tuple (by decide +kernel) rfl) pa_nil))) (by intro _; rfl))) (pw_or1 (pt_cmpR (op_neD hr.room.units) (pe_callB (id := "len") (r := rLenA K) cA_len (by rfl) z_len (by decide +kernel) (pa_cons (pv 3) pa_nil)) pe_int (nomark _))))))) (fun _ _ _ _ _ => (pv 3))) (pe_lst pa_nil) (nomark _))))) (pss_one (ps_ret pe_bl)) pss_nil)
      (pss_cons (ps_if (pt_cmpR (op_neE hr.room.units) (pe_lc (own := [("_law_item", 3)]) (g := gName 3) rfl sc_law_are_numbers.nd (pi_list (pv 2)) (blkOk_by (own := [("_law_item", 3)]) (N := N_law_are_numbers) (sc := defScope s_law_are_numbers) (by decide +kernel)) (fun _ _ _ _ _ => (pg_name (i := 3) sc_law_are_numbers.nd rfl (.inl rfl))) (fun _ _ _ _ _ => (pts_one (PW.pt (pw_or (pt_not (pt_truth (pe_h h_law_is_name hr (pa_cons (pe_ix ix_seq (pv 3) pe_int (fun _ _ => rfl)) pa_nil)) (by intro _; rfl))) (pw_or1 (pt_not (pt_truth (pe_h h_law_is_number hr (pa_cons (pv 0) (pa_cons (pe_ix ix_seq (pv 3) pe_int (fun _ _ => rfl)) pa_nil))) (by intro _; rfl)))))))) (fun _ _ _ _ _ => (pv 3))) (pe_lst pa_nil) (nomark _)) (pss_one (ps_ret pe_bl)) pss_nil)
      (pss_one (ps_ret (pe_cmpR (op_eqD hr.room.units) (pe_lc (own := [("_law_item", 3)]) (g := gName 3) rfl sc_law_are_numbers.nd (pi_list (pv 2)) (blkOk_by (own := [("_law_item", 3)]) (N := N_law_are_numbers) (sc := defScope s_law_are_numbers) (by decide +kernel)) (fun _ _ _ _ _ => (pg_name (i := 3) sc_law_are_numbers.nd rfl (.inl rfl))) (fun _ _ _ _ _ => pts_nil) (fun _ _ _ _ _ => (pe_ix ix_seq (pv 3) pe_int (fun _ _ => rfl)))) (pv 1) (nomark _)))))),
      (sm_seq (sm_if (tm_or (tm_not (tm_truth (em_isi kitD_list (em_var 2)))) (tm_test (em_op p2_neE (em_el (el_lc (vs := [3]) (im_list (em_var 2)) (gm_name 3) (calm_name 3) (by decide) (tm_or (tm_not (tm_truth (em_isi kitD_tuple (em_var 3)))) (tm_test (em_op p2_ne (em_cb pc_len (am_cons (em_var 3) am_nil)) (em_int _)))) (em_var 3))) (em_el (el_lst am_nil))))) (sm_ret (em_bl false)) sm_next)
      (sm_seq (sm_if (tm_test (em_op p2_neE (em_el (el_lc (vs := [3]) (im_list (em_var 2)) (gm_name 3) (calm_name 3) (by decide) (tm_or (tm_not (tm_truth (em_fn (am_cons (em_op p2_ix (em_var 3) (em_int _)) am_nil)))) (tm_not (tm_truth (em_fn (am_cons (em_var 0) (am_cons (em_op p2_ix (em_var 3) (em_int _)) am_nil)))))) (em_var 3))) (em_el (el_lst am_nil)))) (sm_ret (em_bl false)) sm_next)
      (sm_ret (em_op p2_eq (em_el (el_lc (vs := [3]) (im_list (em_var 2)) (gm_name 3) (calm_name 3) (by decide) tm_yes (em_op p2_ix (em_var 3) (em_int _)))) (em_var 1)))))⟩
theorem d_law_word (D : Def K mg "_law_word" s_law_word P_law_word) (z_range : mg "range" = none) (h_law_random : Has P w K mg base 2 "_law_random" P_law_random (spM K f_law_random 2)) : Has P w K mg base 3 "_law_word" P_law_word (spM K f_law_word 1) :=
  D.hasM sc_law_word b_law_word fun g cdv A out s H E hr => ⟨_,
      (pss_cons (ps_set (i := 1) sc_law_word.nd rfl (.inl rfl) (pe_ix ix_seq (pe_lst (pa_cons pe_str (pa_cons pe_str (pa_cons pe_str (pa_cons pe_str (pa_cons pe_str pa_nil)))))) (pe_h h_law_random hr (pa_cons (pv 0) (pa_cons pe_int pa_nil))) (fun _ _ => rfl)))
      (pss_cons (ps_for PassesOwn.never rfl (pi_range1 (by rfl) z_range (pa_cons (pe_h h_law_random hr (pa_cons (pv 0) (pa_cons pe_int pa_nil))) pa_nil)) (pg_name (i := 2) sc_law_word.nd rfl (.inl rfl)) (pss_one (ps_set (i := 1) sc_law_word.nd rfl (.inl rfl) (pe_op op_addX (pv 1) (pe_ix ix_seq pe_str (pe_h h_law_random hr (pa_cons (pv 0) (pa_cons pe_int pa_nil))) (fun _ _ => rfl))))))
      (pss_one (ps_ret (pv 1))))),
      (sm_seq (sm_asg (em_op p2_ix (em_el (el_lst (am_cons (em_str _) (am_cons (em_str _) (am_cons (em_str _) (am_cons (em_str _) (am_cons (em_str _) am_nil))))))) (em_fn (am_gen 0 (am_cons (em_int _) am_nil)))) (gm_name 1) (calm_name 1))
      (sm_seq (sm_for (im_rng1 (am_cons (em_fn (am_gen 0 (am_cons (em_int _) am_nil))) am_nil)) (gm_name 2) (calm_name 2) (sm_asg (em_op p2_add (em_var 1) (em_op p2_ix (em_str _) (em_fn (am_gen 0 (am_cons (em_int _) am_nil))))) (gm_name 1) (calm_name 1)))
      (sm_ret (em_var 1))))⟩
theorem d_law_odd (D : Def K mg "_law_odd" s_law_odd P_law_odd) (z_list : mg "list" = none) (z_range : mg "range" = none) (z_tuple : mg "tuple" = none) : Has P w K mg base 1 "_law_odd" P_law_odd (spM K f_law_odd 2) :=
  D.hasM sc_law_odd b_law_odd fun g cdv A out s H E hr => ⟨_,
      (pss_cons (ps_set (i := 2) sc_law_odd.nd rfl (.inl rfl) (pe_lst (pa_cons pe_non (pa_cons pe_bl (pa_cons pe_bl (pa_cons pe_str (pa_cons pe_str (pa_cons pe_str (pa_cons (pe_lst pa_nil) (pa_cons pe_dnewK (pa_cons (pe_tup pa_nil) (pa_cons pe_str (pa_cons pe_str (pa_cons pe_str (pa_cons pe_str (pa_cons pe_str (pa_cons pe_str (pa_cons pe_int (pa_cons (pe_un un_neg pe_int) (pa_cons (pe_op op_powX pe_int pe_int) (pa_cons (pe_lst (pa_cons pe_str pa_nil)) (pa_cons (pe_tup (pa_cons pe_str pa_nil)) pa_nil))))))))))))))))))))))
      (pss_cons (ps_set (i := 3) sc_law_odd.nd rfl (.inl rfl) (pe_op op_addX (pv 2) (pe_lst (pa_cons (pe_callTy (T := "list") (r := rListA K) cA_list (by rfl) z_list (by decide +kernel) (pa_cons (pv 1) pa_nil)) (pa_cons (pe_slice sl_X (pv 1) po_none (po_some pe_int)) (pa_cons (pe_op op_addX (pv 1) (pe_tup (pa_cons pe_int pa_nil))) (pa_cons pe_str pa_nil)))))))
      (pss_cons (ps_for PassesOwn.never rfl (pi_range1 (by rfl) z_range (pa_cons pe_int pa_nil)) (pg_name (i := 4) sc_law_odd.nd rfl (.inl rfl)) (pss_one (ps_for PassesOwn.never rfl (pi_list (pe_op op_addX (pv 2) (pe_lst (pa_cons (pe_ix ix_seq (pv 1) pe_int (fun _ _ => rfl)) (pa_cons (pe_ix ix_seq (pv 1) pe_int (fun _ _ => rfl)) (pa_cons (pe_ix ix_seq (pv 1) pe_int (fun _ _ => rfl)) (pa_cons (pe_op op_sub (pe_ix ix_seq (pv 1) pe_int (fun _ _ => rfl)) pe_int) (pa_cons (pe_op op_sub pe_int pe_int) pa_nil)))))))) (pg_name (i := 5) sc_law_odd.nd rfl (.inl rfl)) (pss_cons (ps_set (i := 6) sc_law_odd.nd rfl (.inl rfl) (pe_callTy (T := "list") (r := rListA K) cA_list (by rfl) z_list (by decide +kernel) (pa_cons (pv 1) pa_nil)))
      (pss_cons (ps_asg (pv 5) (pg_sub (pv 6) (pv 4) set_list))
      (pss_one (ps_expr (pe_bm PySem.F.plainAttrs_list PySem.F.slot_list_append PySem.F.type_list_append mt_append (pv 3) (pa_cons (pe_callTy (T := "tuple") (r := rTupleA K) cA_tuple (by rfl) z_tuple (by decide +kernel) (pa_cons (pv 6) pa_nil)) pa_nil)))))))))
      (pss_one (ps_ret (pv 3)))))),
      (sm_seq (sm_asg (em_el (el_lst (am_cons (em_non) (am_cons (em_bl true) (am_cons (em_bl false) (am_cons (em_str _) (am_cons (em_str _) (am_cons (em_str _) (am_cons (em_el (el_lst am_nil)) (am_cons em_d0 (am_cons (em_tup am_nil) (am_cons (em_str _) (am_cons (em_str _) (am_cons (em_str _) (am_cons (em_str _) (am_cons (em_str _) (am_cons (em_str _) (am_cons (em_int _) (am_cons (em_un p1_neg (em_int _)) (am_cons (em_op p2_pow (em_int _) (em_int _)) (am_cons (em_el (el_lst (am_cons (em_str _) am_nil))) (am_cons (em_tup (am_cons (em_str _) am_nil)) am_nil)))))))))))))))))))))) (gm_name 2) (calm_name 2))
      (sm_seq (sm_asgOwn 3 (el_cat (em_var 2) (em_el (el_lst (am_cons (em_cb pc_list (am_cons (em_var 1) am_nil)) (am_cons (em_sl (em_var 1) om_none (om_some (em_int _))) (am_cons (em_op p2_add (em_var 1) (em_tup (am_cons (em_int _) am_nil))) (am_cons (em_str _) am_nil))))))))
      (sm_seq (sm_for (im_rng1 (am_cons (em_int _) am_nil)) (gm_name 4) (calm_name 4) (sm_for (im_list (em_op p2_add (em_var 2) (em_el (el_lst (am_cons (em_op p2_ix (em_var 1) (em_int _)) (am_cons (em_op p2_ix (em_var 1) (em_int _)) (am_cons (em_op p2_ix (em_var 1) (em_int _)) (am_cons (em_op p2_sub (em_op p2_ix (em_var 1) (em_int _)) (em_int _)) (am_cons (em_op p2_sub (em_int _) (em_int _)) am_nil))))))))) (gm_name 5) (calm_name 5) (sm_seq (sm_asgOwn 6 (el_list (am_cons (em_var 1) am_nil)))
      (sm_seq (sm_set 6 (em_var 5) (em_var 4))
      (sm_frz 6 (sm_app 3 (em_cb pc_tuple (am_cons (em_var 6) am_nil))))))))
      (sm_frz 3 (sm_ret (em_var 3))))))⟩
theorem d_law_value_right (D : Def K mg "_law_value_right" s_law_value_right P_law_value_right) (z_repr : mg "repr" = none) (kw_are_lines_0_value_kind : Kw K mg "are_lines" P_are_lines 0 ["value", "kind"] [1, 0]) (kw_are_numbers_0_value_names_kind : Kw K mg "are_numbers" P_are_numbers 0 ["value", "names", "kind"] [2, 1, 0]) (kw_is_book_0_value : Kw K mg "is_book" P_is_book 0 ["value"] [0]) (kw_is_line_0_value_kind : Kw K mg "is_line" P_is_line 0 ["value", "kind"] [1, 0]) (kw_is_name_0_value : Kw K mg "is_name" P_is_name 0 ["value"] [0]) (h_law_are_numbers : Has P w K mg base 3 "_law_are_numbers" P_law_are_numbers (spM K f_law_are_numbers 3)) (h_law_are_lines : Has P w K mg base 4 "_law_are_lines" P_law_are_lines (spM K f_law_are_lines 2)) (h_law_is_line : Has P w K mg base 3 "_law_is_line" P_law_is_line (spM K f_law_is_line 2)) (h_are_numbers : Has P w K mg base 6 "are_numbers" P_are_numbers (spM K f_are_numbers 3)) (h_are_lines : Has P w K mg base 6 "are_lines" P_are_lines (spM K f_are_lines 2)) (h_is_line : Has P w K mg base 5 "is_line" P_is_line (spM K f_is_line 2)) (h_law_is_book : Has P w K mg base 5 "_law_is_book" P_law_is_book (spM K f_law_is_book 1)) (h_law_is_name : Has P w K mg base 1 "_law_is_name" P_law_is_name (spM K f_law_is_name 1)) (h_is_book : Has P w K mg base 6 "is_book" P_is_book (spM K f_is_book 1)) (h_is_name : Has P w K mg base 1 "is_name" P_is_name (spM K f_is_name 1)) : Has P w K mg base 7 "_law_value_right" P_law_value_right (spM K f_law_value_right 1) :=
  D.hasM sc_law_value_right b_law_value_right fun g cdv A out s H E hr => ⟨_,
      (pss_cons (ps_set (i := 1) sc_law_value_right.nd rfl (.inl rfl) (pe_callB (id := "repr") (r := rReprD K) (cr_reprD hr) (by rfl) z_repr (by decide +kernel) (pa_cons (pv 0) pa_nil)))
      (pss_cons (ps_for PassesOwn.never rfl (pi_list (pe_lst (pa_cons pe_str (pa_cons pe_str pa_nil)))) (pg_name (i := 2) sc_law_value_right.nd rfl (.inl rfl)) (pss_cons (ps_set (i := 3) sc_law_value_right.nd rfl (.inl rfl) (pe_lst (pa_cons (pe_h h_law_is_line hr (pa_cons (pv 2) (pa_cons (pv 0) pa_nil))) (pa_cons (pe_h h_law_are_lines hr (pa_cons (pv 2) (pa_cons (pv 0) pa_nil))) (pa_cons (pe_h h_law_are_numbers hr (pa_cons (pv 2) (pa_cons (pe_lst (pa_cons pe_str (pa_cons pe_str pa_nil))) (pa_cons (pv 0) pa_nil)))) pa_nil)))))
      (pss_cons (ps_set (i := 4) sc_law_value_right.nd rfl (.inl rfl) (pe_lst (pa_cons (pe_h h_is_line hr (pa_cons (pv 2) (pa_cons (pv 0) pa_nil))) (pa_cons (pe_h h_are_lines hr (pa_cons (pv 2) (pa_cons (pv 0) pa_nil))) (pa_cons (pe_h h_are_numbers hr (pa_cons (pv 2) (pa_cons (pe_lst (pa_cons pe_str (pa_cons pe_str pa_nil))) (pa_cons (pv 0) pa_nil)))) pa_nil)))))
      (pss_cons (ps_if (pt_cmpR (op_neE hr.room.units) (pe_callB (id := "repr") (r := rReprD K) (cr_reprD hr) (by rfl) z_repr (by decide +kernel) (pa_cons (pv 4) pa_nil)) (pe_callB (id := "repr") (r := rReprD K) (cr_reprD hr) (by rfl) z_repr (by decide +kernel) (pa_cons (pv 3) pa_nil)) (nomark _)) (pss_one (ps_ret pe_bl)) pss_nil)
      (pss_cons (ps_set (i := 4) sc_law_value_right.nd rfl (.inl rfl) (pe_lst (pa_cons (pe_hk0 h_is_line kw_is_line_0_value_kind hr (pk_cons (pv 0) (pk_cons (pv 2) pk_nil))) (pa_cons (pe_hk0 h_are_lines kw_are_lines_0_value_kind hr (pk_cons (pv 0) (pk_cons (pv 2) pk_nil))) (pa_cons (pe_hk0 h_are_numbers kw_are_numbers_0_value_names_kind hr (pk_cons (pv 0) (pk_cons (pe_lst (pa_cons pe_str (pa_cons pe_str pa_nil))) (pk_cons (pv 2) pk_nil)))) pa_nil)))))
      (pss_one (ps_if (pt_cmpR (op_neE hr.room.units) (pe_callB (id := "repr") (r := rReprD K) (cr_reprD hr) (by rfl) z_repr (by decide +kernel) (pa_cons (pv 4) pa_nil)) (pe_callB (id := "repr") (r := rReprD K) (cr_reprD hr) (by rfl) z_repr (by decide +kernel) (pa_cons (pv 3) pa_nil)) (nomark _)) (pss_one (ps_ret pe_bl)) pss_nil)))))))
      (pss_cons (ps_set (i := 3) sc_law_value_right.nd rfl (.inl rfl) (pe_lst (pa_cons (pe_h h_law_is_name hr (pa_cons (pv 0) pa_nil)) (pa_cons (pe_h h_law_is_book hr (pa_cons (pv 0) pa_nil)) pa_nil))))
      (pss_one (ps_ret (pe_and (pe_cmpR (op_eqE hr.room.units) (pe_callB (id := "repr") (r := rReprD K) (cr_reprD hr) (by rfl) z_repr (by decide +kernel) (pa_cons (pe_lst (pa_cons (pe_h h_is_name hr (pa_cons (pv 0) pa_nil)) (pa_cons (pe_h h_is_book hr (pa_cons (pv 0) pa_nil)) (pa_cons (pe_hk0 h_is_name kw_is_name_0_value hr (pk_cons (pv 0) pk_nil)) (pa_cons (pe_hk0 h_is_book kw_is_book_0_value hr (pk_cons (pv 0) pk_nil)) pa_nil))))) pa_nil)) (pe_callB (id := "repr") (r := rReprD K) (cr_reprD hr) (by rfl) z_repr (by decide +kernel) (pa_cons (pe_op op_addX (pv 3) (pv 3)) pa_nil)) (nomark _)) (pe_one (pe_cmpR (op_eqE hr.room.units) (pe_callB (id := "repr") (r := rReprD K) (cr_reprD hr) (by rfl) z_repr (by decide +kernel) (pa_cons (pv 0) pa_nil)) (pv 1) (nomark _))))))))),
      (sm_seq (sm_asg (em_cb pc_reprD (am_cons (em_var 0) am_nil)) (gm_name 1) (calm_name 1))
      (sm_seq (sm_for (im_list (em_el (el_lst (am_cons (em_str _) (am_cons (em_str _) am_nil))))) (gm_name 2) (calm_name 2) (sm_seq (sm_asg (em_el (el_lst (am_cons (em_fn (am_cons (em_var 2) (am_cons (em_var 0) am_nil))) (am_cons (em_fn (am_cons (em_var 2) (am_cons (em_var 0) am_nil))) (am_cons (em_fn (am_cons (em_var 2) (am_cons (em_el (el_lst (am_cons (em_str _) (am_cons (em_str _) am_nil)))) (am_cons (em_var 0) am_nil)))) am_nil))))) (gm_name 3) (calm_name 3))
      (sm_seq (sm_asg (em_el (el_lst (am_cons (em_fn (am_cons (em_var 2) (am_cons (em_var 0) am_nil))) (am_cons (em_fn (am_cons (em_var 2) (am_cons (em_var 0) am_nil))) (am_cons (em_fn (am_cons (em_var 2) (am_cons (em_el (el_lst (am_cons (em_str _) (am_cons (em_str _) am_nil)))) (am_cons (em_var 0) am_nil)))) am_nil))))) (gm_name 4) (calm_name 4))
      (sm_seq (sm_if (tm_test (em_op p2_neE (em_cb pc_reprD (am_cons (em_var 4) am_nil)) (em_cb pc_reprD (am_cons (em_var 3) am_nil)))) (sm_ret (em_bl false)) sm_next)
      (sm_seq (sm_asg (em_el (el_lst (am_cons (em_fnK am_nil (am_cons (em_var 0) (am_cons (em_var 2) am_nil))) (am_cons (em_fnK am_nil (am_cons (em_var 0) (am_cons (em_var 2) am_nil))) (am_cons (em_fnK am_nil (am_cons (em_var 0) (am_cons (em_el (el_lst (am_cons (em_str _) (am_cons (em_str _) am_nil)))) (am_cons (em_var 2) am_nil)))) am_nil))))) (gm_name 4) (calm_name 4))
      (sm_if (tm_test (em_op p2_neE (em_cb pc_reprD (am_cons (em_var 4) am_nil)) (em_cb pc_reprD (am_cons (em_var 3) am_nil)))) (sm_ret (em_bl false)) sm_next))))))
      (sm_seq (sm_asg (em_el (el_lst (am_cons (em_fn (am_cons (em_var 0) am_nil)) (am_cons (em_fn (am_cons (em_var 0) am_nil)) am_nil)))) (gm_name 3) (calm_name 3))
      (sm_ret (em_andV (em_op p2_eqE (em_cb pc_reprD (am_cons (em_el (el_lst (am_cons (em_fn (am_cons (em_var 0) am_nil)) (am_cons (em_fn (am_cons (em_var 0) am_nil)) (am_cons (em_fnK am_nil (am_cons (em_var 0) am_nil)) (am_cons (em_fnK am_nil (am_cons (em_var 0) am_nil)) am_nil)))))) am_nil)) (em_cb pc_reprD (am_cons (em_op p2_add (em_var 3) (em_var 3)) am_nil))) (em_op p2_eqE (em_cb pc_reprD (am_cons (em_var 0) am_nil)) (em_var 1)))))))⟩
theorem d_law_book_right (D : Def K mg "_law_book_right" s_law_book_right P_law_book_right) (z_int : mg "int" = none) (z_len : mg "len" = none) (z_list : mg "list" = none) (z_repr : mg "repr" = none) (z_tuple : mg "tuple" = none) (kw_unknowns_0_book : Kw K mg "unknowns" P_unknowns 0 ["book"] [0]) (h_law_random : Has P w K mg base 2 "_law_random" P_law_random (spM K f_law_random 2)) (h_law_lines : Has P w K mg base 5 "_law_lines" P_law_lines (spM K f_law_lines 4)) (h_law_names_in : Has P w K mg base 1 "_law_names_in" P_law_names_in (spM K f_law_names_in 1)) (h_unknowns : Has P w K mg base 8 "unknowns" P_unknowns (spMO K f_unknowns 1)) (h_law_odd : Has P w K mg base 1 "_law_odd" P_law_odd (spM K f_law_odd 2)) (h_law_line : Has P w K mg base 4 "_law_line" P_law_line (spM K f_law_line 3)) (h_law_value_right : Has P w K mg base 7 "_law_value_right" P_law_value_right (spM K f_law_value_right 1)) : Has P w K mg base 9 "_law_book_right" P_law_book_right (spM K f_law_book_right 1) :=
  D.hasM sc_law_book_right b_law_book_right fun g cdv A out s H E hr => ⟨_,
      (pss_cons (ps_set (i := 1) sc_law_book_right.nd rfl (.inl rfl) (pe_ix ix_seq (pe_lst (pa_cons pe_str (pa_cons pe_str pa_nil))) (pe_h h_law_random hr (pa_cons (pv 0) (pa_cons pe_int pa_nil))) (fun _ _ => rfl)))
      (pss_cons (ps_set (i := 2) sc_law_book_right.nd rfl (.inl rfl) (pe_ix ix_seq (pe_lst (pa_cons (pe_lst (pa_cons pe_str (pa_cons pe_str pa_nil))) (pa_cons (pe_lst (pa_cons pe_str (pa_cons pe_str (pa_cons pe_str (pa_cons pe_str pa_nil))))) (pa_cons (pe_lst (pa_cons pe_str (pa_cons pe_str (pa_cons pe_str (pa_cons pe_str pa_nil))))) pa_nil)))) (pe_h h_law_random hr (pa_cons (pv 0) (pa_cons pe_int pa_nil))) (fun _ _ => rfl)))
      (pss_cons (ps_set (i := 3) sc_law_book_right.nd rfl (.inl rfl) (pe_h h_law_lines hr (pa_cons (pv 0) (pa_cons (pv 1) (pa_cons (pv 2) (pa_cons pe_int pa_nil))))))
      (pss_cons (ps_set (i := 4) sc_law_book_right.nd rfl (.inl rfl) (pe_tup (pa_cons (pv 1) (pa_cons (pv 3) pa_nil))))
      (pss_cons (ps_par (i := 5) (j := 6) (by rfl) sc_law_book_right.nd rfl rfl (by decide) rfl rfl (pa_cons (pe_callB (id := "repr") (r := rReprD K) (cr_reprD hr) (by rfl) z_repr (by decide +kernel) (pa_cons (pv 4) pa_nil)) (pa_cons (pe_h h_law_names_in hr (pa_cons (pv 3) pa_nil)) pa_nil)) (by rfl))
      (pss_cons (ps_set (i := 7) sc_law_book_right.nd rfl (.inl rfl) (pe_h h_unknowns hr (pa_cons (pv 4) pa_nil)))
      (pss_cons (ps_if (PW.pt (pw_or (pt_cmpR (op_neD hr.room.units) (pv 7) (pv 6) (nomark _)) (pw_or (pt_cmpR (op_neD hr.room.units) (pe_hk0 h_unknowns kw_unknowns_0_book hr (pk_cons (pv 4) pk_nil)) (pv 6) (nomark _)) (pw_or1 (pt_cmpR (op_neE hr.room.units) (pe_callB (id := "repr") (r := rReprD K) (cr_reprD hr) (by rfl) z_repr (by decide +kernel) (pa_cons (pv 4) pa_nil)) (pv 5) (nomark _)))))) (pss_one (ps_ret pe_bl)) pss_nil)
      (pss_cons (ps_expr (pe_bm PySem.F.plainAttrs_list PySem.F.slot_list_append PySem.F.type_list_append mt_append (pv 7) (pa_cons pe_non pa_nil)))
      (pss_cons (ps_par (i := 8) (j := 9) (by rfl) sc_law_book_right.nd rfl rfl (by decide) rfl rfl (pa_cons (pe_h h_law_random hr (pa_cons (pv 0) (pa_cons (pe_op op_addX (pe_callB (id := "len") (r := rLenA K) cA_len (by rfl) z_len (by decide +kernel) (pa_cons (pv 3) pa_nil)) pe_int) pa_nil))) (pa_cons (pe_h h_law_odd hr (pa_cons (pv 0) (pa_cons (pe_h h_law_line hr (pa_cons (pv 0) (pa_cons (pv 1) (pa_cons (pv 2) pa_nil)))) pa_nil))) pa_nil)) (by rfl))
      (pss_cons (ps_set (i := 10) sc_law_book_right.nd rfl (.inl rfl) (pe_ix ix_seq (pv 9) (pe_h h_law_random hr (pa_cons (pv 0) (pa_cons (pe_callB (id := "len") (r := rLenA K) cA_len (by rfl) z_len (by decide +kernel) (pa_cons (pv 9) pa_nil)) pa_nil))) (fun _ _ => rfl)))
      (pss_cons (ps_set (i := 11) sc_law_book_right.nd rfl (.inl rfl) (pe_lst (pa_cons (pv 4) (pa_cons (pv 3) (pa_cons (pe_tup (pa_cons (pv 1) (pa_cons (pe_op op_addX (pe_op op_addX (pe_slice sl_X (pv 3) po_none (po_some (pv 8))) (pe_lst (pa_cons (pv 10) pa_nil))) (pe_slice sl_X (pv 3) (po_some (pv 8)) po_none)) pa_nil))) (pa_cons (pe_callTy (T := "list") (r := rListA K) cA_list (by rfl) z_list (by decide +kernel) (pa_cons (pv 4) pa_nil)) (pa_cons (pe_tup (pa_cons (pv 1) (pa_cons (pe_callTy (T := "tuple") (r := rTupleA K) cA_tuple (by rfl) z_tuple (by decide +kernel) (pa_cons (pv 3) pa_nil)) pa_nil))) pa_nil)))))))
      (pss_cons (ps_set (i := 11) sc_law_book_right.nd rfl (.inl rfl) (pe_op op_addX (pv 11) (pe_lst (pa_cons (pe_tup (pa_cons (pe_ix ix_seq (pe_lst (pa_cons pe_str (pa_cons pe_str pa_nil))) (pe_callTy (T := "int") (r := rIntA) cA_int (by rfl) z_int (by decide +kernel) (pa_cons (pe_cmpR (op_eqD hr.room.units) (pv 1) pe_str (nomark _)) pa_nil)) (fun _ _ => rfl)) (pa_cons (pv 3) pa_nil))) (pa_cons (pe_tup (pa_cons pe_str (pa_cons (pv 3) pa_nil))) (pa_cons (pe_tup (pa_cons (pv 1) (pa_cons (pv 3) (pa_cons pe_int pa_nil)))) (pa_cons (pe_tup (pa_cons (pv 1) pa_nil)) (pa_cons (pe_tup (pa_cons pe_non (pa_cons (pe_lst pa_nil) pa_nil))) pa_nil))))))))
      (pss_cons (ps_set (i := 11) sc_law_book_right.nd rfl (.inl rfl) (pe_op op_addX (pv 11) (pe_lst (pa_cons (pe_tup (pa_cons (pe_lst pa_nil) (pa_cons (pv 3) pa_nil))) (pa_cons (pe_tup (pa_cons (pv 1) (pa_cons (pe_op op_addX (pv 3) (pe_lst (pa_cons pe_non pa_nil))) pa_nil))) (pa_cons (pe_op op_addX (pv 3) (pe_lst (pa_cons (pv 10) pa_nil))) (pa_cons (pe_callTy (T := "tuple") (r := rTupleA K) cA_tuple (by rfl) z_tuple (by decide +kernel) (pa_cons (pv 3) pa_nil)) (pa_cons (pe_tup (pa_cons pe_dnewK (pa_cons (pe_lst pa_nil) pa_nil))) (pa_cons (pe_tup (pa_cons (pv 1) (pa_cons pe_non pa_nil))) pa_nil)))))))))
      (pss_cons (ps_if (pt_cmpR (op_neE hr.room.units) (pe_lc (own := [("_law_value", 12)]) (g := gName 12) rfl sc_law_book_right.nd (pi_list (pv 11)) (blkOk_by (own := [("_law_value", 12)]) (N := N_law_book_right) (sc := defScope s_law_book_right) (by decide +kernel)) (fun _ _ _ _ _ => (pg_name (i := 12) sc_law_book_right.nd rfl (.inl rfl))) (fun _ _ _ _ _ => (pts_one (pt_not (pt_truth (pe_h h_law_value_right hr (pa_cons (pv 12) pa_nil)) (by intro _; rfl))))) (fun _ _ _ _ _ => (pv 12))) (pe_lst pa_nil) (nomark _)) (pss_one (ps_ret pe_bl)) pss_nil)
      (pss_one (ps_ret (pe_and (pe_cmpR (op_eqD hr.room.units) (pe_h h_unknowns hr (pa_cons (pv 4) pa_nil)) (pv 6) (nomark _)) (pe_one (pe_cmpR (op_eqE hr.room.units) (pe_callB (id := "repr") (r := rReprD K) (cr_reprD hr) (by rfl) z_repr (by decide +kernel) (pa_cons (pv 4) pa_nil)) (pv 5) (nomark _)))))))))))))))))))),
      (sm_seq (sm_asg (em_op p2_ix (em_el (el_lst (am_cons (em_str _) (am_cons (em_str _) am_nil)))) (em_fn (am_gen 0 (am_cons (em_int _) am_nil)))) (gm_name 1) (calm_name 1))
      (sm_seq (sm_asg (em_op p2_ix (em_el (el_lst (am_cons (em_el (el_lst (am_cons (em_str _) (am_cons (em_str _) am_nil)))) (am_cons (em_el (el_lst (am_cons (em_str _) (am_cons (em_str _) (am_cons (em_str _) (am_cons (em_str _) am_nil)))))) (am_cons (em_el (el_lst (am_cons (em_str _) (am_cons (em_str _) (am_cons (em_str _) (am_cons (em_str _) am_nil)))))) am_nil))))) (em_fn (am_gen 0 (am_cons (em_int _) am_nil)))) (gm_name 2) (calm_name 2))
      (sm_seq (sm_asg (em_fn (am_gen 0 (am_cons (em_var 1) (am_cons (em_var 2) (am_cons (em_int _) am_nil))))) (gm_name 3) (calm_name 3))
      (sm_seq (sm_asg (em_tup (am_cons (em_var 1) (am_cons (em_var 3) am_nil))) (gm_name 4) (calm_name 4))
      (sm_seq (sm_par (am_cons (em_cb pc_reprD (am_cons (em_var 4) am_nil)) (am_cons (em_fn (am_cons (em_var 3) am_nil)) am_nil)))
      (sm_seq (sm_asgOwn 7 (el_fn (am_cons (em_var 4) am_nil)))
      (sm_seq (sm_if (tm_lend' 7 (tm_or (tm_test (em_op p2_ne (em_var 7) (em_var 6))) (tm_or (tm_test (em_op p2_ne (em_el (el_fnK am_nil (am_cons (em_var 4) am_nil))) (em_var 6))) (tm_test (em_op p2_neE (em_cb pc_reprD (am_cons (em_var 4) am_nil)) (em_var 5)))))) (sm_ret (em_bl false)) sm_next)
      (sm_seq (sm_app 7 (em_non))
      (sm_seq (sm_par (am_cons (em_fn (am_gen 0 (am_cons (em_op p2_add (em_cb pc_len (am_cons (em_var 3) am_nil)) (em_int _)) am_nil))) (am_cons (em_fn (am_gen 0 (am_cons (em_fn (am_gen 0 (am_cons (em_var 1) (am_cons (em_var 2) am_nil)))) am_nil))) am_nil)))
      (sm_seq (sm_asg (em_op p2_ix (em_var 9) (em_fn (am_gen 0 (am_cons (em_cb pc_len (am_cons (em_var 9) am_nil)) am_nil)))) (gm_name 10) (calm_name 10))
      (sm_seq (sm_asg (em_el (el_lst (am_cons (em_var 4) (am_cons (em_var 3) (am_cons (em_tup (am_cons (em_var 1) (am_cons (em_op p2_add (em_op p2_add (em_sl (em_var 3) om_none (om_some (em_var 8))) (em_el (el_lst (am_cons (em_var 10) am_nil)))) (em_sl (em_var 3) (om_some (em_var 8)) om_none)) am_nil))) (am_cons (em_cb pc_list (am_cons (em_var 4) am_nil)) (am_cons (em_tup (am_cons (em_var 1) (am_cons (em_cb pc_tuple (am_cons (em_var 3) am_nil)) am_nil))) am_nil))))))) (gm_name 11) (calm_name 11))
      (sm_seq (sm_asg (em_op p2_add (em_var 11) (em_el (el_lst (am_cons (em_tup (am_cons (em_op p2_ix (em_el (el_lst (am_cons (em_str _) (am_cons (em_str _) am_nil)))) (em_cb pc_int (am_cons (em_op p2_eq (em_var 1) (em_str _)) am_nil))) (am_cons (em_var 3) am_nil))) (am_cons (em_tup (am_cons (em_str _) (am_cons (em_var 3) am_nil))) (am_cons (em_tup (am_cons (em_var 1) (am_cons (em_var 3) (am_cons (em_int _) am_nil)))) (am_cons (em_tup (am_cons (em_var 1) am_nil)) (am_cons (em_tup (am_cons (em_non) (am_cons (em_el (el_lst am_nil)) am_nil))) am_nil)))))))) (gm_name 11) (calm_name 11))
      (sm_seq (sm_asg (em_op p2_add (em_var 11) (em_el (el_lst (am_cons (em_tup (am_cons (em_el (el_lst am_nil)) (am_cons (em_var 3) am_nil))) (am_cons (em_tup (am_cons (em_var 1) (am_cons (em_op p2_add (em_var 3) (em_el (el_lst (am_cons (em_non) am_nil)))) am_nil))) (am_cons (em_op p2_add (em_var 3) (em_el (el_lst (am_cons (em_var 10) am_nil)))) (am_cons (em_cb pc_tuple (am_cons (em_var 3) am_nil)) (am_cons (em_tup (am_cons em_d0 (am_cons (em_el (el_lst am_nil)) am_nil))) (am_cons (em_tup (am_cons (em_var 1) (am_cons (em_non) am_nil))) am_nil))))))))) (gm_name 11) (calm_name 11))
      (sm_seq (sm_if (tm_test (em_op p2_neE (em_el (el_lc (vs := [12]) (im_list (em_var 11)) (gm_name 12) (calm_name 12) (by decide) (tm_not (tm_truth (em_fn (am_cons (em_var 12) am_nil)))) (em_var 12))) (em_el (el_lst am_nil)))) (sm_ret (em_bl false)) sm_next)
      (sm_ret (em_andV (em_op p2_eq (em_el (el_fn (am_cons (em_var 4) am_nil))) (em_var 6)) (em_op p2_eqE (em_cb pc_reprD (am_cons (em_var 4) am_nil)) (em_var 5))))))))))))))))))⟩
theorem d_law_right (D : Def K mg "_law_right" s_law_right P_law_right) (z_dict : mg "dict" = none) (z_range : mg "range" = none) (z_tuple : mg "tuple" = none) (h_law_value_right : Has P w K mg base 7 "_law_value_right" P_law_value_right (spM K f_law_value_right 1)) (h_law_word : Has P w K mg base 3 "_law_word" P_law_word (spM K f_law_word 1)) (h_law_line : Has P w K mg base 4 "_law_line" P_law_line (spM K f_law_line 3)) (h_law_random : Has P w K mg base 2 "_law_random" P_law_random (spM K f_law_random 2)) (h_law_odd : Has P w K mg base 1 "_law_odd" P_law_odd (spM K f_law_odd 2)) (h_law_book_right : Has P w K mg base 9 "_law_book_right" P_law_book_right (spM K f_law_book_right 1)) : Has P w K mg base 10 "_law_right" P_law_right (spM K f_law_right 1) :=
  D.hasM sc_law_right b_law_right fun g cdv A out s H E hr => ⟨_,
      (pss_cons (ps_for PassesOwn.never rfl (pi_range1 (by rfl) z_range (pa_cons pe_int pa_nil)) (pg_name (i := 1) sc_law_right.nd rfl (.inl rfl)) (pss_one (ps_if (pt_not (pt_truth (pe_h h_law_value_right hr (pa_cons (pe_h h_law_word hr (pa_cons (pv 0) pa_nil)) pa_nil)) (by intro _; rfl))) (pss_one (ps_ret pe_bl)) pss_nil)))
      (pss_cons (ps_set (i := 2) sc_law_right.nd rfl (.inl rfl) (pe_h h_law_line hr (pa_cons (pv 0) (pa_cons (pe_ix ix_seq (pe_lst (pa_cons pe_str (pa_cons pe_str pa_nil))) (pe_h h_law_random hr (pa_cons (pv 0) (pa_cons pe_int pa_nil))) (fun _ _ => rfl)) (pa_cons (pe_lst (pa_cons pe_str (pa_cons pe_str (pa_cons pe_str pa_nil)))) pa_nil)))))
      (pss_cons (ps_for PassesOwn.never rfl (pi_list (pe_op op_addX (pe_lst (pa_cons (pv 2) pa_nil)) (pe_h h_law_odd hr (pa_cons (pv 0) (pa_cons (pv 2) pa_nil))))) (pg_name (i := 3) sc_law_right.nd rfl (.inl rfl)) (pss_one (ps_if (pt_not (pt_truth (pe_h h_law_value_right hr (pa_cons (pv 3) pa_nil)) (by intro _; rfl))) (pss_one (ps_ret pe_bl)) pss_nil)))
      (pss_cons (ps_set (i := 4) sc_law_right.nd rfl (.inl rfl) (pe_lst (pa_cons (pe_tup (pa_cons pe_str (pa_cons (pe_h h_law_random hr (pa_cons (pv 0) (pa_cons pe_int pa_nil))) pa_nil))) (pa_cons (pe_tup (pa_cons pe_str (pa_cons (pe_op op_sub pe_int (pe_h h_law_random hr (pa_cons (pv 0) (pa_cons pe_int pa_nil)))) pa_nil))) pa_nil))))
      (pss_cons (ps_set (i := 5) sc_law_right.nd rfl (.inl rfl) (pe_lst (pa_cons (pv 4) (pa_cons (pe_revL (pv 4)) (pa_cons (pe_slice sl_X (pv 4) po_none (po_some pe_int)) (pa_cons (pe_op op_addX (pv 4) (pe_lst (pa_cons (pe_tup (pa_cons pe_str (pa_cons pe_int pa_nil))) pa_nil))) (pa_cons (pe_lst (pa_cons (pe_tup (pa_cons pe_str (pa_cons pe_int pa_nil))) (pa_cons (pe_tup (pa_cons pe_str (pa_cons (pe_op op_powX pe_int pe_int) pa_nil))) pa_nil))) (pa_cons (pe_lst (pa_cons (pe_lst (pa_cons pe_str (pa_cons pe_int pa_nil))) (pa_cons (pe_tup (pa_cons pe_str (pa_cons pe_int pa_nil))) pa_nil))) pa_nil))))))))
      (pss_cons (ps_set (i := 5) sc_law_right.nd rfl (.inl rfl) (pe_op op_addX (pv 5) (pe_lst (pa_cons (pe_lst (pa_cons (pe_tup (pa_cons pe_str (pa_cons pe_bl pa_nil))) (pa_cons (pe_tup (pa_cons pe_str (pa_cons pe_int pa_nil))) pa_nil))) (pa_cons (pe_lst (pa_cons (pe_tup (pa_cons pe_str (pa_cons pe_non pa_nil))) (pa_cons (pe_tup (pa_cons pe_str (pa_cons pe_int pa_nil))) pa_nil))) (pa_cons (pe_lst (pa_cons (pe_tup (pa_cons pe_str (pa_cons pe_int pa_nil))) (pa_cons (pe_tup (pa_cons pe_str (pa_cons pe_int pa_nil))) pa_nil))) (pa_cons (pe_lst (pa_cons (pe_tup (pa_cons (pe_lst pa_nil) (pa_cons pe_int pa_nil))) (pa_cons (pe_tup (pa_cons pe_str (pa_cons pe_int pa_nil))) pa_nil))) (pa_cons (pe_lst (pa_cons (pe_tup (pa_cons pe_str pa_nil)) (pa_cons (pe_tup (pa_cons pe_str (pa_cons pe_int pa_nil))) pa_nil))) (pa_cons (pe_lst (pa_cons (pe_tup (pa_cons pe_str (pa_cons pe_int (pa_cons pe_int pa_nil)))) (pa_cons (pe_tup (pa_cons pe_str (pa_cons pe_int pa_nil))) pa_nil))) pa_nil)))))))))
      (pss_cons (ps_if (pt_cmpR (op_neE hr.room.units) (pe_lc (own := [("_law_value", 3)]) (g := gName 3) rfl sc_law_right.nd (pi_list (pe_op op_addX (pv 5) (pe_lst (pa_cons (pe_callTy (T := "tuple") (r := rTupleA K) cA_tuple (by rfl) z_tuple (by decide +kernel) (pa_cons (pv 4) pa_nil)) (pa_cons (pe_callTy (T := "dict") (r := rDictP K) (call_dictP rfl) (by rfl) z_dict (by decide +kernel) (pa_cons (pv 4) pa_nil)) pa_nil))))) (blkOk_by (own := [("_law_value", 3)]) (N := N_law_right) (sc := defScope s_law_right) (by decide +kernel)) (fun _ _ _ _ _ => (pg_name (i := 3) sc_law_right.nd rfl (.inl rfl))) (fun _ _ _ _ _ => (pts_one (pt_not (pt_truth (pe_h h_law_value_right hr (pa_cons (pv 3) pa_nil)) (by intro _; rfl))))) (fun _ _ _ _ _ => (pv 3))) (pe_lst pa_nil) (nomark _)) (pss_one (ps_ret pe_bl)) pss_nil)
      (pss_one (ps_ret (pe_h h_law_book_right hr (pa_cons (pv 0) pa_nil))))))))))),
      (sm_seq (sm_for (im_rng1 (am_cons (em_int _) am_nil)) (gm_name 1) (calm_name 1) (sm_if (tm_not (tm_truth (em_fn (am_cons (em_fn (am_gen 0 am_nil)) am_nil)))) (sm_ret (em_bl false)) sm_next))
      (sm_seq (sm_asg (em_fn (am_gen 0 (am_cons (em_op p2_ix (em_el (el_lst (am_cons (em_str _) (am_cons (em_str _) am_nil)))) (em_fn (am_gen 0 (am_cons (em_int _) am_nil)))) (am_cons (em_el (el_lst (am_cons (em_str _) (am_cons (em_str _) (am_cons (em_str _) am_nil))))) am_nil)))) (gm_name 2) (calm_name 2))
      (sm_seq (sm_for (im_list (em_op p2_add (em_el (el_lst (am_cons (em_var 2) am_nil))) (em_fn (am_gen 0 (am_cons (em_var 2) am_nil))))) (gm_name 3) (calm_name 3) (sm_if (tm_not (tm_truth (em_fn (am_cons (em_var 3) am_nil)))) (sm_ret (em_bl false)) sm_next))
      (sm_seq (sm_asg (em_el (el_lst (am_cons (em_tup (am_cons (em_str _) (am_cons (em_fn (am_gen 0 (am_cons (em_int _) am_nil))) am_nil))) (am_cons (em_tup (am_cons (em_str _) (am_cons (em_op p2_sub (em_int _) (em_fn (am_gen 0 (am_cons (em_int _) am_nil)))) am_nil))) am_nil)))) (gm_name 4) (calm_name 4))
      (sm_seq (sm_asg (em_el (el_lst (am_cons (em_var 4) (am_cons (em_el (el_rev (em_var 4))) (am_cons (em_sl (em_var 4) om_none (om_some (em_int _))) (am_cons (em_op p2_add (em_var 4) (em_el (el_lst (am_cons (em_tup (am_cons (em_str _) (am_cons (em_int _) am_nil))) am_nil)))) (am_cons (em_el (el_lst (am_cons (em_tup (am_cons (em_str _) (am_cons (em_int _) am_nil))) (am_cons (em_tup (am_cons (em_str _) (am_cons (em_op p2_pow (em_int _) (em_int _)) am_nil))) am_nil)))) (am_cons (em_el (el_lst (am_cons (em_el (el_lst (am_cons (em_str _) (am_cons (em_int _) am_nil)))) (am_cons (em_tup (am_cons (em_str _) (am_cons (em_int _) am_nil))) am_nil)))) am_nil)))))))) (gm_name 5) (calm_name 5))
      (sm_seq (sm_asg (em_op p2_add (em_var 5) (em_el (el_lst (am_cons (em_el (el_lst (am_cons (em_tup (am_cons (em_str _) (am_cons (em_bl true) am_nil))) (am_cons (em_tup (am_cons (em_str _) (am_cons (em_int _) am_nil))) am_nil)))) (am_cons (em_el (el_lst (am_cons (em_tup (am_cons (em_str _) (am_cons (em_non) am_nil))) (am_cons (em_tup (am_cons (em_str _) (am_cons (em_int _) am_nil))) am_nil)))) (am_cons (em_el (el_lst (am_cons (em_tup (am_cons (em_str _) (am_cons (em_int _) am_nil))) (am_cons (em_tup (am_cons (em_str _) (am_cons (em_int _) am_nil))) am_nil)))) (am_cons (em_el (el_lst (am_cons (em_tup (am_cons (em_el (el_lst am_nil)) (am_cons (em_int _) am_nil))) (am_cons (em_tup (am_cons (em_str _) (am_cons (em_int _) am_nil))) am_nil)))) (am_cons (em_el (el_lst (am_cons (em_tup (am_cons (em_str _) am_nil)) (am_cons (em_tup (am_cons (em_str _) (am_cons (em_int _) am_nil))) am_nil)))) (am_cons (em_el (el_lst (am_cons (em_tup (am_cons (em_str _) (am_cons (em_int _) (am_cons (em_int _) am_nil)))) (am_cons (em_tup (am_cons (em_str _) (am_cons (em_int _) am_nil))) am_nil)))) am_nil))))))))) (gm_name 5) (calm_name 5))
      (sm_seq (sm_if (tm_test (em_op p2_neE (em_el (el_lc (vs := [3]) (im_list (em_op p2_add (em_var 5) (em_el (el_lst (am_cons (em_cb pc_tuple (am_cons (em_var 4) am_nil)) (am_cons (em_cb pc_dict (am_cons (em_var 4) am_nil)) am_nil)))))) (gm_name 3) (calm_name 3) (by decide) (tm_not (tm_truth (em_fn (am_cons (em_var 3) am_nil)))) (em_var 3))) (em_el (el_lst am_nil)))) (sm_ret (em_bl false)) sm_next)
      (sm_ret (em_fn (am_gen 0 am_nil))))))))))⟩
theorem d_law {f : Addr} {fd : FuncData} (F : Fun K "law" "law" s_law f fd) (z_range : mg "range" = none) (z_str : mg "str" = none) (h_law_generator : Has P w K mg base 2 "_law_generator" P_law_generator (spGen (K := K))) (h_law_right : Has P w K mg base 10 "_law_right" P_law_right (spM K f_law_right 1)) (h_is_line : Has P w K mg base 5 "is_line" P_is_line (spM K f_is_line 2)) (h_is_name : Has P w K mg base 1 "is_name" P_is_name (spM K f_is_name 1)) (h_is_book : Has P w K mg base 6 "is_book" P_is_book (spM K f_is_book 1)) (h_are_numbers : Has P w K mg base 6 "are_numbers" P_are_numbers (spM K f_are_numbers 3)) (h_unknowns : Has P w K mg base 8 "unknowns" P_unknowns (spMO K f_unknowns 1)) : Fq P w K mg base CX0 11 f fd P_law (spLaw K) :=
  law_fq F sc_law b_law (fun cdv A out s H E hr => ⟨_,
      (pss_cons (ps_for PassesOwn.never rfl (pi_range1 (by rfl) z_range (pa_cons pe_int pa_nil)) (pg_name (i := 1) sc_law.nd rfl (.inl rfl)) (pss_one (ps_if (pt_not (pt_truth (pe_h h_law_right hr (pa_cons (pe_h h_law_generator hr (pa_cons (pv 0) (pa_cons (pv 1) pa_nil))) pa_nil)) (by intro _; rfl))) (pss_one (ps_ret pe_bl)) pss_nil)))
      (pss_cons (ps_set (i := 2) sc_law.nd rfl (.inl rfl) (pe_lst (pa_cons (pe_h h_is_line hr (pa_cons pe_str (pa_cons (pe_tup (pa_cons pe_str (pa_cons pe_str (pa_cons pe_int (pa_cons pe_int pa_nil))))) pa_nil))) (pa_cons (pe_h h_is_line hr (pa_cons pe_str (pa_cons (pe_tup (pa_cons pe_str (pa_cons pe_str (pa_cons pe_int (pa_cons pe_int pa_nil))))) pa_nil))) (pa_cons (pe_h h_is_line hr (pa_cons pe_str (pa_cons (pe_tup (pa_cons pe_str (pa_cons pe_str (pa_cons pe_int (pa_cons pe_int pa_nil))))) pa_nil))) (pa_cons (pe_h h_is_line hr (pa_cons pe_str (pa_cons (pe_tup (pa_cons pe_str (pa_cons pe_str (pa_cons pe_int (pa_cons pe_int pa_nil))))) pa_nil))) pa_nil))))))
      (pss_cons (ps_set (i := 2) sc_law.nd rfl (.inl rfl) (pe_op op_addX (pv 2) (pe_lst (pa_cons (pe_h h_is_line hr (pa_cons pe_str (pa_cons (pe_tup (pa_cons pe_str (pa_cons pe_str (pa_cons (pe_un un_neg pe_int) (pa_cons pe_int pa_nil))))) pa_nil))) (pa_cons (pe_h h_is_line hr (pa_cons pe_str (pa_cons (pe_tup (pa_cons pe_str (pa_cons pe_str (pa_cons (pe_un un_neg pe_int) (pa_cons pe_int pa_nil))))) pa_nil))) (pa_cons (pe_h h_is_line hr (pa_cons pe_str (pa_cons (pe_tup (pa_cons pe_str (pa_cons pe_str (pa_cons pe_int (pa_cons pe_int pa_nil))))) pa_nil))) (pa_cons (pe_h h_is_name hr (pa_cons pe_str pa_nil)) (pa_cons (pe_h h_is_name hr (pa_cons pe_str pa_nil)) pa_nil))))))))
      (pss_cons (ps_set (i := 3) sc_law.nd rfl (.inl rfl) (pe_tup (pa_cons pe_str (pa_cons (pe_lc (own := [("_law_at", 4)]) (g := gName 4) rfl sc_law.nd (pi_range1 (by rfl) z_range (pa_cons pe_int pa_nil)) (blkOk_by (own := [("_law_at", 4)]) (N := N_law) (sc := defScope s_law) (by decide +kernel)) (fun _ _ _ _ _ => (pg_name (i := 4) sc_law.nd rfl (.inl rfl))) (fun _ _ _ _ _ => pts_nil) (fun _ _ _ _ _ => (pe_tup (pa_cons (pe_op op_addX pe_str (pe_callTy (T := "str") (r := rStrI) cA_strI (by rfl) z_str (by decide +kernel) (pa_cons (pv 4) pa_nil))) (pa_cons pe_str (pa_cons pe_int (pa_cons pe_int pa_nil))))))) pa_nil))))
      (pss_cons (ps_if (PW.pt (pw_or (pt_cmpR op_isnot_bl (pe_h h_is_book hr (pa_cons (pv 3) pa_nil)) pe_bl (nomark _)) (pw_or1 (pt_cmpR op_isnot_bl (pe_h h_is_book hr (pa_cons (pe_tup (pa_cons pe_str (pa_cons (pe_op op_mulXX (pe_lst (pa_cons (pe_tup (pa_cons pe_str (pa_cons pe_str (pa_cons pe_int (pa_cons pe_int pa_nil))))) pa_nil)) pe_int) pa_nil))) pa_nil)) pe_bl (nomark _))))) (pss_one (ps_ret pe_bl)) pss_nil)
      (pss_cons (ps_if (PW.pt (pw_or (pt_cmpR op_isnot_bl (pe_h h_are_numbers hr (pa_cons pe_str (pa_cons (pe_lst pa_nil) (pa_cons (pe_lst pa_nil) pa_nil)))) pe_bl (nomark _)) (pw_or (pt_cmpR op_isnot_bl (pe_h h_are_numbers hr (pa_cons pe_str (pa_cons (pe_lst pa_nil) (pa_cons (pe_lst (pa_cons (pe_tup (pa_cons pe_str (pa_cons pe_int pa_nil))) pa_nil)) pa_nil)))) pe_bl (nomark _)) (pw_or1 (pt_cmpR op_isnot_bl (pe_h h_is_name hr (pa_cons pe_str pa_nil)) pe_bl (nomark _)))))) (pss_one (ps_ret pe_bl)) pss_nil)
      (pss_one (ps_ret (pe_and (pe_cmpR (op_eqD hr.room.units) (pv 2) (pe_lst (pa_cons pe_bl (pa_cons pe_bl (pa_cons pe_bl (pa_cons pe_bl (pa_cons pe_bl (pa_cons pe_bl (pa_cons pe_bl (pa_cons pe_bl (pa_cons pe_bl pa_nil)))))))))) (nomark _)) (pe_and (pe_cmpR op_is_bl (pe_h h_are_numbers hr (pa_cons pe_str (pa_cons (pe_lst (pa_cons pe_str (pa_cons pe_str pa_nil))) (pa_cons (pe_lst (pa_cons (pe_tup (pa_cons pe_str (pa_cons (pe_un un_neg pe_int) pa_nil))) (pa_cons (pe_tup (pa_cons pe_str (pa_cons pe_int pa_nil))) pa_nil))) pa_nil)))) pe_bl (nomark _)) (pe_one (pe_cmpR (op_eqE hr.room.units) (pe_h h_unknowns hr (pa_cons (pe_tup (pa_cons pe_str (pa_cons (pe_lst pa_nil) pa_nil))) pa_nil)) (pe_lst pa_nil) (nomark _))))))))))))),
      (n_seq (n_of (sm_for (im_rng1 (am_cons (em_int _) am_nil)) (gm_name 1) (calm_name 1) (sm_if (tm_not (tm_truth (em_gen (em_var 1) am_nil))) (sm_ret (em_bl false)) sm_next)))
      (n_seq (n_of (sm_asg (em_el (el_lst (am_cons (em_fn (am_cons (em_str _) (am_cons (em_tup (am_cons (em_str _) (am_cons (em_str _) (am_cons (em_int _) (am_cons (em_int _) am_nil))))) am_nil))) (am_cons (em_fn (am_cons (em_str _) (am_cons (em_tup (am_cons (em_str _) (am_cons (em_str _) (am_cons (em_int _) (am_cons (em_int _) am_nil))))) am_nil))) (am_cons (em_fn (am_cons (em_str _) (am_cons (em_tup (am_cons (em_str _) (am_cons (em_str _) (am_cons (em_int _) (am_cons (em_int _) am_nil))))) am_nil))) (am_cons (em_fn (am_cons (em_str _) (am_cons (em_tup (am_cons (em_str _) (am_cons (em_str _) (am_cons (em_int _) (am_cons (em_int _) am_nil))))) am_nil))) am_nil)))))) (gm_name 2) (calm_name 2)))
      (n_seq (n_of (sm_asg (em_op p2_add (em_var 2) (em_el (el_lst (am_cons (em_fn (am_cons (em_str _) (am_cons (em_tup (am_cons (em_str _) (am_cons (em_str _) (am_cons (em_un p1_neg (em_int _)) (am_cons (em_int _) am_nil))))) am_nil))) (am_cons (em_fn (am_cons (em_str _) (am_cons (em_tup (am_cons (em_str _) (am_cons (em_str _) (am_cons (em_un p1_neg (em_int _)) (am_cons (em_int _) am_nil))))) am_nil))) (am_cons (em_fn (am_cons (em_str _) (am_cons (em_tup (am_cons (em_str _) (am_cons (em_str _) (am_cons (em_int _) (am_cons (em_int _) am_nil))))) am_nil))) (am_cons (em_fn (am_cons (em_str _) am_nil)) (am_cons (em_fn (am_cons (em_str _) am_nil)) am_nil)))))))) (gm_name 2) (calm_name 2)))
      (n_seq (n_of (sm_asg (em_tup (am_cons (em_str _) (am_cons (em_el (el_lc (vs := [4]) (im_rng1 (am_cons (em_int _) am_nil)) (gm_name 4) (calm_name 4) (by decide) tm_yes (em_tup (am_cons (em_op p2_add (em_str _) (em_cb pc_strI (am_cons (em_var 4) am_nil))) (am_cons (em_str _) (am_cons (em_int _) (am_cons (em_int _) am_nil))))))) am_nil))) (gm_name 3) (calm_name 3)))
      (n_seq (n_of (sm_if (tm_or (tm_test (em_op p2_notB (em_fn (am_cons (em_var 3) am_nil)) (em_bl true))) (tm_test (em_op p2_notB (em_fn (am_cons (em_tup (am_cons (em_str _) (am_cons (em_el (el_rep' (em_el (el_lst (am_cons (em_tup (am_cons (em_str _) (am_cons (em_str _) (am_cons (em_int _) (am_cons (em_int _) am_nil))))) am_nil))) (em_int _))) am_nil))) am_nil)) (em_bl true)))) (sm_ret (em_bl false)) sm_next))
      (n_seq (n_of (sm_if (tm_or (tm_test (em_op p2_notB (em_fn (am_cons (em_str _) (am_cons (em_el (el_lst am_nil)) (am_cons (em_el (el_lst am_nil)) am_nil)))) (em_bl true))) (tm_or (tm_test (em_op p2_notB (em_fn (am_cons (em_str _) (am_cons (em_el (el_lst am_nil)) (am_cons (em_el (el_lst (am_cons (em_tup (am_cons (em_str _) (am_cons (em_int _) am_nil))) am_nil))) am_nil)))) (em_bl false))) (tm_test (em_op p2_notB (em_fn (am_cons (em_str _) am_nil)) (em_bl false))))) (sm_ret (em_bl false)) sm_next))
      (n_of (sm_ret (em_andV (em_op p2_eq (em_var 2) (em_el (el_lst (am_cons (em_bl false) (am_cons (em_bl true) (am_cons (em_bl false) (am_cons (em_bl true) (am_cons (em_bl true) (am_cons (em_bl false) (am_cons (em_bl true) (am_cons (em_bl true) (am_cons (em_bl true) am_nil)))))))))))) (em_andV (em_op p2_isB (em_fn (am_cons (em_str _) (am_cons (em_el (el_lst (am_cons (em_str _) (am_cons (em_str _) am_nil)))) (am_cons (em_el (el_lst (am_cons (em_tup (am_cons (em_str _) (am_cons (em_un p1_neg (em_int _)) am_nil))) (am_cons (em_tup (am_cons (em_str _) (am_cons (em_int _) am_nil))) am_nil)))) am_nil)))) (em_bl true)) (em_op p2_eqE (em_el (el_fn (am_cons (em_tup (am_cons (em_str _) (am_cons (em_el (el_lst am_nil)) am_nil))) am_nil))) (em_el (el_lst am_nil)))))))))))))⟩) law_true
end
end Hr
namespace Hr
open PySem PySem.Spec PyProof.Rows L2 Evl
/-! ### what the top has written -/
theorem def_mk {K : PySem.W.Frag} {h : Heap} {mg : Str → Option Value} {x : Str} {st : Stmt} {ps : List Str} {f : Addr} {oc kV dc pm cd ct : Value} {od an : Option Addr} {sl : Array (Option Value)} (X : K.In h) (G : h.Ns mainGlobals mg)
    (a : PySem.W.nsIn K mainGlobals x = some (some (.ref f))) (l : K.lookup f = some ⟨oc, od, .func (PySem.W.fnOf x x (defArgs st) (defBody st) (defScope st) .none kV dc pm an cd ct), sl⟩) (c : PySem.W.codeIn K cd x = true) (k : PySem.W.keepIn K (.ref f) = true)
    (b : ∀ (kV dc pm : Value) (an : Option Addr) (cd ct : Value) (us : List Value), us.length = ps.length → bindArgs (PySem.W.fnOf x x (defArgs st) (defBody st) (defScope st) .none kV dc pm an cd ct) ⟨us, []⟩ = pure (ps.zip us)) : Def K mg x st ps :=
  ⟨f, _, PySem.W.mg_of X G a, fun_mk l c k, (fun_mk (st := st) l c k).binds b⟩
theorem kw_mk {K : PySem.W.Frag} {h : Heap} {mg : Str → Option Value} {x : Str} {st : Stmt} {ps : List Str} {f : Addr} {oc kV dc pm cd ct : Value} {od an : Option Addr} {sl : Array (Option Value)} {nu : Nat} {ks : List Str} {ix : List Nat} (X : K.In h) (G : h.Ns mainGlobals mg)
    (a : PySem.W.nsIn K mainGlobals x = some (some (.ref f))) (l : K.lookup f = some ⟨oc, od, .func (PySem.W.fnOf x x (defArgs st) (defBody st) (defScope st) .none kV dc pm an cd ct), sl⟩) (hl : ix.length = ps.length)
    (b : ∀ (s : Shared) (us ws : List Value), us.length = nu → ws.length = ks.length → BindsTo s (PySem.W.fnOf x x (defArgs st) (defBody st) (defScope st) .none kV dc pm an cd ct) ⟨us, ks.zip ws⟩ (ps.zip (ix.map fun i => (us ++ ws).getD i .none))) : Kw K mg x ps nu ks ix :=
  ⟨fun f2 fd oc2 od2 osl hm lk s us ws hu hw => by
    have e := hm.symm.trans (PySem.W.mg_of X G a)
    cases e
    rw [l] at lk
    cases lk
    exact b s us ws hu hw, hl⟩
theorem kin_tup {K : PySem.W.Frag} {H : Hp} {a : Addr} {dd : Option Addr} {us : Array Value} {n : Nat} {sl : Array (Option Value)} {xs : List V} (l : K.lookup a = some ⟨.type "tuple", dd, .seq us n, sl⟩) (r : Vals xs us.toList) (hl : xs.length ≤ 100000) : SqT K H a xs :=
  .inr ⟨_, us, _, l, rfl, rfl, by rw [← Array.length_toList, ← r.length]; exact sz_of hl, r⟩
theorem all_mk {l : PySem.W.OpenLaw} {w : World} {K : PySem.W.Frag} {h : Heap} {mg : Str → Option Value} {fa : Addr} (X : K.In h) (G : h.Ns mainGlobals mg) (hfa : mg "law" = some (.ref fa))
    {f1 : Addr} {od1 an1 : Option Addr} {sl1 : Array (Option Value)} {oc1 kV1 dc1 pm1 cd1 ct1 : Value}
    {f2 : Addr} {od2 an2 : Option Addr} {sl2 : Array (Option Value)} {oc2 kV2 dc2 pm2 cd2 ct2 : Value}
    {f3 : Addr} {od3 an3 : Option Addr} {sl3 : Array (Option Value)} {oc3 kV3 dc3 pm3 cd3 ct3 : Value}
    {f4 : Addr} {od4 an4 : Option Addr} {sl4 : Array (Option Value)} {oc4 kV4 dc4 pm4 cd4 ct4 : Value}
    {f5 : Addr} {od5 an5 : Option Addr} {sl5 : Array (Option Value)} {oc5 kV5 dc5 pm5 cd5 ct5 : Value}
    {f6 : Addr} {od6 an6 : Option Addr} {sl6 : Array (Option Value)} {oc6 kV6 dc6 pm6 cd6 ct6 : Value}
    {f7 : Addr} {od7 an7 : Option Addr} {sl7 : Array (Option Value)} {oc7 kV7 dc7 pm7 cd7 ct7 : Value}
    {f8 : Addr} {od8 an8 : Option Addr} {sl8 : Array (Option Value)} {oc8 kV8 dc8 pm8 cd8 ct8 : Value}
    {f9 : Addr} {od9 an9 : Option Addr} {sl9 : Array (Option Value)} {oc9 kV9 dc9 pm9 cd9 ct9 : Value}
    {f10 : Addr} {od10 an10 : Option Addr} {sl10 : Array (Option Value)} {oc10 kV10 dc10 pm10 cd10 ct10 : Value}
    {f11 : Addr} {od11 an11 : Option Addr} {sl11 : Array (Option Value)} {oc11 kV11 dc11 pm11 cd11 ct11 : Value}
    {f12 : Addr} {od12 an12 : Option Addr} {sl12 : Array (Option Value)} {oc12 kV12 dc12 pm12 cd12 ct12 : Value}
    {f13 : Addr} {od13 an13 : Option Addr} {sl13 : Array (Option Value)} {oc13 kV13 dc13 pm13 cd13 ct13 : Value}
    {f14 : Addr} {od14 an14 : Option Addr} {sl14 : Array (Option Value)} {oc14 kV14 dc14 pm14 cd14 ct14 : Value}
    {f15 : Addr} {od15 an15 : Option Addr} {sl15 : Array (Option Value)} {oc15 kV15 dc15 pm15 cd15 ct15 : Value}
    {f16 : Addr} {od16 an16 : Option Addr} {sl16 : Array (Option Value)} {oc16 kV16 dc16 pm16 cd16 ct16 : Value}
    {f17 : Addr} {od17 an17 : Option Addr} {sl17 : Array (Option Value)} {oc17 kV17 dc17 pm17 cd17 ct17 : Value}
    {f18 : Addr} {od18 an18 : Option Addr} {sl18 : Array (Option Value)} {oc18 kV18 dc18 pm18 cd18 ct18 : Value}
    {f19 : Addr} {od19 an19 : Option Addr} {sl19 : Array (Option Value)} {oc19 kV19 dc19 pm19 cd19 ct19 : Value}
    {f20 : Addr} {od20 an20 : Option Addr} {sl20 : Array (Option Value)} {oc20 kV20 dc20 pm20 cd20 ct20 : Value}
    {f21 : Addr} {od21 an21 : Option Addr} {sl21 : Array (Option Value)} {oc21 kV21 dc21 pm21 cd21 ct21 : Value}
    {f22 : Addr} {od22 an22 : Option Addr} {sl22 : Array (Option Value)} {oc22 kV22 dc22 pm22 cd22 ct22 : Value}
    {f23 : Addr} {od23 an23 : Option Addr} {sl23 : Array (Option Value)} {oc23 kV23 dc23 pm23 cd23 ct23 : Value}
    {f24 : Addr} {od24 an24 : Option Addr} {sl24 : Array (Option Value)} {oc24 kV24 dc24 pm24 cd24 ct24 : Value}
    {f25 : Addr} {od25 an25 : Option Addr} {sl25 : Array (Option Value)} {oc25 kV25 dc25 pm25 cd25 ct25 : Value}
    {f26 : Addr} {od26 an26 : Option Addr} {sl26 : Array (Option Value)} {oc26 kV26 dc26 pm26 cd26 ct26 : Value}
    {f27 : Addr} {od27 an27 : Option Addr} {sl27 : Array (Option Value)} {oc27 kV27 dc27 pm27 cd27 ct27 : Value}
    {f28 : Addr} {od28 an28 : Option Addr} {sl28 : Array (Option Value)} {oc28 kV28 dc28 pm28 cd28 ct28 : Value}
    {f29 : Addr} {od29 an29 : Option Addr} {sl29 : Array (Option Value)} {oc29 kV29 dc29 pm29 cd29 ct29 : Value}
    {f30 : Addr} {od30 an30 : Option Addr} {sl30 : Array (Option Value)} {oc30 kV30 dc30 pm30 cd30 ct30 : Value}
    {f31 : Addr} {od31 an31 : Option Addr} {sl31 : Array (Option Value)} {oc31 kV31 dc31 pm31 cd31 ct31 : Value}
    {f32 : Addr} {od32 an32 : Option Addr} {sl32 : Array (Option Value)} {oc32 kV32 dc32 pm32 cd32 ct32 : Value}
    {f33 : Addr} {od33 an33 : Option Addr} {sl33 : Array (Option Value)} {oc33 kV33 dc33 pm33 cd33 ct33 : Value}
    {f34 : Addr} {od34 an34 : Option Addr} {sl34 : Array (Option Value)} {oc34 kV34 dc34 pm34 cd34 ct34 : Value}
    {f35 : Addr} {od35 an35 : Option Addr} {sl35 : Array (Option Value)} {oc35 kV35 dc35 pm35 cd35 ct35 : Value}
    {f36 : Addr} {od36 an36 : Option Addr} {sl36 : Array (Option Value)} {oc36 kV36 dc36 pm36 cd36 ct36 : Value}
    {f37 : Addr} {od37 an37 : Option Addr} {sl37 : Array (Option Value)} {oc37 kV37 dc37 pm37 cd37 ct37 : Value}
    {f38 : Addr} {od38 an38 : Option Addr} {sl38 : Array (Option Value)} {oc38 kV38 dc38 pm38 cd38 ct38 : Value}
    {f39 : Addr} {od39 an39 : Option Addr} {sl39 : Array (Option Value)} {oc39 kV39 dc39 pm39 cd39 ct39 : Value}
    {f40 : Addr} {od40 an40 : Option Addr} {sl40 : Array (Option Value)} {oc40 kV40 dc40 pm40 cd40 ct40 : Value}
    {f41 : Addr} {od41 an41 : Option Addr} {sl41 : Array (Option Value)} {oc41 kV41 dc41 pm41 cd41 ct41 : Value}
    {f42 : Addr} {od42 an42 : Option Addr} {sl42 : Array (Option Value)} {oc42 kV42 dc42 pm42 cd42 ct42 : Value}
    {f43 : Addr} {od43 an43 : Option Addr} {sl43 : Array (Option Value)} {oc43 kV43 dc43 pm43 cd43 ct43 : Value}
    {f44 : Addr} {od44 an44 : Option Addr} {sl44 : Array (Option Value)} {oc44 kV44 dc44 pm44 cd44 ct44 : Value}
    {f45 : Addr} {od45 an45 : Option Addr} {sl45 : Array (Option Value)} {oc45 kV45 dc45 pm45 cd45 ct45 : Value}
    {f46 : Addr} {od46 an46 : Option Addr} {sl46 : Array (Option Value)} {oc46 kV46 dc46 pm46 cd46 ct46 : Value}
    {f47 : Addr} {od47 an47 : Option Addr} {sl47 : Array (Option Value)} {oc47 kV47 dc47 pm47 cd47 ct47 : Value}
    {kd : Addr} {ddk : Option Addr} {tk1 tk2 : Tok} {nk : Nat} {slk : Array (Option Value)}
    {tkm_FIGURES : Tok}
    {tkm_LETTERS : Tok}
    (a1 : PySem.W.nsIn K mainGlobals "_law_hash" = some (some (.ref f1))) (l1 : K.lookup f1 = some ⟨oc1, od1, .func (PySem.W.fnOf "_law_hash" "_law_hash" (defArgs s_law_hash) (defBody s_law_hash) (defScope s_law_hash) .none kV1 dc1 pm1 an1 cd1 ct1), sl1⟩) (c1 : PySem.W.codeIn K cd1 "_law_hash" = true) (k1 : PySem.W.keepIn K (.ref f1) = true)
    (a2 : PySem.W.nsIn K mainGlobals "_law_random" = some (some (.ref f2))) (l2 : K.lookup f2 = some ⟨oc2, od2, .func (PySem.W.fnOf "_law_random" "_law_random" (defArgs s_law_random) (defBody s_law_random) (defScope s_law_random) .none kV2 dc2 pm2 an2 cd2 ct2), sl2⟩) (c2 : PySem.W.codeIn K cd2 "_law_random" = true) (k2 : PySem.W.keepIn K (.ref f2) = true)
    (a3 : PySem.W.nsIn K mainGlobals "_law_cell" = some (some (.ref f3))) (l3 : K.lookup f3 = some ⟨oc3, od3, .func (PySem.W.fnOf "_law_cell" "_law_cell" (defArgs s_law_cell) (defBody s_law_cell) (defScope s_law_cell) .none kV3 dc3 pm3 an3 cd3 ct3), sl3⟩) (c3 : PySem.W.codeIn K cd3 "_law_cell" = true) (k3 : PySem.W.keepIn K (.ref f3) = true)
    (a4 : PySem.W.nsIn K mainGlobals "_law_generator" = some (some (.ref f4))) (l4 : K.lookup f4 = some ⟨oc4, od4, .func (PySem.W.fnOf "_law_generator" "_law_generator" (defArgs s_law_generator) (defBody s_law_generator) (defScope s_law_generator) .none kV4 dc4 pm4 an4 cd4 ct4), sl4⟩) (c4 : PySem.W.codeIn K cd4 "_law_generator" = true) (k4 : PySem.W.keepIn K (.ref f4) = true)
    (a5 : PySem.W.nsIn K mainGlobals "is_kind" = some (some (.ref f5))) (l5 : K.lookup f5 = some ⟨oc5, od5, .func (PySem.W.fnOf "is_kind" "is_kind" (defArgs s_is_kind) (defBody s_is_kind) (defScope s_is_kind) .none kV5 dc5 pm5 an5 cd5 ct5), sl5⟩) (c5 : PySem.W.codeIn K cd5 "is_kind" = true) (k5 : PySem.W.keepIn K (.ref f5) = true)
    (a6 : PySem.W.nsIn K mainGlobals "is_whole" = some (some (.ref f6))) (l6 : K.lookup f6 = some ⟨oc6, od6, .func (PySem.W.fnOf "is_whole" "is_whole" (defArgs s_is_whole) (defBody s_is_whole) (defScope s_is_whole) .none kV6 dc6 pm6 an6 cd6 ct6), sl6⟩) (c6 : PySem.W.codeIn K cd6 "is_whole" = true) (k6 : PySem.W.keepIn K (.ref f6) = true)
    (a7 : PySem.W.nsIn K mainGlobals "is_count" = some (some (.ref f7))) (l7 : K.lookup f7 = some ⟨oc7, od7, .func (PySem.W.fnOf "is_count" "is_count" (defArgs s_is_count) (defBody s_is_count) (defScope s_is_count) .none kV7 dc7 pm7 an7 cd7 ct7), sl7⟩) (c7 : PySem.W.codeIn K cd7 "is_count" = true) (k7 : PySem.W.keepIn K (.ref f7) = true)
    (a8 : PySem.W.nsIn K mainGlobals "is_number" = some (some (.ref f8))) (l8 : K.lookup f8 = some ⟨oc8, od8, .func (PySem.W.fnOf "is_number" "is_number" (defArgs s_is_number) (defBody s_is_number) (defScope s_is_number) .none kV8 dc8 pm8 an8 cd8 ct8), sl8⟩) (c8 : PySem.W.codeIn K cd8 "is_number" = true) (k8 : PySem.W.keepIn K (.ref f8) = true)
    (a9 : PySem.W.nsIn K mainGlobals "check_kind" = some (some (.ref f9))) (l9 : K.lookup f9 = some ⟨oc9, od9, .func (PySem.W.fnOf "check_kind" "check_kind" (defArgs s_check_kind) (defBody s_check_kind) (defScope s_check_kind) .none kV9 dc9 pm9 an9 cd9 ct9), sl9⟩) (c9 : PySem.W.codeIn K cd9 "check_kind" = true) (k9 : PySem.W.keepIn K (.ref f9) = true)
    (a10 : PySem.W.nsIn K mainGlobals "is_ascending" = some (some (.ref f10))) (l10 : K.lookup f10 = some ⟨oc10, od10, .func (PySem.W.fnOf "is_ascending" "is_ascending" (defArgs s_is_ascending) (defBody s_is_ascending) (defScope s_is_ascending) .none kV10 dc10 pm10 an10 cd10 ct10), sl10⟩) (c10 : PySem.W.codeIn K cd10 "is_ascending" = true) (k10 : PySem.W.keepIn K (.ref f10) = true)
    (a11 : PySem.W.nsIn K mainGlobals "is_name" = some (some (.ref f11))) (l11 : K.lookup f11 = some ⟨oc11, od11, .func (PySem.W.fnOf "is_name" "is_name" (defArgs s_is_name) (defBody s_is_name) (defScope s_is_name) .none kV11 dc11 pm11 an11 cd11 ct11), sl11⟩) (c11 : PySem.W.codeIn K cd11 "is_name" = true) (k11 : PySem.W.keepIn K (.ref f11) = true)
    (a12 : PySem.W.nsIn K mainGlobals "may_tell" = some (some (.ref f12))) (l12 : K.lookup f12 = some ⟨oc12, od12, .func (PySem.W.fnOf "may_tell" "may_tell" (defArgs s_may_tell) (defBody s_may_tell) (defScope s_may_tell) .none kV12 dc12 pm12 an12 cd12 ct12), sl12⟩) (c12 : PySem.W.codeIn K cd12 "may_tell" = true) (k12 : PySem.W.keepIn K (.ref f12) = true)
    (a13 : PySem.W.nsIn K mainGlobals "line_fits" = some (some (.ref f13))) (l13 : K.lookup f13 = some ⟨oc13, od13, .func (PySem.W.fnOf "line_fits" "line_fits" (defArgs s_line_fits) (defBody s_line_fits) (defScope s_line_fits) .none kV13 dc13 pm13 an13 cd13 ct13), sl13⟩) (c13 : PySem.W.codeIn K cd13 "line_fits" = true) (k13 : PySem.W.keepIn K (.ref f13) = true)
    (a14 : PySem.W.nsIn K mainGlobals "lines_fit" = some (some (.ref f14))) (l14 : K.lookup f14 = some ⟨oc14, od14, .func (PySem.W.fnOf "lines_fit" "lines_fit" (defArgs s_lines_fit) (defBody s_lines_fit) (defScope s_lines_fit) .none kV14 dc14 pm14 an14 cd14 ct14), sl14⟩) (c14 : PySem.W.codeIn K cd14 "lines_fit" = true) (k14 : PySem.W.keepIn K (.ref f14) = true)
    (a15 : PySem.W.nsIn K mainGlobals "names_fit" = some (some (.ref f15))) (l15 : K.lookup f15 = some ⟨oc15, od15, .func (PySem.W.fnOf "names_fit" "names_fit" (defArgs s_names_fit) (defBody s_names_fit) (defScope s_names_fit) .none kV15 dc15 pm15 an15 cd15 ct15), sl15⟩) (c15 : PySem.W.codeIn K cd15 "names_fit" = true) (k15 : PySem.W.keepIn K (.ref f15) = true)
    (a16 : PySem.W.nsIn K mainGlobals "number_told" = some (some (.ref f16))) (l16 : K.lookup f16 = some ⟨oc16, od16, .func (PySem.W.fnOf "number_told" "number_told" (defArgs s_number_told) (defBody s_number_told) (defScope s_number_told) .none kV16 dc16 pm16 an16 cd16 ct16), sl16⟩) (c16 : PySem.W.codeIn K cd16 "number_told" = true) (k16 : PySem.W.keepIn K (.ref f16) = true)
    (a17 : PySem.W.nsIn K mainGlobals "numbers_fit" = some (some (.ref f17))) (l17 : K.lookup f17 = some ⟨oc17, od17, .func (PySem.W.fnOf "numbers_fit" "numbers_fit" (defArgs s_numbers_fit) (defBody s_numbers_fit) (defScope s_numbers_fit) .none kV17 dc17 pm17 an17 cd17 ct17), sl17⟩) (c17 : PySem.W.codeIn K cd17 "numbers_fit" = true) (k17 : PySem.W.keepIn K (.ref f17) = true)
    (a18 : PySem.W.nsIn K mainGlobals "numbers_of" = some (some (.ref f18))) (l18 : K.lookup f18 = some ⟨oc18, od18, .func (PySem.W.fnOf "numbers_of" "numbers_of" (defArgs s_numbers_of) (defBody s_numbers_of) (defScope s_numbers_of) .none kV18 dc18 pm18 an18 cd18 ct18), sl18⟩) (c18 : PySem.W.codeIn K cd18 "numbers_of" = true) (k18 : PySem.W.keepIn K (.ref f18) = true)
    (a19 : PySem.W.nsIn K mainGlobals "is_line" = some (some (.ref f19))) (l19 : K.lookup f19 = some ⟨oc19, od19, .func (PySem.W.fnOf "is_line" "is_line" (defArgs s_is_line) (defBody s_is_line) (defScope s_is_line) .none kV19 dc19 pm19 an19 cd19 ct19), sl19⟩) (c19 : PySem.W.codeIn K cd19 "is_line" = true) (k19 : PySem.W.keepIn K (.ref f19) = true)
    (a20 : PySem.W.nsIn K mainGlobals "are_lines" = some (some (.ref f20))) (l20 : K.lookup f20 = some ⟨oc20, od20, .func (PySem.W.fnOf "are_lines" "are_lines" (defArgs s_are_lines) (defBody s_are_lines) (defScope s_are_lines) .none kV20 dc20 pm20 an20 cd20 ct20), sl20⟩) (c20 : PySem.W.codeIn K cd20 "are_lines" = true) (k20 : PySem.W.keepIn K (.ref f20) = true)
    (a21 : PySem.W.nsIn K mainGlobals "is_book" = some (some (.ref f21))) (l21 : K.lookup f21 = some ⟨oc21, od21, .func (PySem.W.fnOf "is_book" "is_book" (defArgs s_is_book) (defBody s_is_book) (defScope s_is_book) .none kV21 dc21 pm21 an21 cd21 ct21), sl21⟩) (c21 : PySem.W.codeIn K cd21 "is_book" = true) (k21 : PySem.W.keepIn K (.ref f21) = true)
    (a22 : PySem.W.nsIn K mainGlobals "check_names" = some (some (.ref f22))) (l22 : K.lookup f22 = some ⟨oc22, od22, .func (PySem.W.fnOf "check_names" "check_names" (defArgs s_check_names) (defBody s_check_names) (defScope s_check_names) .none kV22 dc22 pm22 an22 cd22 ct22), sl22⟩) (c22 : PySem.W.codeIn K cd22 "check_names" = true) (k22 : PySem.W.keepIn K (.ref f22) = true)
    (a23 : PySem.W.nsIn K mainGlobals "are_numbers" = some (some (.ref f23))) (l23 : K.lookup f23 = some ⟨oc23, od23, .func (PySem.W.fnOf "are_numbers" "are_numbers" (defArgs s_are_numbers) (defBody s_are_numbers) (defScope s_are_numbers) .none kV23 dc23 pm23 an23 cd23 ct23), sl23⟩) (c23 : PySem.W.codeIn K cd23 "are_numbers" = true) (k23 : PySem.W.keepIn K (.ref f23) = true)
    (a24 : PySem.W.nsIn K mainGlobals "check_book" = some (some (.ref f24))) (l24 : K.lookup f24 = some ⟨oc24, od24, .func (PySem.W.fnOf "check_book" "check_book" (defArgs s_check_book) (defBody s_check_book) (defScope s_check_book) .none kV24 dc24 pm24 an24 cd24 ct24), sl24⟩) (c24 : PySem.W.codeIn K cd24 "check_book" = true) (k24 : PySem.W.keepIn K (.ref f24) = true)
    (a25 : PySem.W.nsIn K mainGlobals "names_in" = some (some (.ref f25))) (l25 : K.lookup f25 = some ⟨oc25, od25, .func (PySem.W.fnOf "names_in" "names_in" (defArgs s_names_in) (defBody s_names_in) (defScope s_names_in) .none kV25 dc25 pm25 an25 cd25 ct25), sl25⟩) (c25 : PySem.W.codeIn K cd25 "names_in" = true) (k25 : PySem.W.keepIn K (.ref f25) = true)
    (a26 : PySem.W.nsIn K mainGlobals "unknowns" = some (some (.ref f26))) (l26 : K.lookup f26 = some ⟨oc26, od26, .func (PySem.W.fnOf "unknowns" "unknowns" (defArgs s_unknowns) (defBody s_unknowns) (defScope s_unknowns) .none kV26 dc26 pm26 an26 cd26 ct26), sl26⟩) (c26 : PySem.W.codeIn K cd26 "unknowns" = true) (k26 : PySem.W.keepIn K (.ref f26) = true)
    (a27 : PySem.W.nsIn K mainGlobals "_law_is_whole" = some (some (.ref f27))) (l27 : K.lookup f27 = some ⟨oc27, od27, .func (PySem.W.fnOf "_law_is_whole" "_law_is_whole" (defArgs s_law_is_whole) (defBody s_law_is_whole) (defScope s_law_is_whole) .none kV27 dc27 pm27 an27 cd27 ct27), sl27⟩) (c27 : PySem.W.codeIn K cd27 "_law_is_whole" = true) (k27 : PySem.W.keepIn K (.ref f27) = true)
    (a28 : PySem.W.nsIn K mainGlobals "_law_two" = some (some (.ref f28))) (l28 : K.lookup f28 = some ⟨oc28, od28, .func (PySem.W.fnOf "_law_two" "_law_two" (defArgs s_law_two) (defBody s_law_two) (defScope s_law_two) .none kV28 dc28 pm28 an28 cd28 ct28), sl28⟩) (c28 : PySem.W.codeIn K cd28 "_law_two" = true) (k28 : PySem.W.keepIn K (.ref f28) = true)
    (a29 : PySem.W.nsIn K mainGlobals "_law_bits" = some (some (.ref f29))) (l29 : K.lookup f29 = some ⟨oc29, od29, .func (PySem.W.fnOf "_law_bits" "_law_bits" (defArgs s_law_bits) (defBody s_law_bits) (defScope s_law_bits) .none kV29 dc29 pm29 an29 cd29 ct29), sl29⟩) (c29 : PySem.W.codeIn K cd29 "_law_bits" = true) (k29 : PySem.W.keepIn K (.ref f29) = true)
    (a30 : PySem.W.nsIn K mainGlobals "_law_rest" = some (some (.ref f30))) (l30 : K.lookup f30 = some ⟨oc30, od30, .func (PySem.W.fnOf "_law_rest" "_law_rest" (defArgs s_law_rest) (defBody s_law_rest) (defScope s_law_rest) .none kV30 dc30 pm30 an30 cd30 ct30), sl30⟩) (c30 : PySem.W.codeIn K cd30 "_law_rest" = true) (k30 : PySem.W.keepIn K (.ref f30) = true)
    (a31 : PySem.W.nsIn K mainGlobals "_law_by" = some (some (.ref f31))) (l31 : K.lookup f31 = some ⟨oc31, od31, .func (PySem.W.fnOf "_law_by" "_law_by" (defArgs s_law_by) (defBody s_law_by) (defScope s_law_by) .none kV31 dc31 pm31 an31 cd31 ct31), sl31⟩) (c31 : PySem.W.codeIn K cd31 "_law_by" = true) (k31 : PySem.W.keepIn K (.ref f31) = true)
    (a32 : PySem.W.nsIn K mainGlobals "_law_number" = some (some (.ref f32))) (l32 : K.lookup f32 = some ⟨oc32, od32, .func (PySem.W.fnOf "_law_number" "_law_number" (defArgs s_law_number) (defBody s_law_number) (defScope s_law_number) .none kV32 dc32 pm32 an32 cd32 ct32), sl32⟩) (c32 : PySem.W.codeIn K cd32 "_law_number" = true) (k32 : PySem.W.keepIn K (.ref f32) = true)
    (a33 : PySem.W.nsIn K mainGlobals "_law_line" = some (some (.ref f33))) (l33 : K.lookup f33 = some ⟨oc33, od33, .func (PySem.W.fnOf "_law_line" "_law_line" (defArgs s_law_line) (defBody s_law_line) (defScope s_law_line) .none kV33 dc33 pm33 an33 cd33 ct33), sl33⟩) (c33 : PySem.W.codeIn K cd33 "_law_line" = true) (k33 : PySem.W.keepIn K (.ref f33) = true)
    (a34 : PySem.W.nsIn K mainGlobals "_law_lines" = some (some (.ref f34))) (l34 : K.lookup f34 = some ⟨oc34, od34, .func (PySem.W.fnOf "_law_lines" "_law_lines" (defArgs s_law_lines) (defBody s_law_lines) (defScope s_law_lines) .none kV34 dc34 pm34 an34 cd34 ct34), sl34⟩) (c34 : PySem.W.codeIn K cd34 "_law_lines" = true) (k34 : PySem.W.keepIn K (.ref f34) = true)
    (a35 : PySem.W.nsIn K mainGlobals "_law_names_in" = some (some (.ref f35))) (l35 : K.lookup f35 = some ⟨oc35, od35, .func (PySem.W.fnOf "_law_names_in" "_law_names_in" (defArgs s_law_names_in) (defBody s_law_names_in) (defScope s_law_names_in) .none kV35 dc35 pm35 an35 cd35 ct35), sl35⟩) (c35 : PySem.W.codeIn K cd35 "_law_names_in" = true) (k35 : PySem.W.keepIn K (.ref f35) = true)
    (a36 : PySem.W.nsIn K mainGlobals "_law_is_name" = some (some (.ref f36))) (l36 : K.lookup f36 = some ⟨oc36, od36, .func (PySem.W.fnOf "_law_is_name" "_law_is_name" (defArgs s_law_is_name) (defBody s_law_is_name) (defScope s_law_is_name) .none kV36 dc36 pm36 an36 cd36 ct36), sl36⟩) (c36 : PySem.W.codeIn K cd36 "_law_is_name" = true) (k36 : PySem.W.keepIn K (.ref f36) = true)
    (a37 : PySem.W.nsIn K mainGlobals "_law_is_number" = some (some (.ref f37))) (l37 : K.lookup f37 = some ⟨oc37, od37, .func (PySem.W.fnOf "_law_is_number" "_law_is_number" (defArgs s_law_is_number) (defBody s_law_is_number) (defScope s_law_is_number) .none kV37 dc37 pm37 an37 cd37 ct37), sl37⟩) (c37 : PySem.W.codeIn K cd37 "_law_is_number" = true) (k37 : PySem.W.keepIn K (.ref f37) = true)
    (a38 : PySem.W.nsIn K mainGlobals "_law_is_line" = some (some (.ref f38))) (l38 : K.lookup f38 = some ⟨oc38, od38, .func (PySem.W.fnOf "_law_is_line" "_law_is_line" (defArgs s_law_is_line) (defBody s_law_is_line) (defScope s_law_is_line) .none kV38 dc38 pm38 an38 cd38 ct38), sl38⟩) (c38 : PySem.W.codeIn K cd38 "_law_is_line" = true) (k38 : PySem.W.keepIn K (.ref f38) = true)
    (a39 : PySem.W.nsIn K mainGlobals "_law_are_lines" = some (some (.ref f39))) (l39 : K.lookup f39 = some ⟨oc39, od39, .func (PySem.W.fnOf "_law_are_lines" "_law_are_lines" (defArgs s_law_are_lines) (defBody s_law_are_lines) (defScope s_law_are_lines) .none kV39 dc39 pm39 an39 cd39 ct39), sl39⟩) (c39 : PySem.W.codeIn K cd39 "_law_are_lines" = true) (k39 : PySem.W.keepIn K (.ref f39) = true)
    (a40 : PySem.W.nsIn K mainGlobals "_law_is_book" = some (some (.ref f40))) (l40 : K.lookup f40 = some ⟨oc40, od40, .func (PySem.W.fnOf "_law_is_book" "_law_is_book" (defArgs s_law_is_book) (defBody s_law_is_book) (defScope s_law_is_book) .none kV40 dc40 pm40 an40 cd40 ct40), sl40⟩) (c40 : PySem.W.codeIn K cd40 "_law_is_book" = true) (k40 : PySem.W.keepIn K (.ref f40) = true)
    (a41 : PySem.W.nsIn K mainGlobals "_law_are_numbers" = some (some (.ref f41))) (l41 : K.lookup f41 = some ⟨oc41, od41, .func (PySem.W.fnOf "_law_are_numbers" "_law_are_numbers" (defArgs s_law_are_numbers) (defBody s_law_are_numbers) (defScope s_law_are_numbers) .none kV41 dc41 pm41 an41 cd41 ct41), sl41⟩) (c41 : PySem.W.codeIn K cd41 "_law_are_numbers" = true) (k41 : PySem.W.keepIn K (.ref f41) = true)
    (a42 : PySem.W.nsIn K mainGlobals "_law_word" = some (some (.ref f42))) (l42 : K.lookup f42 = some ⟨oc42, od42, .func (PySem.W.fnOf "_law_word" "_law_word" (defArgs s_law_word) (defBody s_law_word) (defScope s_law_word) .none kV42 dc42 pm42 an42 cd42 ct42), sl42⟩) (c42 : PySem.W.codeIn K cd42 "_law_word" = true) (k42 : PySem.W.keepIn K (.ref f42) = true)
    (a43 : PySem.W.nsIn K mainGlobals "_law_odd" = some (some (.ref f43))) (l43 : K.lookup f43 = some ⟨oc43, od43, .func (PySem.W.fnOf "_law_odd" "_law_odd" (defArgs s_law_odd) (defBody s_law_odd) (defScope s_law_odd) .none kV43 dc43 pm43 an43 cd43 ct43), sl43⟩) (c43 : PySem.W.codeIn K cd43 "_law_odd" = true) (k43 : PySem.W.keepIn K (.ref f43) = true)
    (a44 : PySem.W.nsIn K mainGlobals "_law_value_right" = some (some (.ref f44))) (l44 : K.lookup f44 = some ⟨oc44, od44, .func (PySem.W.fnOf "_law_value_right" "_law_value_right" (defArgs s_law_value_right) (defBody s_law_value_right) (defScope s_law_value_right) .none kV44 dc44 pm44 an44 cd44 ct44), sl44⟩) (c44 : PySem.W.codeIn K cd44 "_law_value_right" = true) (k44 : PySem.W.keepIn K (.ref f44) = true)
    (a45 : PySem.W.nsIn K mainGlobals "_law_book_right" = some (some (.ref f45))) (l45 : K.lookup f45 = some ⟨oc45, od45, .func (PySem.W.fnOf "_law_book_right" "_law_book_right" (defArgs s_law_book_right) (defBody s_law_book_right) (defScope s_law_book_right) .none kV45 dc45 pm45 an45 cd45 ct45), sl45⟩) (c45 : PySem.W.codeIn K cd45 "_law_book_right" = true) (k45 : PySem.W.keepIn K (.ref f45) = true)
    (a46 : PySem.W.nsIn K mainGlobals "_law_right" = some (some (.ref f46))) (l46 : K.lookup f46 = some ⟨oc46, od46, .func (PySem.W.fnOf "_law_right" "_law_right" (defArgs s_law_right) (defBody s_law_right) (defScope s_law_right) .none kV46 dc46 pm46 an46 cd46 ct46), sl46⟩) (c46 : PySem.W.codeIn K cd46 "_law_right" = true) (k46 : PySem.W.keepIn K (.ref f46) = true)
    (a47 : PySem.W.nsIn K mainGlobals "law" = some (some (.ref f47))) (l47 : K.lookup f47 = some ⟨oc47, od47, .func (PySem.W.fnOf "law" "law" (defArgs s_law) (defBody s_law) (defScope s_law) .none kV47 dc47 pm47 an47 cd47 ct47), sl47⟩) (c47 : PySem.W.codeIn K cd47 "law" = true) (k47 : PySem.W.keepIn K (.ref f47) = true)
    (bz_int : PySem.W.nsIn K mainGlobals "int" = some none)
    (bz_range : PySem.W.nsIn K mainGlobals "range" = some none)
    (bz_len : PySem.W.nsIn K mainGlobals "len" = some none)
    (bz_sum : PySem.W.nsIn K mainGlobals "sum" = some none)
    (bz_max : PySem.W.nsIn K mainGlobals "max" = some none)
    (bz_isinstance : PySem.W.nsIn K mainGlobals "isinstance" = some none)
    (bz_str : PySem.W.nsIn K mainGlobals "str" = some none)
    (bz_bool : PySem.W.nsIn K mainGlobals "bool" = some none)
    (bz_all : PySem.W.nsIn K mainGlobals "all" = some none)
    (bz_tuple : PySem.W.nsIn K mainGlobals "tuple" = some none)
    (bz_list : PySem.W.nsIn K mainGlobals "list" = some none)
    (bz_sorted : PySem.W.nsIn K mainGlobals "sorted" = some none)
    (bz_repr : PySem.W.nsIn K mainGlobals "repr" = some none)
    (bz_dict : PySem.W.nsIn K mainGlobals "dict" = some none)
    (bm_KINDS : PySem.W.nsIn K mainGlobals "KINDS" = some (some (.ref kd))) (lm_KINDS : K.lookup kd = some ⟨.type "tuple", ddk, .seq #[.str "hours" tk1, .str "bits" tk2] nk, slk⟩)
    (bm_FIGURES : PySem.W.nsIn K mainGlobals "FIGURES" = some (some (.str "0123456789" tkm_FIGURES)))
    (bm_LETTERS : PySem.W.nsIn K mainGlobals "LETTERS" = some (some (.str "abcdefghijklmnopqrstuvwxyz" tkm_LETTERS)))
    : ∃ fd : FuncData, (∀ (s : Shared) (v : Value), BindsTo s fd ⟨[v], []⟩ [("_law_script", v)]) ∧ ∀ base : Heap, K.In base → base.Ns mainGlobals mg → Fq l.prog w K mg base CX0 11 fa fd ["_law_script"] (spLaw K) := by
  have e := hfa.symm.trans (PySem.W.mg_of X G a47)
  cases e
  have z_int := PySem.W.mg_none_of X G bz_int
  have z_range := PySem.W.mg_none_of X G bz_range
  have z_len := PySem.W.mg_none_of X G bz_len
  have z_sum := PySem.W.mg_none_of X G bz_sum
  have z_max := PySem.W.mg_none_of X G bz_max
  have z_isinstance := PySem.W.mg_none_of X G bz_isinstance
  have z_str := PySem.W.mg_none_of X G bz_str
  have z_bool := PySem.W.mg_none_of X G bz_bool
  have z_all := PySem.W.mg_none_of X G bz_all
  have z_tuple := PySem.W.mg_none_of X G bz_tuple
  have z_list := PySem.W.mg_none_of X G bz_list
  have z_sorted := PySem.W.mg_none_of X G bz_sorted
  have z_repr := PySem.W.mg_none_of X G bz_repr
  have z_dict := PySem.W.mg_none_of X G bz_dict
  have m_KINDS := PySem.W.mg_of X G bm_KINDS
  have m_FIGURES := PySem.W.mg_of X G bm_FIGURES
  have m_LETTERS := PySem.W.mg_of X G bm_LETTERS
  have hK : ∀ H, SqT K H kd [.str "hours", .str "bits"] := fun H => kin_tup lm_KINDS (.cons ⟨_, rfl⟩ (.cons ⟨_, rfl⟩ .nil)) (by show 2 ≤ 100000; decide)
  have D_law_hash : Def K mg "_law_hash" s_law_hash P_law_hash := def_mk X G a1 l1 c1 k1 fun _ _ _ _ _ _ us hl => match us, hl with | [_, _], _ => rfl
  have D_law_random : Def K mg "_law_random" s_law_random P_law_random := def_mk X G a2 l2 c2 k2 fun _ _ _ _ _ _ us hl => match us, hl with | [_, _], _ => rfl
  have D_law_cell : Def K mg "_law_cell" s_law_cell P_law_cell := def_mk X G a3 l3 c3 k3 fun _ _ _ _ _ _ us hl => match us, hl with | [_, _], _ => rfl
  have D_law_generator : Def K mg "_law_generator" s_law_generator P_law_generator := def_mk X G a4 l4 c4 k4 fun _ _ _ _ _ _ us hl => match us, hl with | [_, _], _ => rfl
  have D_is_kind : Def K mg "is_kind" s_is_kind P_is_kind := def_mk X G a5 l5 c5 k5 fun _ _ _ _ _ _ us hl => match us, hl with | [_], _ => rfl
  have D_is_whole : Def K mg "is_whole" s_is_whole P_is_whole := def_mk X G a6 l6 c6 k6 fun _ _ _ _ _ _ us hl => match us, hl with | [_], _ => rfl
  have D_is_count : Def K mg "is_count" s_is_count P_is_count := def_mk X G a7 l7 c7 k7 fun _ _ _ _ _ _ us hl => match us, hl with | [_], _ => rfl
  have D_is_number : Def K mg "is_number" s_is_number P_is_number := def_mk X G a8 l8 c8 k8 fun _ _ _ _ _ _ us hl => match us, hl with | [_, _], _ => rfl
  have D_check_kind : Def K mg "check_kind" s_check_kind P_check_kind := def_mk X G a9 l9 c9 k9 fun _ _ _ _ _ _ us hl => match us, hl with | [_], _ => rfl
  have D_is_ascending : Def K mg "is_ascending" s_is_ascending P_is_ascending := def_mk X G a10 l10 c10 k10 fun _ _ _ _ _ _ us hl => match us, hl with | [_], _ => rfl
  have D_is_name : Def K mg "is_name" s_is_name P_is_name := def_mk X G a11 l11 c11 k11 fun _ _ _ _ _ _ us hl => match us, hl with | [_], _ => rfl
  have D_may_tell : Def K mg "may_tell" s_may_tell P_may_tell := def_mk X G a12 l12 c12 k12 fun _ _ _ _ _ _ us hl => match us, hl with | [_, _, _], _ => rfl
  have D_line_fits : Def K mg "line_fits" s_line_fits P_line_fits := def_mk X G a13 l13 c13 k13 fun _ _ _ _ _ _ us hl => match us, hl with | [_, _], _ => rfl
  have D_lines_fit : Def K mg "lines_fit" s_lines_fit P_lines_fit := def_mk X G a14 l14 c14 k14 fun _ _ _ _ _ _ us hl => match us, hl with | [_, _], _ => rfl
  have D_names_fit : Def K mg "names_fit" s_names_fit P_names_fit := def_mk X G a15 l15 c15 k15 fun _ _ _ _ _ _ us hl => match us, hl with | [_], _ => rfl
  have D_number_told : Def K mg "number_told" s_number_told P_number_told := def_mk X G a16 l16 c16 k16 fun _ _ _ _ _ _ us hl => match us, hl with | [_, _], _ => rfl
  have D_numbers_fit : Def K mg "numbers_fit" s_numbers_fit P_numbers_fit := def_mk X G a17 l17 c17 k17 fun _ _ _ _ _ _ us hl => match us, hl with | [_, _], _ => rfl
  have D_numbers_of : Def K mg "numbers_of" s_numbers_of P_numbers_of := def_mk X G a18 l18 c18 k18 fun _ _ _ _ _ _ us hl => match us, hl with | [_, _, _], _ => rfl
  have D_is_line : Def K mg "is_line" s_is_line P_is_line := def_mk X G a19 l19 c19 k19 fun _ _ _ _ _ _ us hl => match us, hl with | [_, _], _ => rfl
  have D_are_lines : Def K mg "are_lines" s_are_lines P_are_lines := def_mk X G a20 l20 c20 k20 fun _ _ _ _ _ _ us hl => match us, hl with | [_, _], _ => rfl
  have D_is_book : Def K mg "is_book" s_is_book P_is_book := def_mk X G a21 l21 c21 k21 fun _ _ _ _ _ _ us hl => match us, hl with | [_], _ => rfl
  have D_check_names : Def K mg "check_names" s_check_names P_check_names := def_mk X G a22 l22 c22 k22 fun _ _ _ _ _ _ us hl => match us, hl with | [_], _ => rfl
  have D_are_numbers : Def K mg "are_numbers" s_are_numbers P_are_numbers := def_mk X G a23 l23 c23 k23 fun _ _ _ _ _ _ us hl => match us, hl with | [_, _, _], _ => rfl
  have D_check_book : Def K mg "check_book" s_check_book P_check_book := def_mk X G a24 l24 c24 k24 fun _ _ _ _ _ _ us hl => match us, hl with | [_], _ => rfl
  have D_names_in : Def K mg "names_in" s_names_in P_names_in := def_mk X G a25 l25 c25 k25 fun _ _ _ _ _ _ us hl => match us, hl with | [_], _ => rfl
  have D_unknowns : Def K mg "unknowns" s_unknowns P_unknowns := def_mk X G a26 l26 c26 k26 fun _ _ _ _ _ _ us hl => match us, hl with | [_], _ => rfl
  have D_law_is_whole : Def K mg "_law_is_whole" s_law_is_whole P_law_is_whole := def_mk X G a27 l27 c27 k27 fun _ _ _ _ _ _ us hl => match us, hl with | [_], _ => rfl
  have D_law_two : Def K mg "_law_two" s_law_two P_law_two := def_mk X G a28 l28 c28 k28 fun _ _ _ _ _ _ us hl => match us, hl with | [_], _ => rfl
  have D_law_bits : Def K mg "_law_bits" s_law_bits P_law_bits := def_mk X G a29 l29 c29 k29 fun _ _ _ _ _ _ us hl => match us, hl with | [_], _ => rfl
  have D_law_rest : Def K mg "_law_rest" s_law_rest P_law_rest := def_mk X G a30 l30 c30 k30 fun _ _ _ _ _ _ us hl => match us, hl with | [_, _, _], _ => rfl
  have D_law_by : Def K mg "_law_by" s_law_by P_law_by := def_mk X G a31 l31 c31 k31 fun _ _ _ _ _ _ us hl => match us, hl with | [_, _], _ => rfl
  have D_law_number : Def K mg "_law_number" s_law_number P_law_number := def_mk X G a32 l32 c32 k32 fun _ _ _ _ _ _ us hl => match us, hl with | [_, _], _ => rfl
  have D_law_line : Def K mg "_law_line" s_law_line P_law_line := def_mk X G a33 l33 c33 k33 fun _ _ _ _ _ _ us hl => match us, hl with | [_, _, _], _ => rfl
  have D_law_lines : Def K mg "_law_lines" s_law_lines P_law_lines := def_mk X G a34 l34 c34 k34 fun _ _ _ _ _ _ us hl => match us, hl with | [_, _, _, _], _ => rfl
  have D_law_names_in : Def K mg "_law_names_in" s_law_names_in P_law_names_in := def_mk X G a35 l35 c35 k35 fun _ _ _ _ _ _ us hl => match us, hl with | [_], _ => rfl
  have D_law_is_name : Def K mg "_law_is_name" s_law_is_name P_law_is_name := def_mk X G a36 l36 c36 k36 fun _ _ _ _ _ _ us hl => match us, hl with | [_], _ => rfl
  have D_law_is_number : Def K mg "_law_is_number" s_law_is_number P_law_is_number := def_mk X G a37 l37 c37 k37 fun _ _ _ _ _ _ us hl => match us, hl with | [_, _], _ => rfl
  have D_law_is_line : Def K mg "_law_is_line" s_law_is_line P_law_is_line := def_mk X G a38 l38 c38 k38 fun _ _ _ _ _ _ us hl => match us, hl with | [_, _], _ => rfl
  have D_law_are_lines : Def K mg "_law_are_lines" s_law_are_lines P_law_are_lines := def_mk X G a39 l39 c39 k39 fun _ _ _ _ _ _ us hl => match us, hl with | [_, _], _ => rfl
  have D_law_is_book : Def K mg "_law_is_book" s_law_is_book P_law_is_book := def_mk X G a40 l40 c40 k40 fun _ _ _ _ _ _ us hl => match us, hl with | [_], _ => rfl
  have D_law_are_numbers : Def K mg "_law_are_numbers" s_law_are_numbers P_law_are_numbers := def_mk X G a41 l41 c41 k41 fun _ _ _ _ _ _ us hl => match us, hl with | [_, _, _], _ => rfl
  have D_law_word : Def K mg "_law_word" s_law_word P_law_word := def_mk X G a42 l42 c42 k42 fun _ _ _ _ _ _ us hl => match us, hl with | [_], _ => rfl
  have D_law_odd : Def K mg "_law_odd" s_law_odd P_law_odd := def_mk X G a43 l43 c43 k43 fun _ _ _ _ _ _ us hl => match us, hl with | [_, _], _ => rfl
  have D_law_value_right : Def K mg "_law_value_right" s_law_value_right P_law_value_right := def_mk X G a44 l44 c44 k44 fun _ _ _ _ _ _ us hl => match us, hl with | [_], _ => rfl
  have D_law_book_right : Def K mg "_law_book_right" s_law_book_right P_law_book_right := def_mk X G a45 l45 c45 k45 fun _ _ _ _ _ _ us hl => match us, hl with | [_], _ => rfl
  have D_law_right : Def K mg "_law_right" s_law_right P_law_right := def_mk X G a46 l46 c46 k46 fun _ _ _ _ _ _ us hl => match us, hl with | [_], _ => rfl
  have kw_are_lines_0_value_kind : Kw K mg "are_lines" P_are_lines 0 ["value", "kind"] [1, 0] := kw_mk (st := s_are_lines) X G a20 l20 rfl fun s us ws hu hw => match us, ws, hu, hw with | [], [_, _], _, _ => .of_eq rfl
  have kw_are_numbers_0_value_names_kind : Kw K mg "are_numbers" P_are_numbers 0 ["value", "names", "kind"] [2, 1, 0] := kw_mk (st := s_are_numbers) X G a23 l23 rfl fun s us ws hu hw => match us, ws, hu, hw with | [], [_, _, _], _, _ => .of_eq rfl
  have kw_is_book_0_value : Kw K mg "is_book" P_is_book 0 ["value"] [0] := kw_mk (st := s_is_book) X G a21 l21 rfl fun s us ws hu hw => match us, ws, hu, hw with | [], [_], _, _ => .of_eq rfl
  have kw_is_line_0_value_kind : Kw K mg "is_line" P_is_line 0 ["value", "kind"] [1, 0] := kw_mk (st := s_is_line) X G a19 l19 rfl fun s us ws hu hw => match us, ws, hu, hw with | [], [_, _], _, _ => .of_eq rfl
  have kw_is_name_0_value : Kw K mg "is_name" P_is_name 0 ["value"] [0] := kw_mk (st := s_is_name) X G a11 l11 rfl fun s us ws hu hw => match us, ws, hu, hw with | [], [_], _, _ => .of_eq rfl
  have kw_unknowns_0_book : Kw K mg "unknowns" P_unknowns 0 ["book"] [0] := kw_mk (st := s_unknowns) X G a26 l26 rfl fun s us ws hu hw => match us, ws, hu, hw with | [], [_], _, _ => .of_eq rfl
  have FL := fun_mk (st := s_law) l47 c47 k47
  refine ⟨PySem.W.fnOf "law" "law" (defArgs s_law) (defBody s_law) (defScope s_law) .none kV47 dc47 pm47 an47 cd47 ct47, fun s v => .of_eq rfl, fun base _ _ => ?_⟩
  have h_law_hash : Has l.prog w K mg base _ "_law_hash" P_law_hash _ := d_law_hash D_law_hash (z_int := z_int)
  have h_law_random : Has l.prog w K mg base 2 "_law_random" P_law_random (spM K f_law_random 2) := Has.ofDraw (d_law_random D_law_random (h_law_hash := h_law_hash) (z_int := z_int) (z_range := z_range)) rfl
  have h_law_cell : Has l.prog w K mg base _ "_law_cell" P_law_cell _ := d_law_cell D_law_cell (z_len := z_len) (z_sum := z_sum)
  have h_law_generator : Has l.prog w K mg base _ "_law_generator" P_law_generator _ := d_law_generator D_law_generator (h_law_cell := h_law_cell) (z_int := z_int) (z_max := z_max)
  have h_is_kind : Has l.prog w K mg base _ "is_kind" P_is_kind _ := d_is_kind D_is_kind (z_isinstance := z_isinstance) (z_str := z_str) (m_KINDS := m_KINDS) (hc_KINDS := hK)
  have h_is_whole : Has l.prog w K mg base _ "is_whole" P_is_whole _ := d_is_whole D_is_whole (z_bool := z_bool) (z_int := z_int) (z_isinstance := z_isinstance)
  have h_is_count : Has l.prog w K mg base _ "is_count" P_is_count _ := d_is_count D_is_count (h_is_whole := h_is_whole)
  have h_is_number : Has l.prog w K mg base _ "is_number" P_is_number _ := d_is_number D_is_number (h_is_whole := h_is_whole)
  have h_check_kind : Has l.prog w K mg base _ "check_kind" P_check_kind _ := d_check_kind D_check_kind (h_is_kind := h_is_kind)
  have h_is_ascending : Has l.prog w K mg base _ "is_ascending" P_is_ascending _ := d_is_ascending D_is_ascending (z_all := z_all) (z_len := z_len) (z_range := z_range)
  have h_is_name : Has l.prog w K mg base _ "is_name" P_is_name _ := d_is_name D_is_name (z_all := z_all) (z_isinstance := z_isinstance) (z_len := z_len) (z_str := z_str) (m_FIGURES := m_FIGURES) (m_LETTERS := m_LETTERS)
  have h_may_tell : Has l.prog w K mg base _ "may_tell" P_may_tell _ := d_may_tell D_may_tell (h_is_number := h_is_number) (h_is_count := h_is_count)
  have h_line_fits : Has l.prog w K mg base _ "line_fits" P_line_fits _ := d_line_fits D_line_fits (z_isinstance := z_isinstance) (z_len := z_len) (z_tuple := z_tuple) (h_may_tell := h_may_tell) (h_is_name := h_is_name)
  have h_lines_fit : Has l.prog w K mg base _ "lines_fit" P_lines_fit _ := d_lines_fit D_lines_fit (z_all := z_all) (z_isinstance := z_isinstance) (z_list := z_list) (h_line_fits := h_line_fits)
  have h_names_fit : Has l.prog w K mg base _ "names_fit" P_names_fit _ := d_names_fit D_names_fit (z_all := z_all) (z_isinstance := z_isinstance) (z_list := z_list) (h_is_ascending := h_is_ascending) (h_is_name := h_is_name)
  have h_number_told : Has l.prog w K mg base _ "number_told" P_number_told _ := d_number_told D_number_told (z_isinstance := z_isinstance) (z_len := z_len) (z_tuple := z_tuple) (h_is_number := h_is_number) (h_is_name := h_is_name)
  have h_numbers_fit : Has l.prog w K mg base _ "numbers_fit" P_numbers_fit _ := d_numbers_fit D_numbers_fit (z_all := z_all) (z_isinstance := z_isinstance) (z_list := z_list) (h_number_told := h_number_told) (h_is_ascending := h_is_ascending)
  have h_numbers_of : Has l.prog w K mg base _ "numbers_of" P_numbers_of _ := d_numbers_of D_numbers_of (h_numbers_fit := h_numbers_fit)
  have h_is_line : Has l.prog w K mg base _ "is_line" P_is_line _ := d_is_line D_is_line (h_check_kind := h_check_kind) (h_line_fits := h_line_fits)
  have h_are_lines : Has l.prog w K mg base _ "are_lines" P_are_lines _ := d_are_lines D_are_lines (h_check_kind := h_check_kind) (h_lines_fit := h_lines_fit)
  have h_is_book : Has l.prog w K mg base _ "is_book" P_is_book _ := d_is_book D_is_book (z_isinstance := z_isinstance) (z_len := z_len) (z_tuple := z_tuple) (h_lines_fit := h_lines_fit) (h_is_kind := h_is_kind)
  have h_check_names : Has l.prog w K mg base _ "check_names" P_check_names _ := d_check_names D_check_names (h_names_fit := h_names_fit)
  have h_are_numbers : Has l.prog w K mg base _ "are_numbers" P_are_numbers _ := d_are_numbers D_are_numbers (h_check_kind := h_check_kind) (h_check_names := h_check_names) (h_numbers_of := h_numbers_of)
  have h_check_book : Has l.prog w K mg base _ "check_book" P_check_book _ := d_check_book D_check_book (h_is_book := h_is_book)
  have h_names_in : Has l.prog w K mg base _ "names_in" P_names_in _ := d_names_in D_names_in (z_sorted := z_sorted)
  have h_unknowns : Has l.prog w K mg base _ "unknowns" P_unknowns _ := d_unknowns D_unknowns (h_check_book := h_check_book) (h_names_in := h_names_in)
  have h_law_is_whole : Has l.prog w K mg base _ "_law_is_whole" P_law_is_whole _ := d_law_is_whole D_law_is_whole (z_bool := z_bool) (z_int := z_int) (z_isinstance := z_isinstance)
  have h_law_two : Has l.prog w K mg base _ "_law_two" P_law_two _ := d_law_two D_law_two (z_int := z_int)
  have h_law_bits : Has l.prog w K mg base _ "_law_bits" P_law_bits _ := d_law_bits D_law_bits (h_law_two := h_law_two)
  have h_law_rest : Has l.prog w K mg base _ "_law_rest" P_law_rest _ := d_law_rest D_law_rest (z_int := z_int) (h_law_bits := h_law_bits) (h_law_two := h_law_two)
  have h_law_by : Has l.prog w K mg base _ "_law_by" P_law_by _ := d_law_by D_law_by (h_law_random := h_law_random)
  have h_law_number : Has l.prog w K mg base _ "_law_number" P_law_number _ := d_law_number D_law_number (h_law_random := h_law_random)
  have h_law_line : Has l.prog w K mg base _ "_law_line" P_law_line _ := d_law_line D_law_line (z_int := z_int) (z_len := z_len) (h_law_random := h_law_random) (h_law_by := h_law_by) (h_law_rest := h_law_rest) (h_law_number := h_law_number)
  have h_law_lines : Has l.prog w K mg base _ "_law_lines" P_law_lines _ := d_law_lines D_law_lines (z_range := z_range) (h_law_random := h_law_random) (h_law_line := h_law_line)
  have h_law_names_in : Has l.prog w K mg base _ "_law_names_in" P_law_names_in _ := d_law_names_in D_law_names_in (z_sorted := z_sorted)
  have h_law_is_name : Has l.prog w K mg base _ "_law_is_name" P_law_is_name _ := d_law_is_name D_law_is_name (z_isinstance := z_isinstance) (z_len := z_len) (z_str := z_str)
  have h_law_is_number : Has l.prog w K mg base _ "_law_is_number" P_law_is_number _ := d_law_is_number D_law_is_number (h_law_is_whole := h_law_is_whole)
  have h_law_is_line : Has l.prog w K mg base _ "_law_is_line" P_law_is_line _ := d_law_is_line D_law_is_line (z_isinstance := z_isinstance) (z_len := z_len) (z_tuple := z_tuple) (h_law_is_name := h_law_is_name) (h_law_is_whole := h_law_is_whole) (h_law_is_number := h_law_is_number) (h_law_bits := h_law_bits)
  have h_law_are_lines : Has l.prog w K mg base _ "_law_are_lines" P_law_are_lines _ := d_law_are_lines D_law_are_lines (z_isinstance := z_isinstance) (z_list := z_list) (h_law_is_line := h_law_is_line)
  have h_law_is_book : Has l.prog w K mg base _ "_law_is_book" P_law_is_book _ := d_law_is_book D_law_is_book (z_isinstance := z_isinstance) (z_len := z_len) (z_str := z_str) (z_tuple := z_tuple) (h_law_are_lines := h_law_are_lines)
  have h_law_are_numbers : Has l.prog w K mg base _ "_law_are_numbers" P_law_are_numbers _ := d_law_are_numbers D_law_are_numbers (z_isinstance := z_isinstance) (z_len := z_len) (z_list := z_list) (z_tuple := z_tuple) (h_law_is_number := h_law_is_number) (h_law_is_name := h_law_is_name)
  have h_law_word : Has l.prog w K mg base _ "_law_word" P_law_word _ := d_law_word D_law_word (z_range := z_range) (h_law_random := h_law_random)
  have h_law_odd : Has l.prog w K mg base _ "_law_odd" P_law_odd _ := d_law_odd D_law_odd (z_list := z_list) (z_range := z_range) (z_tuple := z_tuple)
  have h_law_value_right : Has l.prog w K mg base _ "_law_value_right" P_law_value_right _ := d_law_value_right D_law_value_right (z_repr := z_repr) (kw_are_lines_0_value_kind := kw_are_lines_0_value_kind) (kw_are_numbers_0_value_names_kind := kw_are_numbers_0_value_names_kind) (kw_is_book_0_value := kw_is_book_0_value) (kw_is_line_0_value_kind := kw_is_line_0_value_kind) (kw_is_name_0_value := kw_is_name_0_value) (h_law_are_numbers := h_law_are_numbers) (h_law_are_lines := h_law_are_lines) (h_law_is_line := h_law_is_line) (h_are_numbers := h_are_numbers) (h_are_lines := h_are_lines) (h_is_line := h_is_line) (h_law_is_book := h_law_is_book) (h_law_is_name := h_law_is_name) (h_is_book := h_is_book) (h_is_name := h_is_name)
  have h_law_book_right : Has l.prog w K mg base _ "_law_book_right" P_law_book_right _ := d_law_book_right D_law_book_right (z_int := z_int) (z_len := z_len) (z_list := z_list) (z_repr := z_repr) (z_tuple := z_tuple) (kw_unknowns_0_book := kw_unknowns_0_book) (h_law_random := h_law_random) (h_law_lines := h_law_lines) (h_law_names_in := h_law_names_in) (h_unknowns := h_unknowns) (h_law_odd := h_law_odd) (h_law_line := h_law_line) (h_law_value_right := h_law_value_right)
  have h_law_right : Has l.prog w K mg base _ "_law_right" P_law_right _ := d_law_right D_law_right (z_dict := z_dict) (z_range := z_range) (z_tuple := z_tuple) (h_law_value_right := h_law_value_right) (h_law_word := h_law_word) (h_law_line := h_law_line) (h_law_random := h_law_random) (h_law_odd := h_law_odd) (h_law_book_right := h_law_book_right)
  exact d_law FL (z_range := z_range) (z_str := z_str) (h_law_generator := h_law_generator) (h_law_right := h_law_right) (h_is_line := h_is_line) (h_is_name := h_is_name) (h_is_book := h_is_book) (h_are_numbers := h_are_numbers) (h_unknowns := h_unknowns)
end Hr
open PySem PySem.W PyProof.Rows
set_option maxRecDepth 100000 in
set_option maxHeartbeats 0 in
theorem PySem.Challenge.cw_hourrings_k01_names_lines_and_books_holds : PySem.Challenge.rw_hourrings_k01_names_lines_and_books.Holds := by
  w_on; o_law; k_head; (case hw => w_witness2)
  k_fill
  refine Hr.rowq (l := PySem.Challenge.rw_hourrings_k01_names_lines_and_books) (n := 63) (k := 11) (x := "_law_script") (sp := Hr.spLaw) rfl (by decide) rfl ⟨⟨rfl, by decide, by decide⟩, rfl⟩ (fun w h Y => PySem.W.kIn_of Y) ?F (fun K H a ns hl _ hS => ⟨a, ns, rfl, hS, hl, fun _ => rfl⟩)
  case F =>
    intro w mg fa h KX G hmg
    refine' Hr.all_mk KX G hmg ?a1 ?l1 ?c1 ?k1 ?a2 ?l2 ?c2 ?k2 ?a3 ?l3 ?c3 ?k3 ?a4 ?l4 ?c4 ?k4 ?a5 ?l5 ?c5 ?k5 ?a6 ?l6 ?c6 ?k6 ?a7 ?l7 ?c7 ?k7 ?a8 ?l8 ?c8 ?k8 ?a9 ?l9 ?c9 ?k9 ?a10 ?l10 ?c10 ?k10 ?a11 ?l11 ?c11 ?k11 ?a12 ?l12 ?c12 ?k12 ?a13 ?l13 ?c13 ?k13 ?a14 ?l14 ?c14 ?k14 ?a15 ?l15 ?c15 ?k15 ?a16 ?l16 ?c16 ?k16 ?a17 ?l17 ?c17 ?k17 ?a18 ?l18 ?c18 ?k18 ?a19 ?l19 ?c19 ?k19 ?a20 ?l20 ?c20 ?k20 ?a21 ?l21 ?c21 ?k21 ?a22 ?l22 ?c22 ?k22 ?a23 ?l23 ?c23 ?k23 ?a24 ?l24 ?c24 ?k24 ?a25 ?l25 ?c25 ?k25 ?a26 ?l26 ?c26 ?k26 ?a27 ?l27 ?c27 ?k27 ?a28 ?l28 ?c28 ?k28 ?a29 ?l29 ?c29 ?k29 ?a30 ?l30 ?c30 ?k30 ?a31 ?l31 ?c31 ?k31 ?a32 ?l32 ?c32 ?k32 ?a33 ?l33 ?c33 ?k33 ?a34 ?l34 ?c34 ?k34 ?a35 ?l35 ?c35 ?k35 ?a36 ?l36 ?c36 ?k36 ?a37 ?l37 ?c37 ?k37 ?a38 ?l38 ?c38 ?k38 ?a39 ?l39 ?c39 ?k39 ?a40 ?l40 ?c40 ?k40 ?a41 ?l41 ?c41 ?k41 ?a42 ?l42 ?c42 ?k42 ?a43 ?l43 ?c43 ?k43 ?a44 ?l44 ?c44 ?k44 ?a45 ?l45 ?c45 ?k45 ?a46 ?l46 ?c46 ?k46 ?a47 ?l47 ?c47 ?k47 ?bz_int ?bz_range ?bz_len ?bz_sum ?bz_max ?bz_isinstance ?bz_str ?bz_bool ?bz_all ?bz_tuple ?bz_list ?bz_sorted ?bz_repr ?bz_dict ?bm_KINDS ?lm_KINDS ?bm_FIGURES ?bm_LETTERS
    (case a1 => k_is)
    (case l1 => k_is)
    (case c1 => k_is)
    (case k1 => k_is)
    (case a2 => k_is)
    (case l2 => k_is)
    (case c2 => k_is)
    (case k2 => k_is)
    (case a3 => k_is)
    (case l3 => k_is)
    (case c3 => k_is)
    (case k3 => k_is)
    (case a4 => k_is)
    (case l4 => k_is)
    (case c4 => k_is)
    (case k4 => k_is)
    (case a5 => k_is)
    (case l5 => k_is)
    (case c5 => k_is)
    (case k5 => k_is)
    (case a6 => k_is)
    (case l6 => k_is)
    (case c6 => k_is)
    (case k6 => k_is)
    (case a7 => k_is)
    (case l7 => k_is)
    (case c7 => k_is)
    (case k7 => k_is)
    (case a8 => k_is)
    (case l8 => k_is)
    (case c8 => k_is)
    (case k8 => k_is)
    (case a9 => k_is)
    (case l9 => k_is)
    (case c9 => k_is)
    (case k9 => k_is)
    (case a10 => k_is)
    (case l10 => k_is)
    (case c10 => k_is)
    (case k10 => k_is)
    (case a11 => k_is)
    (case l11 => k_is)
    (case c11 => k_is)
    (case k11 => k_is)
    (case a12 => k_is)
    (case l12 => k_is)
    (case c12 => k_is)
    (case k12 => k_is)
    (case a13 => k_is)
    (case l13 => k_is)
    (case c13 => k_is)
    (case k13 => k_is)
    (case a14 => k_is)
    (case l14 => k_is)
    (case c14 => k_is)
    (case k14 => k_is)
    (case a15 => k_is)
    (case l15 => k_is)
    (case c15 => k_is)
    (case k15 => k_is)
    (case a16 => k_is)
    (case l16 => k_is)
    (case c16 => k_is)
    (case k16 => k_is)
    (case a17 => k_is)
    (case l17 => k_is)
    (case c17 => k_is)
    (case k17 => k_is)
    (case a18 => k_is)
    (case l18 => k_is)
    (case c18 => k_is)
    (case k18 => k_is)
    (case a19 => k_is)
    (case l19 => k_is)
    (case c19 => k_is)
    (case k19 => k_is)
    (case a20 => k_is)
    (case l20 => k_is)
    (case c20 => k_is)
    (case k20 => k_is)
    (case a21 => k_is)
    (case l21 => k_is)
    (case c21 => k_is)
    (case k21 => k_is)
    (case a22 => k_is)
    (case l22 => k_is)
    (case c22 => k_is)
    (case k22 => k_is)
    (case a23 => k_is)
    (case l23 => k_is)
    (case c23 => k_is)
    (case k23 => k_is)
    (case a24 => k_is)
    (case l24 => k_is)
    (case c24 => k_is)
    (case k24 => k_is)
    (case a25 => k_is)
    (case l25 => k_is)
    (case c25 => k_is)
    (case k25 => k_is)
    (case a26 => k_is)
    (case l26 => k_is)
    (case c26 => k_is)
    (case k26 => k_is)
    (case a27 => k_is)
    (case l27 => k_is)
    (case c27 => k_is)
    (case k27 => k_is)
    (case a28 => k_is)
    (case l28 => k_is)
    (case c28 => k_is)
    (case k28 => k_is)
    (case a29 => k_is)
    (case l29 => k_is)
    (case c29 => k_is)
    (case k29 => k_is)
    (case a30 => k_is)
    (case l30 => k_is)
    (case c30 => k_is)
    (case k30 => k_is)
    (case a31 => k_is)
    (case l31 => k_is)
    (case c31 => k_is)
    (case k31 => k_is)
    (case a32 => k_is)
    (case l32 => k_is)
    (case c32 => k_is)
    (case k32 => k_is)
    (case a33 => k_is)
    (case l33 => k_is)
    (case c33 => k_is)
    (case k33 => k_is)
    (case a34 => k_is)
    (case l34 => k_is)
    (case c34 => k_is)
    (case k34 => k_is)
    (case a35 => k_is)
    (case l35 => k_is)
    (case c35 => k_is)
    (case k35 => k_is)
    (case a36 => k_is)
    (case l36 => k_is)
    (case c36 => k_is)
    (case k36 => k_is)
    (case a37 => k_is)
    (case l37 => k_is)
    (case c37 => k_is)
    (case k37 => k_is)
    (case a38 => k_is)
    (case l38 => k_is)
    (case c38 => k_is)
    (case k38 => k_is)
    (case a39 => k_is)
    (case l39 => k_is)
    (case c39 => k_is)
    (case k39 => k_is)
    (case a40 => k_is)
    (case l40 => k_is)
    (case c40 => k_is)
    (case k40 => k_is)
    (case a41 => k_is)
    (case l41 => k_is)
    (case c41 => k_is)
    (case k41 => k_is)
    (case a42 => k_is)
    (case l42 => k_is)
    (case c42 => k_is)
    (case k42 => k_is)
    (case a43 => k_is)
    (case l43 => k_is)
    (case c43 => k_is)
    (case k43 => k_is)
    (case a44 => k_is)
    (case l44 => k_is)
    (case c44 => k_is)
    (case k44 => k_is)
    (case a45 => k_is)
    (case l45 => k_is)
    (case c45 => k_is)
    (case k45 => k_is)
    (case a46 => k_is)
    (case l46 => k_is)
    (case c46 => k_is)
    (case k46 => k_is)
    (case a47 => k_is)
    (case l47 => k_is)
    (case c47 => k_is)
    (case k47 => k_is)
    (case bz_int => k_is)
    (case bz_range => k_is)
    (case bz_len => k_is)
    (case bz_sum => k_is)
    (case bz_max => k_is)
    (case bz_isinstance => k_is)
    (case bz_str => k_is)
    (case bz_bool => k_is)
    (case bz_all => k_is)
    (case bz_tuple => k_is)
    (case bz_list => k_is)
    (case bz_sorted => k_is)
    (case bz_repr => k_is)
    (case bz_dict => k_is)
    (case bm_KINDS => k_is)
    (case lm_KINDS => k_is)
    (case bm_FIGURES => k_is)
    (case bm_LETTERS => k_is)
