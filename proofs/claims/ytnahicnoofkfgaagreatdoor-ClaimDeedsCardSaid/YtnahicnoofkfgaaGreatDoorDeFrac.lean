/-
  Fractions over whole numbers: greatest common divisors, lowest terms, sums, products, orders.
-/
import Derived.Test.YtnahicnoofkfgaaGreatDoorDeEvK
import Derived.IntWalk
set_option linter.unusedSimpArgs false
set_option linter.unusedVariables false
namespace Go.Proofs.YtnahicnoofkfgaaGreatDoor.Zs
set_option linter.unusedSimpArgs false
set_option linter.unusedVariables false

def withinB (n low high : Int) : Bool := decide (low ≤ n) && decide (n ≤ high)
def gcdI (a b : Int) : Int := (Int.gcd a b : Nat)
def lastE : Nat → Int → Int → Int
  | 0, a, _ => a
  | n + 1, a, b => if b = 0 then a else lastE n b (a.tmod b)
/-- Where Euclid's loop ends. -/
def lastI (a b : Int) : Int := lastE (b.natAbs + 1) a b
def wideB (a : Int) : Bool := decide (-4000000000000000000 ≤ a) && decide (a ≤ 4000000000000000000)
def wordB (a : Int) : Bool := decide (-9223372036854775808 ≤ a) && decide (a < 9223372036854775808)
def validB (n d : Int) : Bool := withinB d 1 1000000 && (withinB n (-1000000000000) 1000000000000 && gcdI n d == 1)
def lowN (n d : Int) : Int := n.tdiv (gcdI n d)
def lowD (n d : Int) : Int := d.tdiv (gcdI n d)
def lowB (n d : Int) : Bool := validB (lowN n d) (lowD n d)
def canB (n d : Int) : Bool := wideB n && (wideB d && decide (0 < d))
def lowR (n d : Int) : Int × Int × Int := if lowB n d = true then (lowN n d, lowD n d, 0) else (0, 0, 2)
def numB (n d : Int) : Bool := !(d == 0) && (withinB n (-1000000000000000) 1000000000000000 && withinB d (-1000000000000000) 1000000000000000)
def normR (n d : Int) : Int × Int × Int := if numB n d = true then (if d < 0 then lowR (-n) (-d) else lowR n d) else (0, 0, 1)
def addR (a b c d : Int) : Int × Int × Int := if validB a b = true ∧ validB c d = true then lowR (a * d + c * b) (b * d) else (0, 0, 1)
def subR (a b c d : Int) : Int × Int × Int := addR a b (-c) d
def bigB (x y : Int) : Bool := !(x == 0) && (!(y == 0) && decide ((1000000000000 : Int) < x.natAbs * y.natAbs))
def mulR (a b c d : Int) : Int × Int × Int := if validB a b = true ∧ validB c d = true then
    (if bigB (lowN a d) (lowN c b) = true then (0, 0, 2) else lowR (lowN a d * lowN c b) (lowD c b * lowD a d)) else (0, 0, 1)
def cmpR (a b c d : Int) : Int := if validB a b = true ∧ validB c d = true then (if a * d < c * b then -1 else if c * b < a * d then 1 else 0) else 0
def floorI (n d : Int) : Int := if n < n.tdiv d * d then n.tdiv d - 1 else n.tdiv d
def floorR (n d : Int) : Int := if validB n d = true then floorI n d else 0
def ceilR (n d : Int) : Int := if validB n d = true then -floorI (-n) d else 0

theorem wide_iff (a : Int) : wideB a = true ↔ -4000000000000000000 ≤ a ∧ a ≤ 4000000000000000000 := by simp [wideB]
theorem word_iff (a : Int) : wordB a = true ↔ -9223372036854775808 ≤ a ∧ a < 9223372036854775808 := by simp [wordB]
theorem gcdI_nonneg (a b : Int) : 0 ≤ gcdI a b := Int.natCast_nonneg _
theorem gcd_tmod (a b : Int) : gcdI b (a.tmod b) = gcdI a b := by
  unfold gcdI
  congr 1
  rw [Int.gcd_comm a b]
  simp only [Int.gcd, Int.natAbs_tmod]
  rw [Nat.gcd_comm b.natAbs (a.natAbs % b.natAbs), ← Nat.gcd_rec]
theorem tmod_lt (a b : Int) (h : b ≠ 0) : (a.tmod b).natAbs < b.natAbs := by
  rw [Int.natAbs_tmod]
  exact Nat.mod_lt _ (by omega)
theorem lastE_more : ∀ (n : Nat) (a b : Int), b.natAbs < n → lastE n a b = lastE (b.natAbs + 1) a b
  | 0, a, b, h => by omega
  | n + 1, a, b, h => by
    by_cases hb : b = 0
    · simp [lastE, hb]
    · have h1 := tmod_lt a b hb
      simp only [lastE, hb, if_false]
      rw [lastE_more n b (a.tmod b) (by omega)]
      cases hk : b.natAbs with
      | zero => omega
      | succ k => rw [lastE_more (k + 1) b (a.tmod b) (by omega)]
termination_by n => n
theorem lastI_zero (a : Int) : lastI a 0 = a := by simp [lastI, lastE]
theorem lastI_step (a b : Int) (h : b ≠ 0) : lastI a b = lastI b (a.tmod b) := by
  have h1 := tmod_lt a b h
  conv => lhs; unfold lastI
  simp only [lastE, h, if_false]
  exact lastE_more _ _ _ h1
theorem lastI_gcd : ∀ (n : Nat) (a b : Int), b.natAbs < n → ((lastI a b).natAbs : Int) = gcdI a b
  | 0, a, b, h => by omega
  | n + 1, a, b, h => by
    by_cases hb : b = 0
    · subst hb
      simp [lastI_zero, gcdI]
    · have h1 := tmod_lt a b hb
      rw [lastI_step a b hb, lastI_gcd n b (a.tmod b) (by omega), gcd_tmod]
theorem last_gcd (a b : Int) : ((lastI a b).natAbs : Int) = gcdI a b := lastI_gcd _ a b (Nat.lt_succ_self _)
theorem wide_tmod {a b : Int} (hb : wideB b = true) (h : b ≠ 0) : wideB (a.tmod b) = true := by
  have := tmod_lt a b h
  rw [wide_iff] at *
  omega
theorem last_wide {a b : Int} (ha : wideB a = true) (hb : wideB b = true) : wideB (lastI a b) = true := by
  have key : ∀ (n : Nat) (a b : Int), b.natAbs < n → wideB a = true → wideB b = true → wideB (lastI a b) = true := by
    intro n
    induction n with
    | zero => intro a b h; omega
    | succ n ih =>
      intro a b h ha hb
      by_cases h0 : b = 0
      · subst h0; rw [lastI_zero]; exact ha
      · have := tmod_lt a b h0
        rw [lastI_step a b h0]
        exact ih b (a.tmod b) (by omega) hb (wide_tmod hb h0)
  exact key _ a b (Nat.lt_succ_self _) ha hb
theorem gcd_le {a b : Int} (h : b ≠ 0) : gcdI a b ≤ b.natAbs := by
  have h1 : Int.gcd a b ∣ b.natAbs := Nat.gcd_dvd_right _ _
  have := Nat.le_of_dvd (by omega) h1
  unfold gcdI; omega

theorem low_spec (n d : Int) (hd : 0 < d) : 0 < gcdI n d ∧ lowN n d * gcdI n d = n ∧ lowD n d * gcdI n d = d ∧ 0 < lowD n d ∧ gcdI (lowN n d) (lowD n d) = 1 := by
  have hg : 0 < Int.gcd n d := Nat.gcd_pos_of_pos_right _ (by omega)
  have h0 : 0 < gcdI n d := by unfold gcdI; omega
  have h1 : lowN n d * gcdI n d = n := Int.tdiv_mul_cancel (Int.gcd_dvd_left n d)
  have h2 : lowD n d * gcdI n d = d := Int.tdiv_mul_cancel (Int.gcd_dvd_right n d)
  have h3 : 0 < lowD n d := by
    rcases Int.lt_trichotomy (lowD n d) 0 with h | h | h
    · have := Int.mul_neg_of_neg_of_pos h h0; omega
    · rw [h] at h2; omega
    · exact h
  refine ⟨h0, h1, h2, h3, ?_⟩
  have hm : Int.gcd (lowN n d * gcdI n d) (lowD n d * gcdI n d) = Int.gcd n d := by rw [h1, h2]
  have hz : (gcdI n d).natAbs = Int.gcd n d := by simp [gcdI]
  rw [Int.gcd, Int.natAbs_mul, Int.natAbs_mul, Nat.gcd_mul_right, hz] at hm
  have : ((lowN n d).natAbs.gcd (lowD n d).natAbs) = 1 := Nat.eq_of_mul_eq_mul_right hg (by omega)
  unfold gcdI
  rw [Int.gcd, this]; rfl
theorem low_cross (n d : Int) (hd : 0 < d) : lowN n d * d = n * lowD n d := by
  obtain ⟨h0, h1, h2, h3, h4⟩ := low_spec n d hd
  calc lowN n d * d = lowN n d * (lowD n d * gcdI n d) := by rw [h2]
    _ = lowN n d * gcdI n d * lowD n d := by ac_rfl
    _ = n * lowD n d := by rw [h1]
theorem dvd_abs {a b : Int} (h : a ∣ b) : a.natAbs ∣ b.natAbs := Int.natAbs_dvd_natAbs.2 h
theorem uniq {p q r s : Int} (h1 : gcdI p q = 1) (h2 : gcdI r s = 1) (hq : 0 < q) (hs : 0 < s) (h : p * s = r * q) : p = r ∧ q = s := by
  have c1 : Nat.Coprime q.natAbs p.natAbs := by
    have : Int.gcd p q = 1 := by unfold gcdI at h1; omega
    rw [Int.gcd] at this
    exact Nat.Coprime.symm this
  have c2 : Nat.Coprime s.natAbs r.natAbs := by
    have : Int.gcd r s = 1 := by unfold gcdI at h2; omega
    rw [Int.gcd] at this
    exact Nat.Coprime.symm this
  have d1 : q.natAbs ∣ p.natAbs * s.natAbs := by rw [← Int.natAbs_mul, h, Int.natAbs_mul]; exact Nat.dvd_mul_left _ _
  have d2 : s.natAbs ∣ r.natAbs * q.natAbs := by rw [← Int.natAbs_mul, ← h, Int.natAbs_mul]; exact Nat.dvd_mul_left _ _
  have e1 := c1.dvd_of_dvd_mul_left d1
  have e2 := c2.dvd_of_dvd_mul_left d2
  have e := Nat.dvd_antisymm e1 e2
  have hqs : q = s := by omega
  subst hqs
  exact ⟨Int.eq_of_mul_eq_mul_right (by omega) h, rfl⟩
theorem low_self {n d : Int} (h : gcdI n d = 1) : lowN n d = n ∧ lowD n d = d := by
  unfold lowN lowD
  rw [h]
  simp
theorem gcdI_one {a b : Int} : gcdI a b = 1 ↔ Nat.Coprime a.natAbs b.natAbs := by
  unfold gcdI
  rw [Int.gcd]
  constructor
  · intro h; exact (by omega : a.natAbs.gcd b.natAbs = 1)
  · intro h; rw [show a.natAbs.gcd b.natAbs = 1 from h]; rfl
theorem valid_spec {n d : Int} (h : validB n d = true) : 1 ≤ d ∧ d ≤ 1000000 ∧ -1000000000000 ≤ n ∧ n ≤ 1000000000000 ∧ gcdI n d = 1 := by
  simp only [validB, withinB, Bool.and_eq_true, decide_eq_true_eq, beq_iff_eq] at h
  omega
theorem valid_low {n d : Int} (hd : 0 < d) : lowB n d = (withinB (lowD n d) 1 1000000 && withinB (lowN n d) (-1000000000000) 1000000000000) := by
  obtain ⟨_, _, _, _, h⟩ := low_spec n d hd
  simp [lowB, validB, h]
theorem low_of {n d p q : Int} (hd : 0 < d) (hv : validB p q = true) (h : p * d = n * q) : lowR n d = (p, q, 0) := by
  obtain ⟨_, _, _, h3, h4⟩ := low_spec n d hd
  obtain ⟨v1, v2, v3, v4, v5⟩ := valid_spec hv
  have hc := low_cross n d hd
  have : p * lowD n d = lowN n d * q := by
    apply Int.eq_of_mul_eq_mul_right (a := d) (by omega)
    calc p * lowD n d * d = p * d * lowD n d := by rw [Int.mul_right_comm]
      _ = n * q * lowD n d := by rw [h]
      _ = n * lowD n d * q := by rw [Int.mul_right_comm]
      _ = lowN n d * d * q := by rw [hc]
      _ = lowN n d * q * d := by rw [Int.mul_right_comm]
  obtain ⟨e1, e2⟩ := uniq v5 h4 (by omega) h3 this
  unfold lowR lowB
  rw [← e1, ← e2, hv]
  rfl
theorem low_ok {n d : Int} (hd : 0 < d) (h : (lowR n d).2.2 = 0) : validB (lowR n d).1 (lowR n d).2.1 = true ∧ (lowR n d).1 * d = n * (lowR n d).2.1 := by
  unfold lowR at *
  split at h
  · rename_i hb
    rw [if_pos hb]
    exact ⟨hb, low_cross n d hd⟩
  · simp at h

/-! ## The rules -/

theorem add_comm_R (a b c d : Int) : addR a b c d = addR c d a b := by
  unfold addR
  rw [Int.add_comm, Int.mul_comm b d]
  simp only [and_comm]
theorem big_comm (x y : Int) : bigB x y = bigB y x := by
  unfold bigB
  rw [Int.mul_comm (x.natAbs : Int)]
  cases (x == 0) <;> cases (y == 0) <;> simp
theorem mul_comm_R (a b c d : Int) : mulR a b c d = mulR c d a b := by
  unfold mulR
  rw [big_comm, Int.mul_comm (lowN a d), Int.mul_comm (lowD c b)]
  simp only [and_comm]
theorem cmp_anti (a b c d : Int) : cmpR a b c d = -cmpR c d a b := by
  unfold cmpR
  by_cases h : validB a b = true ∧ validB c d = true
  · rw [if_pos h, if_pos h.symm]
    split <;> split <;> first | rfl | (exfalso; omega) | (split <;> first | rfl | omega)
  · rw [if_neg h, if_neg (fun e => h e.symm)]; rfl
theorem neg_valid {c d : Int} (h : validB c d = true) : validB (-c) d = true := by
  simp only [validB, withinB, Bool.and_eq_true, decide_eq_true_eq, beq_iff_eq, gcdI, Int.neg_gcd] at *
  omega
theorem neg_valid_iff (c d : Int) : validB (-c) d = validB c d := by
  cases h : validB c d with
  | true => exact neg_valid h
  | false =>
    cases h' : validB (-c) d with
    | false => rfl
    | true => have := neg_valid h'; rw [Int.neg_neg, h] at this; cases this
theorem add_ok {a b c d : Int} (h : (addR a b c d).2.2 = 0) : (validB a b = true ∧ validB c d = true) ∧ addR a b c d = lowR (a * d + c * b) (b * d) ∧ 0 < b * d := by
  unfold addR at *
  by_cases hv : validB a b = true ∧ validB c d = true
  · rw [if_pos hv]
    obtain ⟨h1, _⟩ := valid_spec hv.1
    obtain ⟨h2, _⟩ := valid_spec hv.2
    exact ⟨hv, rfl, Int.mul_pos (by omega) (by omega)⟩
  · rw [if_neg hv] at h; simp at h
theorem sub_add {a b c d : Int} (h : (addR a b c d).2.2 = 0) : subR (addR a b c d).1 (addR a b c d).2.1 c d = (a, b, 0) := by
  obtain ⟨⟨v1, v2⟩, e, hp⟩ := add_ok h
  rw [e] at h ⊢
  obtain ⟨w1, w2⟩ := low_ok hp h
  generalize (lowR (a * d + c * b) (b * d)).1 = x at *
  generalize (lowR (a * d + c * b) (b * d)).2.1 = y at *
  obtain ⟨b1, _⟩ := valid_spec v1
  obtain ⟨d1, _⟩ := valid_spec v2
  obtain ⟨y1, _⟩ := valid_spec w1
  unfold subR addR
  rw [if_pos ⟨w1, neg_valid v2⟩]
  refine low_of (Int.mul_pos (by omega) (by omega)) v1 ?_
  rw [Int.add_mul, Int.neg_mul, Int.neg_mul]
  have e1 : x * d * b = x * (b * d) := by rw [Int.mul_assoc, Int.mul_comm d b]
  rw [e1, w2, Int.add_mul]
  have e2 : c * b * y = c * y * b := Int.mul_right_comm _ _ _
  have e3 : a * (y * d) = a * d * y := by rw [Int.mul_comm y d, Int.mul_assoc]
  omega
theorem sign_of {X Y p q : Int} (hp : 0 < p) (hq : 0 < q) (h : X * p = Y * q) : (X < 0 ↔ Y < 0) ∧ (0 < X ↔ 0 < Y) := by
  rcases Int.lt_trichotomy X 0 with x | x | x <;> rcases Int.lt_trichotomy Y 0 with y | y | y
  all_goals first
    | (constructor <;> constructor <;> intro <;> omega)
    | (exfalso
       first
        | (have h1 := Int.mul_neg_of_neg_of_pos x hp
           first
            | (have h2 := Int.mul_pos y hq; omega)
            | (rw [y, Int.zero_mul] at h; omega))
        | (have h1 := Int.mul_pos x hp
           first
            | (have h2 := Int.mul_neg_of_neg_of_pos y hq; omega)
            | (rw [y, Int.zero_mul] at h; omega))
        | (rw [x, Int.zero_mul] at h
           first
            | (have h2 := Int.mul_neg_of_neg_of_pos y hq; omega)
            | (have h2 := Int.mul_pos y hq; omega)))
theorem cmp_add {a b c d e f : Int} (h : (addR a b e f).2.2 = 0) (h' : (addR c d e f).2.2 = 0) :
    cmpR (addR a b e f).1 (addR a b e f).2.1 (addR c d e f).1 (addR c d e f).2.1 = cmpR a b c d := by
  obtain ⟨⟨v1, v3⟩, e1, hp⟩ := add_ok h
  obtain ⟨⟨v2, _⟩, e2, hp'⟩ := add_ok h'
  rw [e1] at h ⊢
  rw [e2] at h' ⊢
  obtain ⟨w1, w2⟩ := low_ok hp h
  obtain ⟨w3, w4⟩ := low_ok hp' h'
  generalize (lowR (a * f + e * b) (b * f)).1 = s at *
  generalize (lowR (a * f + e * b) (b * f)).2.1 = u at *
  generalize (lowR (c * f + e * d) (d * f)).1 = t at *
  generalize (lowR (c * f + e * d) (d * f)).2.1 = v at *
  obtain ⟨b1, _⟩ := valid_spec v1
  obtain ⟨d1, _⟩ := valid_spec v2
  obtain ⟨f1, _⟩ := valid_spec v3
  obtain ⟨u1, _⟩ := valid_spec w1
  obtain ⟨x1, _⟩ := valid_spec w3
  have hpos1 : 0 < b * d := Int.mul_pos (by omega) (by omega)
  have hpos2 : 0 < u * v := Int.mul_pos (by omega) (by omega)
  have key : (s * v - t * u) * (b * d) = (a * d - c * b) * (u * v) := by
    apply Int.eq_of_mul_eq_mul_right (a := f) (by omega)
    have q1 : s * v * (b * d) * f = (s * (b * f)) * (v * d) := by ac_rfl
    have q2 : t * u * (b * d) * f = (t * (d * f)) * (u * b) := by ac_rfl
    rw [Int.sub_mul, Int.sub_mul, q1, q2, w2, w4]
    simp only [Int.add_mul, Int.sub_mul]
    have q3 : e * b * u * (v * d) = e * d * v * (u * b) := by ac_rfl
    have q4 : a * f * u * (v * d) = a * d * (u * v) * f := by ac_rfl
    have q5 : c * f * v * (u * b) = c * b * (u * v) * f := by ac_rfl
    omega
  obtain ⟨k1, k2⟩ := sign_of hpos1 hpos2 key
  unfold cmpR
  rw [if_pos (And.intro w1 w3), if_pos (And.intro v1 v2)]
  by_cases g1 : a * d < c * b
  · rw [if_pos g1, if_pos (by omega)]
  · rw [if_neg g1, if_neg (by omega)]
    by_cases g2 : c * b < a * d
    · rw [if_pos g2, if_pos (by omega)]
    · rw [if_neg g2, if_neg (by omega)]
theorem mul_coprime {a b c d : Int} (h1 : validB a b = true) (h2 : validB c d = true) : gcdI (lowN a d * lowN c b) (lowD c b * lowD a d) = 1 ∧ 0 < lowD c b * lowD a d := by
  obtain ⟨b1, _, _, _, g1⟩ := valid_spec h1
  obtain ⟨d1, _, _, _, g2⟩ := valid_spec h2
  obtain ⟨s0, s1, s2, s3, s4⟩ := low_spec a d (by omega)
  obtain ⟨t0, t1, t2, t3, t4⟩ := low_spec c b (by omega)
  refine ⟨?_, Int.mul_pos t3 s3⟩
  rw [gcdI_one] at *
  rw [Int.natAbs_mul, Int.natAbs_mul]
  have xa : (lowN a d).natAbs ∣ a.natAbs := dvd_abs ⟨gcdI a d, s1.symm⟩
  have yc : (lowN c b).natAbs ∣ c.natAbs := dvd_abs ⟨gcdI c b, t1.symm⟩
  have ub : (lowD c b).natAbs ∣ b.natAbs := dvd_abs ⟨gcdI c b, t2.symm⟩
  have vd : (lowD a d).natAbs ∣ d.natAbs := dvd_abs ⟨gcdI a d, s2.symm⟩
  have c1 : Nat.Coprime (lowN a d).natAbs (lowD c b).natAbs := (g1.coprime_dvd_left xa).coprime_dvd_right ub
  have c2 : Nat.Coprime (lowN c b).natAbs (lowD a d).natAbs := (g2.coprime_dvd_left yc).coprime_dvd_right vd
  exact Nat.Coprime.mul_left (Nat.Coprime.mul_right c1 s4) (Nat.Coprime.mul_right t4 c2)
theorem can_iff (n d : Int) : canB n d = true ↔ wideB n = true ∧ wideB d = true ∧ 0 < d := by simp [canB]
theorem tdiv_wide {n : Int} (g : Int) (h : wideB n = true) : wideB (n.tdiv g) = true := by
  have : (n.tdiv g).natAbs ≤ n.natAbs := by rw [Int.natAbs_tdiv]; exact Nat.div_le_self _ _
  rw [wide_iff] at *
  omega
theorem lowN_wide {n d : Int} (h : wideB n = true) : wideB (lowN n d) = true := tdiv_wide _ h
theorem lowD_wide {n d : Int} (h : wideB d = true) : wideB (lowD n d) = true := tdiv_wide _ h
theorem valid_wide {n d : Int} (h : validB n d = true) : wideB n = true ∧ wideB d = true ∧ 0 < d := by
  have := valid_spec h
  rw [wide_iff, wide_iff]
  omega
theorem gcd_ne {n d : Int} (h : 0 < d) : gcdI n d ≠ 0 := by
  have := (low_spec n d h).1
  omega
/-- Sums and products of terms that are in range are numbers of the machine. -/
theorem prod_le {a d : Int} (ha : -1000000000000 ≤ a ∧ a ≤ 1000000000000) (hd : 1 ≤ d ∧ d ≤ 1000000) : -1000000000000000000 ≤ a * d ∧ a * d ≤ 1000000000000000000 := by
  have h : (a * d).natAbs ≤ 1000000000000 * 1000000 := by rw [Int.natAbs_mul]; exact Nat.mul_le_mul (by omega) (by omega)
  omega
theorem dens_le {b d : Int} (hb : 1 ≤ b ∧ b ≤ 1000000) (hd : 1 ≤ d ∧ d ≤ 1000000) : 1 ≤ b * d ∧ b * d ≤ 1000000000000 := by
  have h : (b * d).natAbs ≤ 1000000 * 1000000 := by rw [Int.natAbs_mul]; exact Nat.mul_le_mul (by omega) (by omega)
  have := Int.mul_pos (show 0 < b by omega) (show 0 < d by omega)
  omega
theorem big_iff {x y : Int} (hx : x ≠ 0) (hy : y ≠ 0) : bigB x y = true ↔ (1000000000000 : Int).tdiv y.natAbs < x.natAbs := by
  have h1 : bigB x y = true ↔ (1000000000000 : Int) < x.natAbs * y.natAbs := by simp [bigB, hx, hy]
  rw [h1]
  have hp : 0 < y.natAbs := by omega
  have h2 : ((1000000000000 : Int).tdiv y.natAbs) = ((1000000000000 / y.natAbs : Nat) : Int) := rfl
  rw [h2, ← Int.natCast_mul]
  have := Nat.div_lt_iff_lt_mul hp (x := 1000000000000) (y := x.natAbs)
  omega
theorem big_zero {x y : Int} (h : x = 0 ∨ y = 0) : bigB x y = false := by
  rcases h with h | h <;> simp [bigB, h]
theorem small_prod {x y : Int} (h : bigB x y = false) : -1000000000000 ≤ x * y ∧ x * y ≤ 1000000000000 := by
  by_cases hx : x = 0
  · subst hx; simp
  · by_cases hy : y = 0
    · subst hy; simp
    · have h1 : ¬ ((1000000000000 : Int) < x.natAbs * y.natAbs) := by
        intro e
        have : bigB x y = true := by simp [bigB, hx, hy, e]
        rw [h] at this; cases this
      have h2 : (x * y).natAbs = x.natAbs * y.natAbs := Int.natAbs_mul x y
      rw [← Int.natCast_mul, ← h2] at h1
      omega

theorem tdiv_le (a b : Int) : (a.tdiv b).natAbs ≤ a.natAbs := by rw [Int.natAbs_tdiv]; exact Nat.div_le_self _ _
theorem tdiv_mul_le (a b : Int) (h : 0 < b) : -(a.natAbs : Int) ≤ a.tdiv b * b ∧ a.tdiv b * b ≤ a.natAbs := by
  have h1 : (a.tdiv b * b).natAbs ≤ a.natAbs := by
    rw [Int.natAbs_mul, Int.natAbs_tdiv]
    exact Nat.div_mul_le_self _ _
  omega

end Go.Proofs.YtnahicnoofkfgaaGreatDoor.Zs

/-
  Fractions and deeds as plain data; what the reference of layer 5 says of them.
-/
namespace Go.Proofs.YtnahicnoofkfgaaGreatDoor.Zs
open Go
set_option linter.unusedSimpArgs false
set_option linter.unusedVariables false

def vI : Value → Int
  | .int _ n => n
  | _ => 0
structure Frac where
  num : Int
  den : Int
instance : DecidableEq Frac := fun a b =>
  decidable_of_iff (a.num = b.num ∧ a.den = b.den) ⟨fun h => by cases a; cases b; simp_all, fun h => by subst h; simp⟩
def Frac.row (p : Frac) : List Value :=
  [.int .i64 p.num, .int .i64 p.den]
def toFrac (l : List Value) : Frac := {
  num := vI (l.getD 0 default),
  den := vI (l.getD 1 default) }
def fracSch : List CK := [.int .i64, .int .i64]
theorem frac_row {r : List Value} (h : RowFits fracSch r) : r = (toFrac r).row := by
  unfold fracSch at h
  rcases h with _ | ⟨⟨a0, rfl⟩, h⟩
  rcases h with _ | ⟨⟨a1, rfl⟩, h⟩
  cases h
  rfl
theorem toFrac_row (p : Frac) : toFrac p.row = p := rfl
theorem fracs_of {rows : List (List Value)} (h : ∀ r ∈ rows, RowFits fracSch r) : rows = (rows.map toFrac).map Frac.row := by
  rw [List.map_map]
  conv => lhs; rw [← List.map_id rows]
  exact List.map_congr_left fun r hr => frac_row (h r hr)
/-- The rows of a list that a name stands for. -/
def fracsV : Value → List Frac
  | .tuple l => l.toList.map fun v => match v with | .agg c => toFrac c.toList | _ => toFrac []
  | _ => []
def fracsR (l : List Frac) : Value := rowsV (l.map Frac.row)
theorem fracsV_R (l : List Frac) : fracsV (fracsR l) = l := by
  simp only [fracsV, fracsR, rowsV, List.toList_toArray, List.map_map]
  conv => rhs; rw [← List.map_id l]
  exact List.map_congr_left fun p _ => rfl
structure Deed where
  id : Int
  known : Int
  hour : Int
  kind : Int
  loss : Int
  pack : Int
  from_ : Int
  to_ : Int
  snum : Int
  sden : Int
  of_ : Int
instance : DecidableEq Deed := fun a b =>
  decidable_of_iff (a.id = b.id ∧ a.known = b.known ∧ a.hour = b.hour ∧ a.kind = b.kind ∧ a.loss = b.loss ∧ a.pack = b.pack ∧ a.from_ = b.from_ ∧ a.to_ = b.to_ ∧ a.snum = b.snum ∧ a.sden = b.sden ∧ a.of_ = b.of_) ⟨fun h => by cases a; cases b; simp_all, fun h => by subst h; simp⟩
def Deed.row (p : Deed) : List Value :=
  [.int .i64 p.id, .int .i64 p.known, .int .i64 p.hour, .int .u8 p.kind, .int .i64 p.loss, .int .i64 p.pack, .int .i64 p.from_, .int .i64 p.to_, .int .i64 p.snum, .int .i64 p.sden, .int .i64 p.of_]
def toDeed (l : List Value) : Deed := {
  id := vI (l.getD 0 default),
  known := vI (l.getD 1 default),
  hour := vI (l.getD 2 default),
  kind := vI (l.getD 3 default),
  loss := vI (l.getD 4 default),
  pack := vI (l.getD 5 default),
  from_ := vI (l.getD 6 default),
  to_ := vI (l.getD 7 default),
  snum := vI (l.getD 8 default),
  sden := vI (l.getD 9 default),
  of_ := vI (l.getD 10 default) }
def deedSch : List CK := [.int .i64, .int .i64, .int .i64, .int .u8, .int .i64, .int .i64, .int .i64, .int .i64, .int .i64, .int .i64, .int .i64]
theorem deed_row {r : List Value} (h : RowFits deedSch r) : r = (toDeed r).row := by
  unfold deedSch at h
  rcases h with _ | ⟨⟨a0, rfl⟩, h⟩
  rcases h with _ | ⟨⟨a1, rfl⟩, h⟩
  rcases h with _ | ⟨⟨a2, rfl⟩, h⟩
  rcases h with _ | ⟨⟨a3, rfl⟩, h⟩
  rcases h with _ | ⟨⟨a4, rfl⟩, h⟩
  rcases h with _ | ⟨⟨a5, rfl⟩, h⟩
  rcases h with _ | ⟨⟨a6, rfl⟩, h⟩
  rcases h with _ | ⟨⟨a7, rfl⟩, h⟩
  rcases h with _ | ⟨⟨a8, rfl⟩, h⟩
  rcases h with _ | ⟨⟨a9, rfl⟩, h⟩
  rcases h with _ | ⟨⟨a10, rfl⟩, h⟩
  cases h
  rfl
theorem toDeed_row (p : Deed) : toDeed p.row = p := rfl
theorem deeds_of {rows : List (List Value)} (h : ∀ r ∈ rows, RowFits deedSch r) : rows = (rows.map toDeed).map Deed.row := by
  rw [List.map_map]
  conv => lhs; rw [← List.map_id rows]
  exact List.map_congr_left fun r hr => deed_row (h r hr)
/-- The rows of a list that a name stands for. -/
def deedsV : Value → List Deed
  | .tuple l => l.toList.map fun v => match v with | .agg c => toDeed c.toList | _ => toDeed []
  | _ => []
def deedsR (l : List Deed) : Value := rowsV (l.map Deed.row)
theorem deedsV_R (l : List Deed) : deedsV (deedsR l) = l := by
  simp only [deedsV, deedsR, rowsV, List.toList_toArray, List.map_map]
  conv => rhs; rw [← List.map_id l]
  exact List.map_congr_left fun p _ => rfl
/-- Is a deed well-formed? -/
def placeB (p : Deed) : Bool := withinB p.loss 1 20 && (withinB p.pack 1 200 && withinB p.from_ 1 40)
def partB (p : Deed) : Bool := validB p.snum p.sden && (decide (0 < p.snum) && decide (p.snum ≤ p.sden))
def ownB (p : Deed) : Bool :=
  bif decide (p.kind = 5) || decide (p.kind = 6) then (decide (p.loss = 0) && (decide (p.pack = 0) && (decide (p.from_ = 0) && (decide (p.to_ = 0) && (decide (p.snum = 0) && decide (p.sden = 0)))))) && (withinB p.of_ 1 1000000 && (decide (p.kind = 5) || decide (p.hour = 0)))
  else bif decide (p.kind = 1) || decide (p.kind = 2) then decide (p.of_ = 0) && (placeB p && (withinB p.to_ 1 40 && (!(decide (p.to_ = p.from_)) && partB p)))
  else bif decide (p.kind = 3) then (decide (p.of_ = 0) && (decide (p.snum = 0) && decide (p.sden = 0))) && (placeB p && (withinB p.to_ 0 40 && !(decide (p.to_ = p.from_))))
  else bif decide (p.kind = 4) then (decide (p.of_ = 0) && (decide (p.to_ = 0) && (decide (p.snum = 0) && decide (p.sden = 0)))) && placeB p else false
def formB (p : Deed) : Bool := withinB p.id 1 1000000 && (withinB p.known 0 1000000 && (withinB p.hour 0 1000000 && ownB p))
/-- The deed with an Id. -/
def zeroD : Deed := ⟨0, 0, 0, 0, 0, 0, 0, 0, 0, 0, 0⟩
def findR (l : List Deed) (n : Int) : Deed := (l.find? fun q => q.id == n).getD zeroD
def thereB (l : List Deed) (n : Int) : Bool := l.any fun q => q.id == n
def goneB (l : List Deed) (n k : Int) : Bool := l.any fun q => q.kind == 6 && (q.of_ == n && decide (q.known ≤ k))
def lastD (l : List Deed) : Int := l.foldl (fun _ p => p.known) 0
/-- Does a deed name one that it cannot? -/
def badB (l : List Deed) (p : Deed) : Bool :=
  bif decide (p.kind = 5) then !(thereB l p.of_ && decide ((findR l p.of_).kind = 4)) else bif decide (p.kind = 6) then !(thereB l p.of_ && !(decide ((findR l p.of_).kind = 6))) else false
/-- The error of a deed behind others. -/
def refusedD (l : List Deed) (p : Deed) : Int :=
  bif decide (300 ≤ l.length) then 2 else bif !(formB p) then 1 else bif thereB l p.id then 6
  else bif decide (0 < l.length) && decide (p.known < lastD l) then 7 else bif badB l p then 5 else bif decide (p.kind = 6) && goneB l p.of_ 1000000 then 6 else 0
def chkD (pre : List Deed) : List Deed → Int × Int
  | [] => (0, 0)
  | p :: r => if refusedD pre p = 0 then chkD (pre ++ [p]) r else (pre.length, refusedD pre p)
def checkD (l : List Deed) : Int × Int := chkD [] l
def appendD (l : List Deed) (p : Deed) : Int := if (checkD l).2 ≠ 0 then (checkD l).2 else refusedD l p
/-- What the maps of a check have: the kinds by their Ids, and what is void. -/
def krow (p : Deed) : List Value := [.int .i64 p.id, .int .u8 p.kind]
def vrow (n : Int) : List Value := [.int .i64 n, .bool true]
def kindsV (l : List Deed) : List (List Value) := l.foldl (fun m p => putRow [.int .i64 p.id] (krow p) m) []
def voidsV (l : List Deed) : List (List Value) := l.foldl (fun m p => if p.kind = 6 then putRow [.int .i64 p.of_] (vrow p.of_) m else m) []
/-- The deeds ahead of the first one that is refused. -/
def uptoD (l : List Deed) : List Deed := if (checkD l).2 = 0 then l else l.take (checkD l).1.toNat

def lastK (k k' : IntKind) (a b : Int) : IntKind := if b = 0 then k else if a.tmod b = 0 then k' else .i64
theorem lastK_step (k k' : IntKind) (a b : Int) (h : b ≠ 0) : lastK k' .i64 b (a.tmod b) = lastK k k' a b := by
  unfold lastK
  rw [if_neg h]
  split
  · rfl
  · split <;> rfl
def shortB {α : Type} (l : List α) : Bool := decide ((l.length : Int) ≤ 1010)
/-- The sum of the fractions up to the first one with which it would not be in range, and why not. -/
def stopR (n d : Int) : List Frac → Int × Int × Int
  | [] => (n, d, 0)
  | x :: l => if (addR n d x.num x.den).2.2 = 0 then stopR (addR n d x.num x.den).1 (addR n d x.num x.den).2.1 l else (n, d, (addR n d x.num x.den).2.2)
def allValid (l : List Frac) : Bool := l.all fun x => validB x.num x.den
def sumR (l : List Frac) : Int × Int × Int := if 1000 < (l.length : Int) then (0, 0, 2) else if allValid l = true then (if (stopR 0 1 l).2.2 = 0 then ((stopR 0 1 l).1, (stopR 0 1 l).2.1, 0) else (0, 0, (stopR 0 1 l).2.2)) else (0, 0, 1)
/-- What the signs in terms stand for. -/
def sy : Nat → List Value → Option Value
  | 10, [.int _ a, .int _ b, .int _ c] => some (.bool (withinB a b c))
  | 20, [a] => some (.bool (shortB (deedsV a)))
  | 21, [a] => some (.bool (shortB (fracsV a)))
  | 50, [.int _ a, .int _ b] => some (.int .i64 (gcdI a b))
  | 51, [.int _ n, .int _ d] => some (.bool (validB n d))
  | 52, [.int k a, .int k' b] => some (.int (lastK k k' a b) (lastI a b))
  | 53, [.int _ n, .int _ d] => some (.int .i64 (lowN n d))
  | 54, [.int _ n, .int _ d] => some (.int .i64 (lowD n d))
  | 57, [.int _ n, .int _ d] => some (.bool (lowB n d))
  | 58, [.int _ n, .int _ d] => some (.bool (canB n d))
  | 59, [.int _ a] => some (.int .i64 a.natAbs)
  | 55, [.int _ a] => some (.bool (wideB a))
  | 56, [.int _ a] => some (.bool (wordB a))
  | 70, [.int _ n, .int _ d] => some (.int .i64 (normR n d).1)
  | 71, [.int _ n, .int _ d] => some (.int .i64 (normR n d).2.1)
  | 72, [.int _ n, .int _ d] => some (.int .i64 (normR n d).2.2)
  | 73, [.int _ a, .int _ b, .int _ c, .int _ d] => some (.int .i64 (addR a b c d).1)
  | 74, [.int _ a, .int _ b, .int _ c, .int _ d] => some (.int .i64 (addR a b c d).2.1)
  | 75, [.int _ a, .int _ b, .int _ c, .int _ d] => some (.int .i64 (addR a b c d).2.2)
  | 76, [.int _ a, .int _ b, .int _ c, .int _ d] => some (.int .i64 (subR a b c d).1)
  | 77, [.int _ a, .int _ b, .int _ c, .int _ d] => some (.int .i64 (subR a b c d).2.1)
  | 78, [.int _ a, .int _ b, .int _ c, .int _ d] => some (.int .i64 (subR a b c d).2.2)
  | 79, [.int _ a, .int _ b, .int _ c, .int _ d] => some (.int .i64 (mulR a b c d).1)
  | 80, [.int _ a, .int _ b, .int _ c, .int _ d] => some (.int .i64 (mulR a b c d).2.1)
  | 81, [.int _ a, .int _ b, .int _ c, .int _ d] => some (.int .i64 (mulR a b c d).2.2)
  | 82, [.int _ a, .int _ b, .int _ c, .int _ d] => some (.int .i64 (cmpR a b c d))
  | 83, [.int _ n, .int _ d] => some (.int .i64 (floorR n d))
  | 84, [.int _ n, .int _ d] => some (.int .i64 (ceilR n d))
  | 90, [a] => some (.int .i64 (sumR (fracsV a)).1)
  | 91, [a] => some (.int .i64 (sumR (fracsV a)).2.1)
  | 92, [a] => some (.int .i64 (sumR (fracsV a)).2.2)
  | 93, [a] => some (.bool (allValid (fracsV a)))
  | 94, [a] => some (.int .i64 (stopR 0 1 (fracsV a)).1)
  | 95, [a] => some (.int .i64 (stopR 0 1 (fracsV a)).2.1)
  | 96, [a] => some (.int .i64 (stopR 0 1 (fracsV a)).2.2)
  | 60, [a, .int _ n, .int _ j] => (findR (deedsV a) n).row[j.toNat]?
  | 61, [a, .int _ n] => some (.bool (thereB (deedsV a) n))
  | 62, [a, .int _ n, .int _ k] => some (.bool (goneB (deedsV a) n k))
  | 63, l => some (.bool (formB (toDeed l)))
  | 64, l => some (.int .i64 (if formB (toDeed l) then 0 else 1))
  | 4, v :: l => some (.int .i64 (refusedD (deedsV v) (toDeed l)))
  | 5, [v] => some (.int .i64 (checkD (deedsV v)).1)
  | 6, [v] => some (.int .i64 (checkD (deedsV v)).2)
  | 7, [a, b] => some (.bool (decide (deedsV a = deedsV b)))
  | 11, v :: l => some (.int .i64 (appendD (deedsV v) (toDeed l)))
  | 25, [v] => some (rowsV (kindsV (uptoD (deedsV v))))
  | 26, [v] => some (rowsV (voidsV (uptoD (deedsV v))))
  | 27, [v] => some (.int .i64 (lastD (uptoD (deedsV v))))
  | _, _ => none
end Go.Proofs.YtnahicnoofkfgaaGreatDoor.Zs

/-
  Fractions and deeds as names stand for them.
-/
namespace Go.Proofs.YtnahicnoofkfgaaGreatDoor.Zs
open Go
set_option linter.unusedSimpArgs false
set_option linter.unusedVariables false

theorem d_wrap (k k' : IntKind) (n : Int) : den1 (.wrap k) (.int k' n) = some (.int k (k.wrap n)) := rfl
theorem d_kind (k k' : IntKind) (n : Int) : den1 (.kind k) (.int k' n) = some (.int k n) := rfl
theorem d_not (b : Bool) : den1 .not (.bool b) = some (.bool (!b)) := rfl
theorem d_neg (k' : IntKind) (n : Int) : den1 .neg (.int k' n) = some (.int .i64 (-n)) := rfl
theorem d_slen (s : ByteArray) : den1 .slen (.string s) = some (.int .i64 s.size) := rfl
theorem d_add (k k' : IntKind) (m n : Int) : den2 .add (.int k m) (.int k' n) = some (.int .i64 (m + n)) := rfl
theorem d_sub (k k' : IntKind) (m n : Int) : den2 .sub (.int k m) (.int k' n) = some (.int .i64 (m - n)) := rfl
theorem d_mul (k k' : IntKind) (m n : Int) : den2 .mul (.int k m) (.int k' n) = some (.int .i64 (m * n)) := rfl
theorem d_div (k k' : IntKind) (m n : Int) : den2 .div (.int k m) (.int k' n) = some (.int .i64 (m.tdiv n)) := rfl
theorem d_mod (k k' : IntKind) (m n : Int) : den2 .mod (.int k m) (.int k' n) = some (.int .i64 (m.tmod n)) := rfl
theorem d_lt (k k' : IntKind) (m n : Int) : den2 .lt (.int k m) (.int k' n) = some (.bool (decide (m < n))) := rfl
theorem d_le (k k' : IntKind) (m n : Int) : den2 .le (.int k m) (.int k' n) = some (.bool (decide (m ≤ n))) := rfl
theorem d_eq (k k' : IntKind) (m n : Int) : den2 .eq (.int k m) (.int k' n) = some (.bool (m == n)) := rfl
theorem d_eqb (a b : Bool) : den2 .eqb (.bool a) (.bool b) = some (.bool (a == b)) := rfl
theorem d_eqs (a b : ByteArray) : den2 .eqs (.string a) (.string b) = some (.bool (a == b)) := rfl
theorem d_lts (a b : ByteArray) : den2 .lts (.string a) (.string b) = some (.bool (Op.bytesLess a.toList b.toList)) := rfl
theorem d_cat (a b : ByteArray) : den2 .cat (.string a) (.string b) = some (.string (a ++ b)) := rfl
theorem d_sat (a : ByteArray) (k : IntKind) (n : Int) : den2 .sat (.string a) (.int k n) = some (.int .u8 ((a[n.toNat]?.map UInt8.toNat).getD 0)) := rfl
theorem d_and (a b : Bool) : den2 .and (.bool a) (.bool b) = some (.bool (a && b)) := rfl
theorem d_or (a b : Bool) : den2 .or (.bool a) (.bool b) = some (.bool (a || b)) := rfl
theorem d_len (l : Array Value) : den1 .len (.tuple l) = some (.int .i64 l.size) := rfl

theorem snoc_nil (r : List Value) : denSnoc (.tuple #[]) r = some (rowsV [r]) := by simp [denSnoc, rowsV]
theorem d_mhas (a : List (List Value)) (k : List Value) : den2 .mhas (rowsV a) (rowsV [k]) = some (.bool (mapHas a k)) := by
  simp only [rowsV, den2, rowsOf_V, keyRow_V]
theorem d_mat (j : Nat) (a : List (List Value)) (k : List Value) : den2 (.mat j) (rowsV a) (rowsV [k]) = mapAt a k j := by
  simp only [rowsV, den2, rowsOf_V, keyRow_V]
theorem d_mput (n : Nat) (a : List (List Value)) (k : List Value) : den2 (.mput n) (rowsV a) (rowsV [k]) = some (rowsV (putRow (k.take n) k a)) := by
  simp only [rowsV, den2, rowsOf_V, keyRow_V]
theorem putRow_new {k row : List Value} : ∀ {rows : List (List Value)}, mapHas rows k = false → putRow k row rows = rows ++ [row]
  | [], _ => rfl
  | r :: l, h => by
    simp only [mapHas, List.any_cons, Bool.or_eq_false_iff] at h
    simp only [putRow, h.1, putRow_new (rows := l) h.2, List.cons_append]

theorem mapAt_none {k : List Value} {j : Nat} {rows : List (List Value)} (h : mapHas rows k = false) : mapAt rows k j = none := by
  unfold mapAt mapRow
  cases hf : rows.find? (begins k) with
  | none => rfl
  | some r =>
    have h1 := List.find?_some hf
    have h2 := List.mem_of_find?_eq_some hf
    have : mapHas rows k = true := List.any_eq_true.2 ⟨r, h2, h1⟩
    rw [h] at this; cases this
theorem fracs_len (l : List Frac) : den1 .len (fracsR l) = some (.int .i64 l.length) := by simp [den1, fracsR, rowsV]
theorem fracs_cell (j : Nat) (l : List Frac) (k : IntKind) (n : Int) : denCell j (fracsR l) (.int k n) = (l[n.toNat]?).bind fun p => p.row[j]? := by
  simp only [denCell, fracsR, rowsV, List.getElem?_toArray, List.getElem?_map]
  cases l[n.toNat]? <;> simp
theorem fracs_lsub (l : List Frac) (k k' : IntKind) (a b : Int) : denLsub (fracsR l) (.int k a) (.int k' b) = some (fracsR ((l.take b.toNat).drop a.toNat)) := by
  simp only [fracsR, rowsV, denLsub]
  congr 2
  apply Array.ext'
  simp [List.map_take, List.map_drop, List.extract_eq_take_drop, List.drop_take]
theorem fracs_snoc (l : List Frac) (x : Frac) : denSnoc (fracsR l) [.int .i64 x.num, .int .i64 x.den] = some (fracsR (l ++ [x])) := by
  simp [denSnoc, fracsR, rowsV, Frac.row]
theorem fracs_snoc0 (x : Frac) : denSnoc (.tuple #[]) [.int .i64 x.num, .int .i64 x.den] = some (fracsR [x]) := fracs_snoc [] x
theorem frac0 (p : Frac) : p.row[0]? = some (.int .i64 p.num) := rfl
theorem frac1 (p : Frac) : p.row[1]? = some (.int .i64 p.den) := rfl
def fracLeaves (v : Nat) : List Leaf := [.int .i64 (v + 0), .int .i64 (v + 1)]
/-- The values of the names of a record. -/
structure FracAt (ρ : Rho) (v : Nat) (k : Nat → IntKind) (p : Frac) : Prop where
  h0 : ρ.val (v + 0) = some (.int (k 0) p.num)
  h1 : ρ.val (v + 1) = some (.int (k 1) p.den)
theorem frac_agg {σ : Sig} {v : Nat} {u : Value} (h : (Arg.agg (fracLeaves v)).av.inst σ = some u) : ∃ (p : Frac) (k : Nat → IntKind), u = .agg p.row.toArray ∧ FracAt σ.rho v k p := by
  obtain ⟨vs, rfl, gs⟩ := AV.inst_agg h
  obtain ⟨x0, vs, rfl, g0, gs⟩ := ins_cons gs
  obtain ⟨x1, vs, rfl, g1, gs⟩ := ins_cons gs
  cases gs
  obtain ⟨a0, k0, rfl, h0⟩ := one_int g0
  obtain ⟨a1, k1, rfl, h1⟩ := one_int g1
  exact ⟨⟨a0, a1⟩, fun i => [k0, k1].getD i .i64, rfl, h0, h1⟩
/-- A list, as a parameter. -/
def fracsArg (i b : Nat) : Arg := .list i 2 fracSch 23 b (b + 1) (b + 2)
theorem fracs_at {P : Program} {l : List (Nat × ABlock)} {N i : Nat} {b x : X} {own : Bool} {t : TypeId} {σ : Sig} {w : World} {Wr : Nat → Prop} (hrel : (memOf l N).rel P σ w Wr) (hg : (buildH l).get i = some (.rows 2 fracSch b x own t)) :
    ∃ ps : List Frac, x.den σ.rho = some (fracsR ps) := by
  obtain ⟨rows, h1, h2⟩ := rows_at hrel hg
  exact ⟨rows.map toFrac, by rw [h1, fracsR, ← fracs_of h2]⟩
theorem fracs_cap {σ : Sig} {i b : Nat} {u : Value} {l : List Frac} (h : (fracsArg i b).av.inst σ = some u) (h1 : σ.rho.val (b + 1) = some (fracsR l)) : ∃ kc cap, σ.rho.val (b + 2) = some (.int kc cap) ∧ (l.length : Int) ≤ cap := by
  obtain ⟨_, _, _, _, kn, kc, _, _, _, e4, e5, e6, _⟩ := inst_slx h
  obtain ⟨q, hq⟩ := X.nat_iff.1 e5
  obtain ⟨q', hq'⟩ := X.nat_iff.1 e4
  simp only [X.den, h1, fracs_len, Option.some.injEq, Value.int.injEq] at hq'
  exact ⟨q, kc, hq, by omega⟩
theorem frac_eq {p q : Frac} (h0 : p.num = q.num) (h1 : p.den = q.den) : p = q := by
  cases p; cases q; simp_all
theorem deeds_len (l : List Deed) : den1 .len (deedsR l) = some (.int .i64 l.length) := by simp [den1, deedsR, rowsV]
theorem deeds_cell (j : Nat) (l : List Deed) (k : IntKind) (n : Int) : denCell j (deedsR l) (.int k n) = (l[n.toNat]?).bind fun p => p.row[j]? := by
  simp only [denCell, deedsR, rowsV, List.getElem?_toArray, List.getElem?_map]
  cases l[n.toNat]? <;> simp
theorem deeds_lsub (l : List Deed) (k k' : IntKind) (a b : Int) : denLsub (deedsR l) (.int k a) (.int k' b) = some (deedsR ((l.take b.toNat).drop a.toNat)) := by
  simp only [deedsR, rowsV, denLsub]
  congr 2
  apply Array.ext'
  simp [List.map_take, List.map_drop, List.extract_eq_take_drop, List.drop_take]
theorem deeds_snoc (l : List Deed) (x : Deed) : denSnoc (deedsR l) [.int .i64 x.id, .int .i64 x.known, .int .i64 x.hour, .int .u8 x.kind, .int .i64 x.loss, .int .i64 x.pack, .int .i64 x.from_, .int .i64 x.to_, .int .i64 x.snum, .int .i64 x.sden, .int .i64 x.of_] = some (deedsR (l ++ [x])) := by
  simp [denSnoc, deedsR, rowsV, Deed.row]
theorem deeds_snoc0 (x : Deed) : denSnoc (.tuple #[]) [.int .i64 x.id, .int .i64 x.known, .int .i64 x.hour, .int .u8 x.kind, .int .i64 x.loss, .int .i64 x.pack, .int .i64 x.from_, .int .i64 x.to_, .int .i64 x.snum, .int .i64 x.sden, .int .i64 x.of_] = some (deedsR [x]) := deeds_snoc [] x
theorem deed0 (p : Deed) : p.row[0]? = some (.int .i64 p.id) := rfl
theorem deed1 (p : Deed) : p.row[1]? = some (.int .i64 p.known) := rfl
theorem deed2 (p : Deed) : p.row[2]? = some (.int .i64 p.hour) := rfl
theorem deed3 (p : Deed) : p.row[3]? = some (.int .u8 p.kind) := rfl
theorem deed4 (p : Deed) : p.row[4]? = some (.int .i64 p.loss) := rfl
theorem deed5 (p : Deed) : p.row[5]? = some (.int .i64 p.pack) := rfl
theorem deed6 (p : Deed) : p.row[6]? = some (.int .i64 p.from_) := rfl
theorem deed7 (p : Deed) : p.row[7]? = some (.int .i64 p.to_) := rfl
theorem deed8 (p : Deed) : p.row[8]? = some (.int .i64 p.snum) := rfl
theorem deed9 (p : Deed) : p.row[9]? = some (.int .i64 p.sden) := rfl
theorem deed10 (p : Deed) : p.row[10]? = some (.int .i64 p.of_) := rfl
def deedLeaves (v : Nat) : List Leaf := [.int .i64 (v + 0), .int .i64 (v + 1), .int .i64 (v + 2), .int .u8 (v + 3), .int .i64 (v + 4), .int .i64 (v + 5), .int .i64 (v + 6), .int .i64 (v + 7), .int .i64 (v + 8), .int .i64 (v + 9), .int .i64 (v + 10)]
/-- The values of the names of a record. -/
structure DeedAt (ρ : Rho) (v : Nat) (k : Nat → IntKind) (p : Deed) : Prop where
  h0 : ρ.val (v + 0) = some (.int (k 0) p.id)
  h1 : ρ.val (v + 1) = some (.int (k 1) p.known)
  h2 : ρ.val (v + 2) = some (.int (k 2) p.hour)
  h3 : ρ.val (v + 3) = some (.int (k 3) p.kind)
  h4 : ρ.val (v + 4) = some (.int (k 4) p.loss)
  h5 : ρ.val (v + 5) = some (.int (k 5) p.pack)
  h6 : ρ.val (v + 6) = some (.int (k 6) p.from_)
  h7 : ρ.val (v + 7) = some (.int (k 7) p.to_)
  h8 : ρ.val (v + 8) = some (.int (k 8) p.snum)
  h9 : ρ.val (v + 9) = some (.int (k 9) p.sden)
  h10 : ρ.val (v + 10) = some (.int (k 10) p.of_)
theorem deed_agg {σ : Sig} {v : Nat} {u : Value} (h : (Arg.agg (deedLeaves v)).av.inst σ = some u) : ∃ (p : Deed) (k : Nat → IntKind), u = .agg p.row.toArray ∧ DeedAt σ.rho v k p := by
  obtain ⟨vs, rfl, gs⟩ := AV.inst_agg h
  obtain ⟨x0, vs, rfl, g0, gs⟩ := ins_cons gs
  obtain ⟨x1, vs, rfl, g1, gs⟩ := ins_cons gs
  obtain ⟨x2, vs, rfl, g2, gs⟩ := ins_cons gs
  obtain ⟨x3, vs, rfl, g3, gs⟩ := ins_cons gs
  obtain ⟨x4, vs, rfl, g4, gs⟩ := ins_cons gs
  obtain ⟨x5, vs, rfl, g5, gs⟩ := ins_cons gs
  obtain ⟨x6, vs, rfl, g6, gs⟩ := ins_cons gs
  obtain ⟨x7, vs, rfl, g7, gs⟩ := ins_cons gs
  obtain ⟨x8, vs, rfl, g8, gs⟩ := ins_cons gs
  obtain ⟨x9, vs, rfl, g9, gs⟩ := ins_cons gs
  obtain ⟨x10, vs, rfl, g10, gs⟩ := ins_cons gs
  cases gs
  obtain ⟨a0, k0, rfl, h0⟩ := one_int g0
  obtain ⟨a1, k1, rfl, h1⟩ := one_int g1
  obtain ⟨a2, k2, rfl, h2⟩ := one_int g2
  obtain ⟨a3, k3, rfl, h3⟩ := one_int g3
  obtain ⟨a4, k4, rfl, h4⟩ := one_int g4
  obtain ⟨a5, k5, rfl, h5⟩ := one_int g5
  obtain ⟨a6, k6, rfl, h6⟩ := one_int g6
  obtain ⟨a7, k7, rfl, h7⟩ := one_int g7
  obtain ⟨a8, k8, rfl, h8⟩ := one_int g8
  obtain ⟨a9, k9, rfl, h9⟩ := one_int g9
  obtain ⟨a10, k10, rfl, h10⟩ := one_int g10
  exact ⟨⟨a0, a1, a2, a3, a4, a5, a6, a7, a8, a9, a10⟩, fun i => [k0, k1, k2, k3, k4, k5, k6, k7, k8, k9, k10].getD i .i64, rfl, h0, h1, h2, h3, h4, h5, h6, h7, h8, h9, h10⟩
/-- A list, as a parameter. -/
def deedsArg (i b : Nat) : Arg := .list i 11 deedSch 37 b (b + 1) (b + 2)
theorem deeds_at {P : Program} {l : List (Nat × ABlock)} {N i : Nat} {b x : X} {own : Bool} {t : TypeId} {σ : Sig} {w : World} {Wr : Nat → Prop} (hrel : (memOf l N).rel P σ w Wr) (hg : (buildH l).get i = some (.rows 11 deedSch b x own t)) :
    ∃ ps : List Deed, x.den σ.rho = some (deedsR ps) := by
  obtain ⟨rows, h1, h2⟩ := rows_at hrel hg
  exact ⟨rows.map toDeed, by rw [h1, deedsR, ← deeds_of h2]⟩
theorem deeds_cap {σ : Sig} {i b : Nat} {u : Value} {l : List Deed} (h : (deedsArg i b).av.inst σ = some u) (h1 : σ.rho.val (b + 1) = some (deedsR l)) : ∃ kc cap, σ.rho.val (b + 2) = some (.int kc cap) ∧ (l.length : Int) ≤ cap := by
  obtain ⟨_, _, _, _, kn, kc, _, _, _, e4, e5, e6, _⟩ := inst_slx h
  obtain ⟨q, hq⟩ := X.nat_iff.1 e5
  obtain ⟨q', hq'⟩ := X.nat_iff.1 e4
  simp only [X.den, h1, deeds_len, Option.some.injEq, Value.int.injEq] at hq'
  exact ⟨q, kc, hq, by omega⟩
theorem deed_eq {p q : Deed} (h0 : p.id = q.id) (h1 : p.known = q.known) (h2 : p.hour = q.hour) (h3 : p.kind = q.kind) (h4 : p.loss = q.loss) (h5 : p.pack = q.pack) (h6 : p.from_ = q.from_) (h7 : p.to_ = q.to_) (h8 : p.snum = q.snum) (h9 : p.sden = q.sden) (h10 : p.of_ = q.of_) : p = q := by
  cases p; cases q; simp_all
theorem sym10 (k0 k1 k2 : IntKind) (a b c : Int) : sy 10 [.int k0 a, .int k1 b, .int k2 c] = some (.bool (withinB a b c)) := rfl
theorem sym50 (k0 k1 : IntKind) (a b : Int) : sy 50 [.int k0 a, .int k1 b] = some (.int .i64 (gcdI a b)) := rfl
theorem sym51 (k0 k1 : IntKind) (a b : Int) : sy 51 [.int k0 a, .int k1 b] = some (.bool (validB a b)) := rfl
theorem sym52 (k0 k1 : IntKind) (a b : Int) : sy 52 [.int k0 a, .int k1 b] = some (.int (lastK k0 k1 a b) (lastI a b)) := rfl
theorem sym53 (k0 k1 : IntKind) (a b : Int) : sy 53 [.int k0 a, .int k1 b] = some (.int .i64 (lowN a b)) := rfl
theorem sym54 (k0 k1 : IntKind) (a b : Int) : sy 54 [.int k0 a, .int k1 b] = some (.int .i64 (lowD a b)) := rfl
theorem sym57 (k0 k1 : IntKind) (a b : Int) : sy 57 [.int k0 a, .int k1 b] = some (.bool (lowB a b)) := rfl
theorem sym58 (k0 k1 : IntKind) (a b : Int) : sy 58 [.int k0 a, .int k1 b] = some (.bool (canB a b)) := rfl
theorem sym59 (k0 : IntKind) (a : Int) : sy 59 [.int k0 a] = some (.int .i64 (a.natAbs : Int)) := rfl
theorem sym55 (k0 : IntKind) (a : Int) : sy 55 [.int k0 a] = some (.bool (wideB a)) := rfl
theorem sym56 (k0 : IntKind) (a : Int) : sy 56 [.int k0 a] = some (.bool (wordB a)) := rfl
theorem sym70 (k0 k1 : IntKind) (a b : Int) : sy 70 [.int k0 a, .int k1 b] = some (.int .i64 (normR a b).1) := rfl
theorem sym73 (k0 k1 k2 k3 : IntKind) (a b c d : Int) : sy 73 [.int k0 a, .int k1 b, .int k2 c, .int k3 d] = some (.int .i64 (addR a b c d).1) := rfl
theorem sym76 (k0 k1 k2 k3 : IntKind) (a b c d : Int) : sy 76 [.int k0 a, .int k1 b, .int k2 c, .int k3 d] = some (.int .i64 (subR a b c d).1) := rfl
theorem sym79 (k0 k1 k2 k3 : IntKind) (a b c d : Int) : sy 79 [.int k0 a, .int k1 b, .int k2 c, .int k3 d] = some (.int .i64 (mulR a b c d).1) := rfl
theorem sym90 (l : List Frac) : sy 90 [fracsR l] = some (.int .i64 (sumR l).1) := congrArg (fun l => some (Value.int .i64 (sumR l).1)) (fracsV_R l)
theorem sym94 (l : List Frac) : sy 94 [fracsR l] = some (.int .i64 (stopR 0 1 l).1) := congrArg (fun l => some (Value.int .i64 (stopR 0 1 l).1)) (fracsV_R l)
theorem sym71 (k0 k1 : IntKind) (a b : Int) : sy 71 [.int k0 a, .int k1 b] = some (.int .i64 (normR a b).2.1) := rfl
theorem sym74 (k0 k1 k2 k3 : IntKind) (a b c d : Int) : sy 74 [.int k0 a, .int k1 b, .int k2 c, .int k3 d] = some (.int .i64 (addR a b c d).2.1) := rfl
theorem sym77 (k0 k1 k2 k3 : IntKind) (a b c d : Int) : sy 77 [.int k0 a, .int k1 b, .int k2 c, .int k3 d] = some (.int .i64 (subR a b c d).2.1) := rfl
theorem sym80 (k0 k1 k2 k3 : IntKind) (a b c d : Int) : sy 80 [.int k0 a, .int k1 b, .int k2 c, .int k3 d] = some (.int .i64 (mulR a b c d).2.1) := rfl
theorem sym91 (l : List Frac) : sy 91 [fracsR l] = some (.int .i64 (sumR l).2.1) := congrArg (fun l => some (Value.int .i64 (sumR l).2.1)) (fracsV_R l)
theorem sym95 (l : List Frac) : sy 95 [fracsR l] = some (.int .i64 (stopR 0 1 l).2.1) := congrArg (fun l => some (Value.int .i64 (stopR 0 1 l).2.1)) (fracsV_R l)
theorem sym72 (k0 k1 : IntKind) (a b : Int) : sy 72 [.int k0 a, .int k1 b] = some (.int .i64 (normR a b).2.2) := rfl
theorem sym75 (k0 k1 k2 k3 : IntKind) (a b c d : Int) : sy 75 [.int k0 a, .int k1 b, .int k2 c, .int k3 d] = some (.int .i64 (addR a b c d).2.2) := rfl
theorem sym78 (k0 k1 k2 k3 : IntKind) (a b c d : Int) : sy 78 [.int k0 a, .int k1 b, .int k2 c, .int k3 d] = some (.int .i64 (subR a b c d).2.2) := rfl
theorem sym81 (k0 k1 k2 k3 : IntKind) (a b c d : Int) : sy 81 [.int k0 a, .int k1 b, .int k2 c, .int k3 d] = some (.int .i64 (mulR a b c d).2.2) := rfl
theorem sym92 (l : List Frac) : sy 92 [fracsR l] = some (.int .i64 (sumR l).2.2) := congrArg (fun l => some (Value.int .i64 (sumR l).2.2)) (fracsV_R l)
theorem sym96 (l : List Frac) : sy 96 [fracsR l] = some (.int .i64 (stopR 0 1 l).2.2) := congrArg (fun l => some (Value.int .i64 (stopR 0 1 l).2.2)) (fracsV_R l)
theorem sym82 (k0 k1 k2 k3 : IntKind) (a b c d : Int) : sy 82 [.int k0 a, .int k1 b, .int k2 c, .int k3 d] = some (.int .i64 (cmpR a b c d)) := rfl
theorem sym83 (k0 k1 : IntKind) (a b : Int) : sy 83 [.int k0 a, .int k1 b] = some (.int .i64 (floorR a b)) := rfl
theorem sym84 (k0 k1 : IntKind) (a b : Int) : sy 84 [.int k0 a, .int k1 b] = some (.int .i64 (ceilR a b)) := rfl
theorem sym93 (l : List Frac) : sy 93 [fracsR l] = some (.bool (allValid l)) := congrArg (fun l => some (Value.bool (allValid l))) (fracsV_R l)
theorem sym20 (l : List Deed) : sy 20 [deedsR l] = some (.bool (shortB l)) := congrArg (fun l => some (Value.bool (shortB l))) (deedsV_R l)
theorem sym21 (l : List Frac) : sy 21 [fracsR l] = some (.bool (shortB l)) := congrArg (fun l => some (Value.bool (shortB l))) (fracsV_R l)
theorem sym63 (k0 k1 k2 k3 k4 k5 k6 k7 k8 k9 k10 : IntKind) (x : Deed) : sy 63 [.int k0 x.id, .int k1 x.known, .int k2 x.hour, .int k3 x.kind, .int k4 x.loss, .int k5 x.pack, .int k6 x.from_, .int k7 x.to_, .int k8 x.snum, .int k9 x.sden, .int k10 x.of_] = some (.bool (formB x)) := rfl
theorem sym64 (k0 k1 k2 k3 k4 k5 k6 k7 k8 k9 k10 : IntKind) (x : Deed) : sy 64 [.int k0 x.id, .int k1 x.known, .int k2 x.hour, .int k3 x.kind, .int k4 x.loss, .int k5 x.pack, .int k6 x.from_, .int k7 x.to_, .int k8 x.snum, .int k9 x.sden, .int k10 x.of_] = some (.int .i64 (if formB x then 0 else 1)) := rfl
theorem sym4 (l : List Deed) (k0 k1 k2 k3 k4 k5 k6 k7 k8 k9 k10 : IntKind) (x : Deed) : sy 4 [deedsR l, .int k0 x.id, .int k1 x.known, .int k2 x.hour, .int k3 x.kind, .int k4 x.loss, .int k5 x.pack, .int k6 x.from_, .int k7 x.to_, .int k8 x.snum, .int k9 x.sden, .int k10 x.of_] = some (.int .i64 (refusedD l x)) := congrArg (fun l => some (Value.int .i64 (refusedD l x))) (deedsV_R l)
theorem sym11 (l : List Deed) (k0 k1 k2 k3 k4 k5 k6 k7 k8 k9 k10 : IntKind) (x : Deed) : sy 11 [deedsR l, .int k0 x.id, .int k1 x.known, .int k2 x.hour, .int k3 x.kind, .int k4 x.loss, .int k5 x.pack, .int k6 x.from_, .int k7 x.to_, .int k8 x.snum, .int k9 x.sden, .int k10 x.of_] = some (.int .i64 (appendD l x)) := congrArg (fun l => some (Value.int .i64 (appendD l x))) (deedsV_R l)
theorem sym60 (l : List Deed) (k k' : IntKind) (n j : Int) : sy 60 [deedsR l, .int k n, .int k' j] = (findR l n).row[j.toNat]? := congrArg (fun l => (findR l n).row[j.toNat]?) (deedsV_R l)
theorem sym61 (l : List Deed) (k : IntKind) (n : Int) : sy 61 [deedsR l, .int k n] = some (.bool (thereB l n)) := congrArg (fun l => some (Value.bool (thereB l n))) (deedsV_R l)
theorem sym62 (l : List Deed) (k k' : IntKind) (n m : Int) : sy 62 [deedsR l, .int k n, .int k' m] = some (.bool (goneB l n m)) := congrArg (fun l => some (Value.bool (goneB l n m))) (deedsV_R l)
theorem sym5 (l : List Deed) : sy 5 [deedsR l] = some (.int .i64 (checkD l).1) := congrArg (fun l => some (Value.int .i64 (checkD l).1)) (deedsV_R l)
theorem sym6 (l : List Deed) : sy 6 [deedsR l] = some (.int .i64 (checkD l).2) := congrArg (fun l => some (Value.int .i64 (checkD l).2)) (deedsV_R l)
theorem sym7 (a b : List Deed) : sy 7 [deedsR a, deedsR b] = some (.bool (decide (a = b))) := congr (congrArg (fun a b => some (Value.bool (decide (a = b)))) (deedsV_R a)) (deedsV_R b)
theorem sym25 (l : List Deed) : sy 25 [deedsR l] = some (rowsV (kindsV (uptoD l))) := congrArg (fun l => some (rowsV (kindsV (uptoD l)))) (deedsV_R l)
theorem sym26 (l : List Deed) : sy 26 [deedsR l] = some (rowsV (voidsV (uptoD l))) := congrArg (fun l => some (rowsV (voidsV (uptoD l)))) (deedsV_R l)
theorem sym27 (l : List Deed) : sy 27 [deedsR l] = some (.int .i64 (lastD (uptoD l))) := congrArg (fun l => some (Value.int .i64 (lastD (uptoD l)))) (deedsV_R l)

theorem wrap_id {a : Int} (h : wideB a = true) : IntKind.i64.wrap a = a := by
  rw [wide_iff] at h
  exact IntWalk.i64_in _ (by omega)
theorem wrap_neg {a : Int} (h : wideB a = true) : IntKind.i64.wrap (0 - a) = -a := by
  rw [wide_iff] at h
  rw [IntWalk.i64_in _ (by omega)]
  omega
theorem wrap_lowN {n : Int} (d : Int) (h : wideB n = true) : IntKind.i64.wrap (n.tdiv (gcdI n d)) = lowN n d := wrap_id (tdiv_wide _ h)
theorem wrap_lowD {d : Int} (n : Int) (h : wideB d = true) : IntKind.i64.wrap (d.tdiv (gcdI n d)) = lowD n d := wrap_id (tdiv_wide _ h)
theorem short_len {α : Type} {l : List α} (h : shortB l = true) : (l.length : Int) ≤ 1010 := by simpa [shortB] using h
theorem len_short {α : Type} {l : List α} (h : (l.length : Int) ≤ 1010) : shortB l = true := by simpa [shortB] using h
theorem short_take {α : Type} {l : List α} (h : shortB l = true) (i : Nat) : shortB (l.take i) = true := by
  have := short_len h
  refine len_short ?_
  simp only [List.length_take]
  omega
end Go.Proofs.YtnahicnoofkfgaaGreatDoor.Zs

/-
  Deeds that were accepted, and what is remembered of them.
-/
namespace Go.Proofs.YtnahicnoofkfgaaGreatDoor.Zs
open Go
set_option linter.unusedSimpArgs false
set_option linter.unusedVariables false

/-- Papers that were accepted. -/
structure GoodD (pre : List Deed) : Prop where
  kinds : kindsV pre = pre.map krow
  voids : voidsV pre = (pre.filter fun q => q.kind == 6).map fun q => vrow q.of_
  uniq : ∀ q ∈ pre, ∀ q' ∈ pre, q.id = q'.id → q.kind = q'.kind
  formed : ∀ q ∈ pre, formB q = true
theorem goodD_nil : GoodD [] := ⟨rfl, rfl, (fun q h => by cases h), (fun q h => by cases h)⟩
theorem GoodD.has {pre : List Deed} (h : GoodD pre) (n : Int) : mapHas (kindsV pre) [.int .i64 n] = pre.any fun q => q.id == n := by
  rw [h.kinds]
  simp only [mapHas, List.any_map]
  congr 1
  funext q
  simp only [Function.comp, krow, begins, sameV, decide_true, Bool.true_and, Bool.and_true]
  rw [Bool.eq_iff_iff]; simp; exact eq_comm
theorem formed_known {p : Deed} (h : formB p = true) : 0 ≤ p.known ∧ p.known ≤ 1000000 := by
  simp only [formB, withinB, Bool.and_eq_true, decide_eq_true_eq] at h
  exact h.2.1
theorem formed_kind {p : Deed} (h : formB p = true) : 1 ≤ p.kind ∧ p.kind ≤ 6 := by
  simp only [formB, Bool.and_eq_true] at h
  have h := h.2.2.2
  unfold ownB at h
  by_cases a : p.kind = 1 <;> by_cases b : p.kind = 2 <;> by_cases c : p.kind = 3 <;> by_cases d : p.kind = 4 <;> by_cases e : p.kind = 5 <;> by_cases f : p.kind = 6 <;> first
    | omega
    | (simp [a, b, c, d, e, f] at h; done)
theorem GoodD.gone {pre : List Deed} (h : GoodD pre) (n : Int) : mapHas (voidsV pre) [.int .i64 n] = goneB pre n 1000000 := by
  rw [h.voids]
  simp only [mapHas, List.any_map, List.any_filter, goneB]
  rw [Bool.eq_iff_iff, List.any_eq_true, List.any_eq_true]
  constructor
  · rintro ⟨q, hq, hb⟩
    refine ⟨q, hq, ?_⟩
    have hk := (formed_known (h.formed q hq)).2
    simp only [Function.comp, vrow, begins, sameV, decide_true, Bool.true_and, Bool.and_true, Bool.and_eq_true, beq_iff_eq, decide_eq_true_eq] at hb ⊢
    exact ⟨hb.1, hb.2.symm, hk⟩
  · rintro ⟨q, hq, hb⟩
    refine ⟨q, hq, ?_⟩
    simp only [Function.comp, vrow, begins, sameV, decide_true, Bool.true_and, Bool.and_true, Bool.and_eq_true, beq_iff_eq, decide_eq_true_eq] at hb ⊢
    exact ⟨hb.1, hb.2.1.symm⟩
theorem GoodD.gone_at {pre : List Deed} (h : GoodD pre) {n : Int} (hg : goneB pre n 1000000 = true) : mapAt (voidsV pre) [.int .i64 n] 1 = some (.bool true) := by
  have hh := h.gone n
  rw [hg] at hh
  unfold mapAt mapRow
  cases hf : (voidsV pre).find? (begins [.int .i64 n]) with
  | none =>
    rw [List.find?_eq_none] at hf
    simp only [mapHas, List.any_eq_true] at hh
    obtain ⟨r, hr, hb⟩ := hh
    exact absurd hb (hf r hr)
  | some r =>
    have hm := List.mem_of_find?_eq_some hf
    rw [h.voids] at hm
    obtain ⟨q, _, rfl⟩ := List.mem_map.1 hm
    rfl
theorem GoodD.at_ {pre : List Deed} (h : GoodD pre) {n : Int} (hg : (pre.any fun q => q.id == n) = true) : ∃ q ∈ pre, q.id = n ∧ mapAt (kindsV pre) [.int .i64 n] 1 = some (.int .u8 q.kind) := by
  have hh := h.has n
  rw [hg] at hh
  unfold mapAt mapRow
  cases hf : (kindsV pre).find? (begins [.int .i64 n]) with
  | none =>
    rw [List.find?_eq_none] at hf
    simp only [mapHas, List.any_eq_true] at hh
    obtain ⟨r, hr, hb⟩ := hh
    exact absurd hb (hf r hr)
  | some r =>
    have hm := List.mem_of_find?_eq_some hf
    have hb := List.find?_some hf
    rw [h.kinds] at hm
    obtain ⟨q, hq, rfl⟩ := List.mem_map.1 hm
    refine ⟨q, hq, ?_, rfl⟩
    simp only [krow, begins, sameV, decide_true, Bool.true_and, Bool.and_true, beq_iff_eq] at hb
    exact hb.symm
theorem lastD_snoc (l : List Deed) (p : Deed) : lastD (l ++ [p]) = p.known := by simp [lastD]
theorem kindsV_snoc (l : List Deed) (p : Deed) : kindsV (l ++ [p]) = putRow [.int .i64 p.id] (krow p) (kindsV l) := by simp [kindsV]
theorem voidsV_snoc (l : List Deed) (p : Deed) : voidsV (l ++ [p]) = if p.kind = 6 then putRow [.int .i64 p.of_] (vrow p.of_) (voidsV l) else voidsV l := by simp [voidsV]
theorem accepted {pre : List Deed} {p : Deed} (h : refusedD pre p = 0) : pre.length < 300 ∧ formB p = true ∧ (pre.any fun q => q.id == p.id) = false ∧ (p.kind = 6 → goneB pre p.of_ 1000000 = false) := by
  unfold refusedD at h
  cases h1 : decide (300 ≤ pre.length) <;> cases h2 : formB p <;> cases h3 : thereB pre p.id <;> cases h4 : (decide (0 < pre.length) && decide (p.known < lastD pre)) <;> cases h5 : badB pre p <;> cases h6 : (decide (p.kind = 6) && goneB pre p.of_ 1000000) <;>
    rw [h1, h2, h3, h4, h5, h6] at h <;> first
    | (cases h; done)
    | (refine ⟨by simpa using h1, rfl, h3, fun hk => ?_⟩
       rw [hk] at h6
       simpa using h6)
theorem GoodD.kind_at {pre : List Deed} (h : GoodD pre) {n : Int} (hg : (pre.any fun q => q.id == n) = true) : mapAt (kindsV pre) [.int .i64 n] 1 = some (.int .u8 (findR pre n).kind) := by
  obtain ⟨q, hq, hi, ha⟩ := h.at_ hg
  rw [ha]
  unfold findR
  cases hf : pre.find? (fun q => q.id == n) with
  | none =>
    rw [List.find?_eq_none] at hf
    exact absurd (by simpa using hi) (hf q hq)
  | some q' =>
    have h1 := List.find?_some hf
    have h2 := List.mem_of_find?_eq_some hf
    rw [h.uniq q hq q' h2 (by rw [hi]; simpa using (by simpa using h1 : q'.id = n).symm)]
    rfl
theorem upto_full {l : List Deed} (h : (checkD l).2 = 0) : uptoD l = l := if_pos h
theorem upto_part {l : List Deed} {i : Nat} (h : (checkD l).2 ≠ 0) (hi : (checkD l).1 = i) : uptoD l = l.take i := by rw [uptoD, if_neg h, hi]; rfl
theorem GoodD.snoc {pre : List Deed} (h : GoodD pre) {p : Deed} (hr : refusedD pre p = 0) : GoodD (pre ++ [p]) := by
  obtain ⟨_, h1, h2, h3⟩ := accepted hr
  refine ⟨?_, ?_, ?_, ?_⟩
  · rw [kindsV_snoc, putRow_new (by rw [h.has]; exact h2), h.kinds]; simp
  · rw [voidsV_snoc]
    by_cases hk : p.kind = 6
    · rw [if_pos hk, putRow_new (by rw [h.gone]; exact h3 hk), h.voids]
      simp [hk]
    · rw [if_neg hk, h.voids]
      simp [hk]
  · have hn : ∀ q ∈ pre, ¬ q.id = p.id := fun q hq e => by
      have : (pre.any fun q => q.id == p.id) = true := List.any_eq_true.2 ⟨q, hq, by simpa using e⟩
      rw [h2] at this; cases this
    intro q hq q' hq' e
    rcases List.mem_append.1 hq with hm | hm <;> rcases List.mem_append.1 hq' with hm' | hm'
    · exact h.uniq q hm q' hm' e
    · rw [List.mem_singleton] at hm'; rw [hm'] at e; exact absurd e (hn q hm)
    · rw [List.mem_singleton] at hm; rw [hm] at e; exact absurd e.symm (hn q' hm')
    · rw [List.mem_singleton] at hm hm'; rw [hm, hm']
  · intro q hq
    rcases List.mem_append.1 hq with hq | hq
    · exact h.formed q hq
    · rw [List.mem_singleton] at hq; rw [hq]; exact h1
end Go.Proofs.YtnahicnoofkfgaaGreatDoor.Zs
