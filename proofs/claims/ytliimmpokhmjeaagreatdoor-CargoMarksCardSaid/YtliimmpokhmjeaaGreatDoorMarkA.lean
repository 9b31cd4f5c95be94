/-
  Contracts of the leaf functions of marks: within, isLetter, isDigit, the closures of isMark and isName, consistsOf, isMark, isName.
-/
import Derived.Test.YtliimmpokhmjeaaGreatDoorRows
import Derived.WalkKit
import Derived.WalkSpells
import Derived.WalkLawsBesides
import Derived.Deep.QuietTactic
import Derived.BigQuiet
import Derived.Lib.Hide
namespace Go.Proofs.YtliimmpokhmjeaaGreatDoor
open Go.RowKit

theorem ret_bool {a b : Bool} (h : a = b) : Ending.returned (.bool a) = .returned (.bool b) := by rw [h]
theorem ret_int {k : IntKind} {a b : Int} (h : a = b) : Ending.returned (.int k a) = .returned (.int k b) := by rw [h]

theorem bcell {W w1 : World} (hb : Below W.heap.size W w1) : (∀ b o, b < W.heap.size → w1.cell? ⟨b, o, none⟩ = W.cell? ⟨b, o, none⟩) ∧ (∀ b o, b < W.heap.size → w1.frozen? ⟨b, o, none⟩ = W.frozen? ⟨b, o, none⟩) :=
  ⟨fun b o h => hb.cell (p := ⟨b, o, none⟩) h, fun b o h => hb.frozen (p := ⟨b, o, none⟩) h⟩

def withinB (n low high : Int) : Bool := decide (low ≤ n) && decide (n ≤ high)

set_option maxHeartbeats 400000 in
theorem within_any (n low high : Int) (w : World) :
    Calls Tryz.prog 35 #[.int .i64 n, .int .i64 low, .int .i64 high] w fun e w' => e = .returned (.bool (withinB n low high)) ∧ w = w' := by
  by_cases h1 : low ≤ n
  · go_enter Tryz.func35, Tryz.ntmps35
    go_wp2
    all_goals go_ret
    all_goals exact ⟨by simp_all [withinB], rfl⟩
  · go_enter Tryz.func35, Tryz.ntmps35
    go_wp2
    all_goals go_ret
    all_goals exact ⟨by simp_all [withinB]; omega, rfl⟩

def letterB (c : Int) : Bool := decide (97 ≤ c) && decide (c ≤ 122)
def digitB (c : Int) : Bool := decide (48 ≤ c) && decide (c ≤ 57)
def markSignB (c : Int) : Bool := letterB c || digitB c || (c == 63)
def nameSignB (c : Int) : Bool := letterB c || digitB c || (c == 45)

set_option maxHeartbeats 400000 in
theorem isLetter_any (c : Int) (w : World) :
    Calls Tryz.prog 38 #[.int .u8 c] w fun e w' => e = .returned (.bool (letterB c)) ∧ w = w' := by
  by_cases h1 : 97 ≤ c
  · go_enter Tryz.func38, Tryz.ntmps38
    go_wp2
    all_goals go_ret
    all_goals exact ⟨by simp_all [letterB], rfl⟩
  · go_enter Tryz.func38, Tryz.ntmps38
    go_wp2
    all_goals go_ret
    all_goals exact ⟨by simp_all [letterB]; omega, rfl⟩

set_option maxHeartbeats 400000 in
theorem isDigit_any (c : Int) (w : World) :
    Calls Tryz.prog 39 #[.int .u8 c] w fun e w' => e = .returned (.bool (digitB c)) ∧ w = w' := by
  by_cases h1 : 48 ≤ c
  · go_enter Tryz.func39, Tryz.ntmps39
    go_wp2
    all_goals go_ret
    all_goals exact ⟨by simp_all [digitB], rfl⟩
  · go_enter Tryz.func39, Tryz.ntmps39
    go_wp2
    all_goals go_ret
    all_goals exact ⟨by simp_all [digitB]; omega, rfl⟩

set_option maxHeartbeats 400000 in
theorem markSign_any (c : Int) (w : World) :
    Calls Tryz.prog 37 #[.int .u8 c] w fun e w' => e = .returned (.bool (markSignB c)) ∧ w = w' := by
  by_cases h1 : letterB c = true <;> by_cases h2 : digitB c = true
  all_goals
    try simp only [Bool.not_eq_true] at h1 h2
    go_enter Tryz.func37, Tryz.ntmps37
    go_wp2_with (first | (go_at_call 38; refine (isLetter_any _ _).mono ?_; rintro e w' ⟨rfl, rfl⟩) | (go_at_call 39; refine (isDigit_any _ _).mono ?_; rintro e w' ⟨rfl, rfl⟩))
    all_goals go_ret
    all_goals exact ⟨by simp_all [markSignB], rfl⟩

set_option maxHeartbeats 400000 in
theorem nameSign_any (c : Int) (w : World) :
    Calls Tryz.prog 121 #[.int .u8 c] w fun e w' => e = .returned (.bool (nameSignB c)) ∧ w = w' := by
  by_cases h1 : letterB c = true <;> by_cases h2 : digitB c = true
  all_goals
    try simp only [Bool.not_eq_true] at h1 h2
    go_enter Tryz.func121, Tryz.ntmps121
    go_wp2_with (first | (go_at_call 38; refine (isLetter_any _ _).mono ?_; rintro e w' ⟨rfl, rfl⟩) | (go_at_call 39; refine (isDigit_any _ _).mono ?_; rintro e w' ⟨rfl, rfl⟩))
    all_goals go_ret
    all_goals exact ⟨by simp_all [nameSignB], rfl⟩

/-- The byte at a place. -/
def byteAt (s : ByteArray) (j : Nat) : Int := ((s.data[j]?.getD 0).toNat : Int)
theorem byteAt_eq (s : ByteArray) (j : Nat) (h : j < s.size) : byteAt s j = ((s[j]'h).toNat : Int) := by
  have h' : j < s.data.size := h
  unfold byteAt
  rw [Array.getElem?_eq_getElem h']
  rfl
/-- The first k bytes of a string satisfy a test. -/
def preB (p : Int → Bool) (s : ByteArray) : Nat → Bool
  | 0 => true
  | k + 1 => preB p s k && p (byteAt s k)
def allB (p : Int → Bool) (s : ByteArray) : Bool := preB p s s.size
theorem preB_false (p : Int → Bool) (s : ByteArray) (k n : Nat) (h : k < n) (hp : p (byteAt s k) = false) : preB p s n = false := by
  induction n with
  | zero => omega
  | succ n ih =>
    simp only [preB]
    by_cases e : k = n
    · subst e; simp [hp]
    · rw [ih (by omega)]; rfl

set_option maxHeartbeats 400000 in
theorem consistsMark_any (s : ByteArray) (w : World) (hs : s.size ≤ maxLen) :
    Calls Tryz.prog 36 #[.string s, .func (.func 37) #[] #[]] w fun e w' => e = .returned (.bool (allB markSignB s)) ∧ w = w' := by
  unfold maxLen at hs
  go_enter Tryz.func36, Tryz.ntmps36
  go_wp2_with fail
  go_loop [8] (fun i => ∃ k : Nat, k ≤ s.size ∧ i = .int .i64 k ∧ preB markSignB s k = true) (fun i => s.size - (intOf i).toNat)
  case atStart => exact ⟨0, Nat.zero_le _, rfl, rfl⟩
  case round =>
    obtain ⟨k, hk, rfl, hall⟩ := hrel
    have HA := Lib.hid hall
    clear hall
    by_cases hlt : k < s.size
    · have hb := Lib.hid (byteAt_eq s k hlt)
      by_cases hp : markSignB (s[k]'hlt).toNat = true
      · go_wp2_with (go_at_call 37; refine (markSign_any _ _).mono ?_; rintro e w' ⟨rfl, rfl⟩)
        go_round
        case rel => exact ⟨k + 1, by omega, by go_num, by simp only [preB, HA.out, hb.out, hp, Bool.and_self]⟩
        case measure => simp [intOf]; omega
      · simp only [Bool.not_eq_true] at hp
        go_wp2_with (go_at_call 37; refine (markSign_any _ _).mono ?_; rintro e w' ⟨rfl, rfl⟩)
        go_ret
        exact ⟨ret_bool (preB_false _ _ k _ hlt (by rw [hb.out]; exact hp)).symm, rfl⟩
    · go_wp2_with fail
      go_ret
      exact ⟨ret_bool (by rw [allB, show s.size = k by omega]; exact HA.out.symm), rfl⟩

set_option maxHeartbeats 400000 in
theorem consistsName_any (s : ByteArray) (w : World) (hs : s.size ≤ maxLen) :
    Calls Tryz.prog 36 #[.string s, .func (.func 121) #[] #[]] w fun e w' => e = .returned (.bool (allB nameSignB s)) ∧ w = w' := by
  unfold maxLen at hs
  go_enter Tryz.func36, Tryz.ntmps36
  go_wp2_with fail
  go_loop [8] (fun i => ∃ k : Nat, k ≤ s.size ∧ i = .int .i64 k ∧ preB nameSignB s k = true) (fun i => s.size - (intOf i).toNat)
  case atStart => exact ⟨0, Nat.zero_le _, rfl, rfl⟩
  case round =>
    obtain ⟨k, hk, rfl, hall⟩ := hrel
    have HA := Lib.hid hall
    clear hall
    by_cases hlt : k < s.size
    · have hb := Lib.hid (byteAt_eq s k hlt)
      by_cases hp : nameSignB (s[k]'hlt).toNat = true
      · go_wp2_with (go_at_call 121; refine (nameSign_any _ _).mono ?_; rintro e w' ⟨rfl, rfl⟩)
        go_round
        case rel => exact ⟨k + 1, by omega, by go_num, by simp only [preB, HA.out, hb.out, hp, Bool.and_self]⟩
        case measure => simp [intOf]; omega
      · simp only [Bool.not_eq_true] at hp
        go_wp2_with (go_at_call 121; refine (nameSign_any _ _).mono ?_; rintro e w' ⟨rfl, rfl⟩)
        go_ret
        exact ⟨ret_bool (preB_false _ _ k _ hlt (by rw [hb.out]; exact hp)).symm, rfl⟩
    · go_wp2_with fail
      go_ret
      exact ⟨ret_bool (by rw [allB, show s.size = k by omega]; exact HA.out.symm), rfl⟩

def markB (s : ByteArray) : Bool := withinB s.size 1 12 && allB markSignB s
def headB (s : ByteArray) : Bool := letterB (byteAt s 0)
def nameB (s : ByteArray) : Bool := withinB s.size 1 24 && headB s && allB nameSignB s

set_option maxHeartbeats 400000 in
theorem isMark_any (s : ByteArray) (w : World) (hs : s.size ≤ maxLen) :
    Calls Tryz.prog 19 #[.string s] w fun e w' => e = .returned (.bool (markB s)) ∧ w = w' := by
  have hs' := hs
  unfold maxLen at hs'
  have HS := Lib.hid hs; clear hs
  by_cases h1 : withinB s.size 1 12 = true
  all_goals
    try simp only [Bool.not_eq_true] at h1
    go_enter Tryz.func19, Tryz.ntmps19
    go_wp2_with (first | (go_at_call 35; refine (within_any _ _ _ _).mono ?_; rintro e w' ⟨rfl, rfl⟩) | (go_at_call 36; refine (consistsMark_any _ _ HS.out).mono ?_; rintro e w' ⟨rfl, rfl⟩))
    go_ret
    exact ⟨ret_bool (by simp [markB, h1]), rfl⟩

end Go.Proofs.YtliimmpokhmjeaaGreatDoor
