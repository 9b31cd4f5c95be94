/-
  Contracts of isName, Meet and Signs, and of the reference's Mark, Name, letter, Within, Meet, Signs.
-/
import Derived.Test.YtliimmpokhmjeaaGreatDoorMarkA
namespace Go.Proofs.YtliimmpokhmjeaaGreatDoor
open Go.RowKit

set_option maxHeartbeats 400000 in
theorem isName_any (s : ByteArray) (w : World) (hs : s.size ≤ maxLen) :
    Calls Tryz.prog 99 #[.string s] w fun e w' => e = .returned (.bool (nameB s)) ∧ w = w' := by
  have hs' := hs
  unfold maxLen at hs'
  have HS := Lib.hid hs; clear hs
  by_cases h1 : withinB s.size 1 24 = true
  · have h0 : 0 < s.size := by simp [withinB] at h1; omega
    have HH := Lib.hid (show headB s = letterB (s[0]'h0).toNat by unfold headB; rw [byteAt_eq s 0 h0])
    by_cases h2 : letterB (s[0]'h0).toNat = true
    all_goals
      try simp only [Bool.not_eq_true] at h2
      go_enter Tryz.func99, Tryz.ntmps99
      go_wp2_with (first | (go_at_call 35; refine (within_any _ _ _ _).mono ?_; rintro e w' ⟨rfl, rfl⟩) | (go_at_call 38; refine (isLetter_any _ _).mono ?_; rintro e w' ⟨rfl, rfl⟩) | (go_at_call 36; refine (consistsName_any _ _ HS.out).mono ?_; rintro e w' ⟨rfl, rfl⟩))
      go_ret
      exact ⟨ret_bool (by rw [nameB, HH.out]; simp [h1, h2]), rfl⟩
  · simp only [Bool.not_eq_true] at h1
    go_enter Tryz.func99, Tryz.ntmps99
    go_wp2_with (first | (go_at_call 35; refine (within_any _ _ _ _).mono ?_; rintro e w' ⟨rfl, rfl⟩))
    go_ret
    exact ⟨ret_bool (by simp [nameB, h1]), rfl⟩

def signMeet (x y : Int) : Bool := x == y || x == 63 || y == 63
def preMeet (a b : ByteArray) : Nat → Bool
  | 0 => true
  | k + 1 => preMeet a b k && signMeet (byteAt a k) (byteAt b k)
def meetB (a b : ByteArray) : Bool := markB a && markB b && a.size == b.size && preMeet a b a.size
theorem preMeet_false (a b : ByteArray) (k n : Nat) (h : k < n) (hp : signMeet (byteAt a k) (byteAt b k) = false) : preMeet a b n = false := by
  induction n with
  | zero => omega
  | succ n ih =>
    simp only [preMeet]
    by_cases e : k = n
    · subst e; simp [hp]
    · rw [ih (by omega)]; rfl

theorem drewN_add (w : World) (n m : Nat) : (w.drewN n).drewN m = w.drewN (n + m) := by
  simp [World.drewN, Nat.add_assoc]

set_option maxHeartbeats 1000000 in
theorem meet_loop (a b : ByteArray) (w : World) (ha : a.size ≤ maxLen) (hb : b.size ≤ maxLen) (h1 : markB a = true) (h2 : markB b = true) (hz : a.size = b.size) :
    Calls Tryz.prog 5 #[.string a, .string b] w fun e w' => e = .returned (.bool (preMeet a b a.size)) ∧ ∃ n, w' = w.drewN n := by
  have ha' := ha
  unfold maxLen at ha'
  have HA := Lib.hid ha; have HB := Lib.hid hb; have HZ := Lib.hid hz; clear ha hb
  have hn : ((a.size : Int) != (b.size : Int)) = false := by rw [hz]; simp
  have hle : b.size ≤ a.size := by omega
  have hge : a.size ≤ b.size := by omega
  clear hz
  go_enter Tryz.func5, Tryz.ntmps5
  go_wp2_with (go_at_call 19; refine (isMark_any _ _ (by first | exact HA.out | exact HB.out)).mono ?_; rintro e w' ⟨rfl, rfl⟩)
  go_loopw [23] (fun i wr => ∃ k : Nat, k ≤ a.size ∧ i = .int .i64 k ∧ preMeet a b k = true ∧ ∃ n, wr = w.drewN n) (fun i _ => a.size - (intOf i).toNat)
  case atStart => exact ⟨0, Nat.zero_le _, rfl, rfl, 0, rfl⟩
  case round =>
    obtain ⟨k, hk, rfl, hall, n, rfl⟩ := hrel
    have HL := Lib.hid hall
    clear hall
    by_cases hlt : k < a.size
    · have hlt2 : k < b.size := by omega
      have step : signMeet (a[k]'hlt).toNat (b[k]'hlt2).toNat = true → preMeet a b (k + 1) = true := fun h => by
        simp only [preMeet]; rw [HL.out, byteAt_eq a k hlt, byteAt_eq b k hlt2, h]; rfl
      have fin : signMeet (a[k]'hlt).toNat (b[k]'hlt2).toNat = false → preMeet a b a.size = false := fun h => preMeet_false a b k _ hlt (by rw [byteAt_eq a k hlt, byteAt_eq b k hlt2]; exact h)
      have ST := Lib.hid step
      have FI := Lib.hid fin
      clear step fin
      by_cases q1 : (((a[k]'hlt).toNat : Int) != ((b[k]'hlt2).toNat : Int)) = true
      · by_cases q2 : (((a[k]'hlt).toNat : Int) != 63) = true
        · by_cases q3 : (((b[k]'hlt2).toNat : Int) != 63) = true
          · have fin : preMeet a b a.size = false := FI.out (by simp only [signMeet, bne_iff_ne, ne_eq] at q1 q2 q3 ⊢; simp [q1, q2, q3])
            have FI2 := Lib.hid fin
            clear fin
            go_wp2
            go_quiet (fail)
            go_wp2
            go_ret
            exact ⟨ret_bool FI2.out.symm, n + nq, drewN_add _ _ _⟩
          · simp only [Bool.not_eq_true] at q3
            have ST2 := Lib.hid (ST.out (by simp only [signMeet]; simp only [bne_eq_false_iff_eq] at q3; simp [q3]))
            go_wp2
            go_quiet (fail)
            go_wp2
            go_roundw
            case rel => exact ⟨k + 1, by omega, by go_num, ST2.out, _, rfl⟩
            case measure => simp [intOf]; omega
        · simp only [Bool.not_eq_true] at q2
          have ST2 := Lib.hid (ST.out (by simp only [signMeet]; simp only [bne_eq_false_iff_eq] at q2; simp [q2]))
          go_wp2
          go_quiet (fail)
          go_wp2
          go_roundw
          case rel => exact ⟨k + 1, by omega, by go_num, ST2.out, _, rfl⟩
          case measure => simp [intOf]; omega
      · simp only [Bool.not_eq_true] at q1
        have ST2 := Lib.hid (ST.out (by simp only [signMeet]; simp only [bne_eq_false_iff_eq] at q1; simp [q1]))
        go_wp2
        go_quiet (fail)
        go_wp2
        go_roundw
        case rel => exact ⟨k + 1, by omega, by go_num, ST2.out, _, rfl⟩
        case measure => simp [intOf]; omega
    · have fin : preMeet a b a.size = true := by rw [show a.size = k by omega]; exact HL.out
      have FI2 := Lib.hid fin
      clear fin
      go_wp2
      go_ret
      exact ⟨ret_bool FI2.out.symm, _, rfl⟩

def DrewTo (r : Ending) (w : World) (e : Ending) (w' : World) : Prop := e = r ∧ ∃ n, w' = w.drewN n

set_option maxHeartbeats 1000000 in
theorem meet_any (a b : ByteArray) (w : World) (ha : a.size ≤ maxLen) (hb : b.size ≤ maxLen) :
    Calls Tryz.prog 5 #[.string a, .string b] w (DrewTo (.returned (.bool (meetB a b))) w) := by
  by_cases h1 : markB a = true
  · by_cases h2 : markB b = true
    · by_cases hz : a.size = b.size
      · exact (meet_loop a b w ha hb h1 h2 hz).mono fun e w' h => ⟨by rw [h.1]; exact ret_bool (by simp [meetB, h1, h2, hz]), h.2⟩
      · have HA := Lib.hid ha; have HB := Lib.hid hb; clear ha hb
        have hn : ((a.size : Int) != (b.size : Int)) = true := by rw [bne_iff_ne]; omega
        have R := Lib.hid (show meetB a b = false by simp [meetB, hz]); clear hz
        go_enter Tryz.func5, Tryz.ntmps5
        go_wp2_with (go_at_call 19; refine (isMark_any _ _ (by first | exact HA.out | exact HB.out)).mono ?_; rintro e w' ⟨rfl, rfl⟩)
        go_ret
        exact ⟨ret_bool R.out.symm, 0, rfl⟩
    · simp only [Bool.not_eq_true] at h2
      have HA := Lib.hid ha; have HB := Lib.hid hb; clear ha hb
      have R := Lib.hid (show meetB a b = false by simp [meetB, h2])
      go_enter Tryz.func5, Tryz.ntmps5
      go_wp2_with (go_at_call 19; refine (isMark_any _ _ (by first | exact HA.out | exact HB.out)).mono ?_; rintro e w' ⟨rfl, rfl⟩)
      go_ret
      exact ⟨ret_bool R.out.symm, 0, rfl⟩
  · simp only [Bool.not_eq_true] at h1
    have HA := Lib.hid ha; clear ha hb
    have R := Lib.hid (show meetB a b = false by simp [meetB, h1])
    go_enter Tryz.func5, Tryz.ntmps5
    go_wp2_with (go_at_call 19; refine (isMark_any _ _ HA.out).mono ?_; rintro e w' ⟨rfl, rfl⟩)
    go_ret
    exact ⟨ret_bool R.out.symm, 0, rfl⟩

def cntB (s : ByteArray) : Nat → Int
  | 0 => 0
  | k + 1 => cntB s k + if byteAt s k == 63 then 0 else 1
def signsI (s : ByteArray) : Int := if markB s then cntB s s.size else 0
theorem cntB_bd (s : ByteArray) (k : Nat) : 0 ≤ cntB s k ∧ cntB s k ≤ k := by
  induction k with
  | zero => simp [cntB]
  | succ k ih => simp only [cntB]; split <;> omega

set_option maxHeartbeats 1000000 in
theorem signs_any (s : ByteArray) (w : World) (hs : s.size ≤ maxLen) :
    Calls Tryz.prog 7 #[.string s] w fun e w' => e = .returned (.int .i64 (signsI s)) ∧ w = w' := by
  have hs' := hs
  unfold maxLen at hs'
  have HS := Lib.hid hs; clear hs
  by_cases h1 : markB s = true
  · go_enter Tryz.func7, Tryz.ntmps7
    go_wp2_with (go_at_call 19; refine (isMark_any _ _ HS.out).mono ?_; rintro e w' ⟨rfl, rfl⟩)
    go_loop [3, 10] (fun n i => ∃ k : Nat, k ≤ s.size ∧ i = .int .i64 k ∧ n = .int .i64 (cntB s k)) (fun _ i => s.size - (intOf i).toNat)
    case atStart => exact ⟨0, Nat.zero_le _, rfl, rfl⟩
    case round =>
      obtain ⟨k, hk, rfl, rfl⟩ := hrel
      have hbd := cntB_bd s k
      by_cases hlt : k < s.size
      · have hb := Lib.hid (byteAt_eq s k hlt)
        by_cases q : (((s[k]'hlt).toNat : Int) != 63) = true
        · have ST := Lib.hid (show cntB s (k + 1) = cntB s k + 1 by simp only [cntB, hb.out]; simp only [bne_iff_ne, ne_eq] at q; simp [q])
          go_wp2
          go_round
          case rel => exact ⟨k + 1, by omega, by go_num, by rw [ST.out]⟩
          case measure => simp [intOf]; omega
        · simp only [Bool.not_eq_true] at q
          have ST := Lib.hid (show cntB s (k + 1) = cntB s k by simp only [cntB, hb.out]; simp only [bne_eq_false_iff_eq] at q; simp [q])
          go_wp2
          go_round
          case rel => exact ⟨k + 1, by omega, by go_num, by rw [ST.out]⟩
          case measure => simp [intOf]; omega
      · have R := Lib.hid (show signsI s = cntB s k by simp only [signsI, h1, if_true]; rw [show s.size = k by omega])
        go_wp2
        go_ret
        exact ⟨ret_int R.out.symm, rfl⟩
  · simp only [Bool.not_eq_true] at h1
    go_enter Tryz.func7, Tryz.ntmps7
    go_wp2_with (go_at_call 19; refine (isMark_any _ _ HS.out).mono ?_; rintro e w' ⟨rfl, rfl⟩)
    go_ret
    exact ⟨ret_int (by simp [signsI, h1]), rfl⟩

end Go.Proofs.YtliimmpokhmjeaaGreatDoor
