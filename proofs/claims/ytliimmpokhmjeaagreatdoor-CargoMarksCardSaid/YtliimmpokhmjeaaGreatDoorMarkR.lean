/-
  Contracts of the reference's letter, Mark, Meet and Signs.
-/
import Derived.Test.YtliimmpokhmjeaaGreatDoorMarkB
namespace Go.Proofs.YtliimmpokhmjeaaGreatDoor
open Go.RowKit

set_option maxHeartbeats 400000 in
theorem refLetter_any (c : Int) (w : World) :
    Calls Tryz.prog 40 #[.int .u8 c] w fun e w' => e = .returned (.bool (letterB c || digitB c)) ∧ w = w' := by
  by_cases h1 : 97 ≤ c <;> by_cases h2 : c ≤ 122 <;> by_cases h3 : 48 ≤ c <;> by_cases h4 : c ≤ 57
  all_goals
    go_enter Tryz.func40, Tryz.ntmps40
    go_wp2
    all_goals go_ret
    all_goals exact ⟨by simp_all [letterB, digitB] <;> omega, rfl⟩

set_option maxHeartbeats 1000000 in
theorem refMark_any (s : ByteArray) (w : World) (hs : s.size ≤ maxLen) :
    Calls Tryz.prog 20 #[.string s] w fun e w' => e = .returned (.bool (markB s)) ∧ w = w' := by
  unfold maxLen at hs
  have key : withinB s.size 1 12 = (decide (0 < s.size) && decide (s.size ≤ 12)) := by
    have e1 : decide ((1 : Int) ≤ s.size) = decide (0 < s.size) := decide_eq_decide.2 (by omega)
    have e2 : decide ((s.size : Int) ≤ 12) = decide (s.size ≤ 12) := decide_eq_decide.2 (by omega)
    unfold withinB
    rw [e1, e2]
  by_cases h1 : 0 < s.size <;> by_cases h2 : s.size ≤ 12
  all_goals
    have HW := Lib.hid key
    clear key
    go_enter Tryz.func20, Tryz.ntmps20
    go_wp2_with fail
    go_loop [3, 4] (fun ok i => ∃ k : Nat, k ≤ s.size ∧ i = .int .i64 k ∧ ok = .bool (withinB s.size 1 12 && preB markSignB s k)) (fun _ i => s.size - (intOf i).toNat)
    case atStart => exact ⟨0, Nat.zero_le _, rfl, by rw [HW.out]; simp [h1, h2, preB] <;> omega⟩
    case round =>
      obtain ⟨k, hk, rfl, hall⟩ := hrel
      generalize hB : (withinB s.size 1 12 && preB markSignB s k) = B at hall
      have HB := Lib.hid hB
      clear hB
      obtain rfl := hall
      by_cases hlt : k < s.size
      · have hb := Lib.hid (byteAt_eq s k hlt)
        by_cases hp : (letterB (s[k]'hlt).toNat || digitB (s[k]'hlt).toNat) = true <;> by_cases hq : (((s[k]'hlt).toNat : Int) == 63) = true <;> cases B
        all_goals
          try simp only [Bool.not_eq_true] at hp hq
          have ST := Lib.hid (show (withinB s.size 1 12 && preB markSignB s (k + 1)) = _ by
            rw [preB, hb.out, ← Bool.and_assoc, HB.out, markSignB, hp, hq])
          go_wp2_with (go_at_call 40; refine (refLetter_any _ _).mono ?_; rintro e w' ⟨rfl, rfl⟩)
          go_round
          case rel => exact ⟨k + 1, by omega, by go_num, by rw [ST.out]; rfl⟩
          case measure => simp [intOf]; omega
      · have R := Lib.hid (show markB s = B by
          have e : s.size = k := by omega
          have HB2 := HB.out
          rw [← e] at HB2
          exact HB2)
        go_wp2_with fail
        go_ret
        exact ⟨ret_bool R.out.symm, rfl⟩

set_option maxHeartbeats 1000000 in
theorem refMeet_loop (a b : ByteArray) (w : World) (ha : a.size ≤ maxLen) (hb : b.size ≤ maxLen) (h1 : markB a = true) (h2 : markB b = true) (hz : a.size = b.size) :
    Calls Tryz.prog 6 #[.string a, .string b] w fun e w' => e = .returned (.bool (preMeet a b a.size)) ∧ ∃ n, w' = w.drewN n := by
  have ha' := ha
  unfold maxLen at ha'
  have HA := Lib.hid ha; have HB := Lib.hid hb; have HZ := Lib.hid hz; clear ha hb
  have hn : ((a.size : Int) != (b.size : Int)) = false := by rw [hz]; simp
  have hle : b.size ≤ a.size := by omega
  have hge : a.size ≤ b.size := by omega
  clear hz
  go_enter Tryz.func6, Tryz.ntmps6
  go_wp2_with (go_at_call 20; refine (refMark_any _ _ (by first | exact HA.out | exact HB.out)).mono ?_; rintro e w' ⟨rfl, rfl⟩)
  go_loopw [7] (fun i wr => ∃ k : Nat, k ≤ a.size ∧ i = .int .i64 k ∧ preMeet a b k = true ∧ ∃ n, wr = w.drewN n) (fun i _ => a.size - (intOf i).toNat)
  case atStart => exact ⟨0, Nat.zero_le _, rfl, rfl, 0, rfl⟩
  case round =>
    obtain ⟨k, hk, rfl, hall, n, rfl⟩ := hrel
    have HL := Lib.hid hall
    clear hall
    by_cases hlt : k < a.size
    · have hlt2 : k < b.size := by omega
      have step : signMeet (a[k]'hlt).toNat (b[k]'hlt2).toNat = true → preMeet a b (k + 1) = true := fun h => by
        simp only [preMeet]; rw [HL.out, byteAt_eq a k hlt, byteAt_eq b k hlt2, h]; rfl
      have fin : signMeet (a[k]'hlt).toNat (b[k]'hlt2).toNat = false → preMeet a b a.size = false := fun h => preMeet_false a b k _ hlt (by rw [byteAt_eq a k hlt, byteAt_eq b k hlt2]; exact h)
      have ST := Lib.hid step
      have FI := Lib.hid fin
      clear step fin
      by_cases q1 : (((a[k]'hlt).toNat : Int) != ((b[k]'hlt2).toNat : Int)) = true
      · by_cases q2 : (((a[k]'hlt).toNat : Int) != 63) = true
        · by_cases q3 : (((b[k]'hlt2).toNat : Int) != 63) = true
          · have fin : preMeet a b a.size = false := FI.out (by simp only [signMeet, bne_iff_ne, ne_eq] at q1 q2 q3 ⊢; simp [q1, q2, q3])
            have FI2 := Lib.hid fin
            clear fin
            go_wp2
            go_quiet (fail)
            go_wp2
            go_ret
            exact ⟨ret_bool FI2.out.symm, n + nq, drewN_add _ _ _⟩
          · simp only [Bool.not_eq_true] at q3
            have ST2 := Lib.hid (ST.out (by simp only [signMeet]; simp only [bne_eq_false_iff_eq] at q3; simp [q3]))
            go_wp2
            go_quiet (fail)
            go_wp2
            go_roundw
            case rel => exact ⟨k + 1, by omega, by go_num, ST2.out, _, rfl⟩
            case measure => simp [intOf]; omega
        · simp only [Bool.not_eq_true] at q2
          have ST2 := Lib.hid (ST.out (by simp only [signMeet]; simp only [bne_eq_false_iff_eq] at q2; simp [q2]))
          go_wp2
          go_quiet (fail)
          go_wp2
          go_roundw
          case rel => exact ⟨k + 1, by omega, by go_num, ST2.out, _, rfl⟩
          case measure => simp [intOf]; omega
      · simp only [Bool.not_eq_true] at q1
        have ST2 := Lib.hid (ST.out (by simp only [signMeet]; simp only [bne_eq_false_iff_eq] at q1; simp [q1]))
        go_wp2
        go_quiet (fail)
        go_wp2
        go_roundw
        case rel => exact ⟨k + 1, by omega, by go_num, ST2.out, _, rfl⟩
        case measure => simp [intOf]; omega
    · have fin : preMeet a b a.size = true := by rw [show a.size = k by omega]; exact HL.out
      have FI2 := Lib.hid fin
      clear fin
      go_wp2
      go_ret
      exact ⟨ret_bool FI2.out.symm, _, rfl⟩

set_option maxHeartbeats 1000000 in
theorem refMeet_any (a b : ByteArray) (w : World) (ha : a.size ≤ maxLen) (hb : b.size ≤ maxLen) :
    Calls Tryz.prog 6 #[.string a, .string b] w (DrewTo (.returned (.bool (meetB a b))) w) := by
  by_cases h1 : markB a = true
  · by_cases h2 : markB b = true
    · by_cases hz : a.size = b.size
      · exact (refMeet_loop a b w ha hb h1 h2 hz).mono fun e w' h => ⟨by rw [h.1]; exact ret_bool (by simp [meetB, h1, h2, hz]), h.2⟩
      · have HA := Lib.hid ha; have HB := Lib.hid hb; clear ha hb
        have hn : ((a.size : Int) != (b.size : Int)) = true := by rw [bne_iff_ne]; omega
        have R := Lib.hid (show meetB a b = false by simp [meetB, hz]); clear hz
        go_enter Tryz.func6, Tryz.ntmps6
        go_wp2_with (go_at_call 20; refine (refMark_any _ _ (by first | exact HA.out | exact HB.out)).mono ?_; rintro e w' ⟨rfl, rfl⟩)
        go_ret
        exact ⟨ret_bool R.out.symm, 0, rfl⟩
    · simp only [Bool.not_eq_true] at h2
      have HA := Lib.hid ha; have HB := Lib.hid hb; clear ha hb
      have R := Lib.hid (show meetB a b = false by simp [meetB, h2])
      go_enter Tryz.func6, Tryz.ntmps6
      go_wp2_with (go_at_call 20; refine (refMark_any _ _ (by first | exact HA.out | exact HB.out)).mono ?_; rintro e w' ⟨rfl, rfl⟩)
      go_ret
      exact ⟨ret_bool R.out.symm, 0, rfl⟩
  · simp only [Bool.not_eq_true] at h1
    have HA := Lib.hid ha; have HB := Lib.hid hb; clear ha hb
    have R := Lib.hid (show meetB a b = false by simp [meetB, h1])
    go_enter Tryz.func6, Tryz.ntmps6
    go_wp2_with (go_at_call 20; refine (refMark_any _ _ (by first | exact HA.out | exact HB.out)).mono ?_; rintro e w' ⟨rfl, rfl⟩)
    go_ret
    exact ⟨ret_bool R.out.symm, 0, rfl⟩

set_option maxHeartbeats 1000000 in
theorem refSigns_any (s : ByteArray) (w : World) (hs : s.size ≤ maxLen) :
    Calls Tryz.prog 8 #[.string s] w fun e w' => e = .returned (.int .i64 (signsI s)) ∧ w = w' := by
  have hs' := hs
  unfold maxLen at hs'
  have HS := Lib.hid hs; clear hs
  by_cases h1 : markB s = true
  · go_enter Tryz.func8, Tryz.ntmps8
    go_wp2_with (go_at_call 20; refine (refMark_any _ _ HS.out).mono ?_; rintro e w' ⟨rfl, rfl⟩)
    go_loop [4, 5] (fun n i => ∃ k : Nat, k ≤ s.size ∧ i = .int .i64 k ∧ n = .int .i64 (cntB s k)) (fun _ i => s.size - (intOf i).toNat)
    case atStart => exact ⟨0, Nat.zero_le _, rfl, rfl⟩
    case round =>
      obtain ⟨k, hk, rfl, rfl⟩ := hrel
      have hbd := cntB_bd s k
      by_cases hlt : k < s.size
      · have hb := Lib.hid (byteAt_eq s k hlt)
        by_cases q : (((s[k]'hlt).toNat : Int) != 63) = true
        · have ST := Lib.hid (show cntB s (k + 1) = cntB s k + 1 by simp only [cntB, hb.out]; simp only [bne_iff_ne, ne_eq] at q; simp [q])
          go_wp2
          go_round
          case rel => exact ⟨k + 1, by omega, by go_num, by rw [ST.out]⟩
          case measure => simp [intOf]; omega
        · simp only [Bool.not_eq_true] at q
          have ST := Lib.hid (show cntB s (k + 1) = cntB s k by simp only [cntB, hb.out]; simp only [bne_eq_false_iff_eq] at q; simp [q])
          go_wp2
          go_round
          case rel => exact ⟨k + 1, by omega, by go_num, by rw [ST.out]⟩
          case measure => simp [intOf]; omega
      · have R := Lib.hid (show signsI s = cntB s k by simp only [signsI, h1, if_true]; rw [show s.size = k by omega])
        go_wp2
        go_ret
        exact ⟨ret_int R.out.symm, rfl⟩
  · simp only [Bool.not_eq_true] at h1
    have R := Lib.hid (show signsI s = 0 by simp [signsI, h1])
    go_enter Tryz.func8, Tryz.ntmps8
    go_wp2_with (go_at_call 20; refine (refMark_any _ _ HS.out).mono ?_; rintro e w' ⟨rfl, rfl⟩)
    go_loop [4, 5] (fun n i => n = .int .i64 0 ∧ i = .int .i64 0) (fun _ _ => 0)
    case atStart => exact ⟨rfl, rfl⟩
    case round =>
      obtain ⟨rfl, rfl⟩ := hrel
      by_cases hlt : 0 < s.size
      all_goals
        go_wp2
        go_ret
        exact ⟨ret_int R.out.symm, rfl⟩

end Go.Proofs.YtliimmpokhmjeaaGreatDoor
