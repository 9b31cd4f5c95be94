/-
  The law CargoMarks: what it answers.
-/
import Derived.Test.YtliimmpokhmjeaaGreatDoorMarkR
import Derived.Test.YtliimmpokhmjeaaGreatDoorZevB
namespace Go.Proofs.YtliimmpokhmjeaaGreatDoor
open Go.RowKit

theorem signMeet_comm (x y : Int) : signMeet x y = signMeet y x := by
  unfold signMeet
  rw [show (x == y) = (y == x) from Bool.eq_iff_iff.2 (by rw [beq_iff_eq, beq_iff_eq]; exact eq_comm)]
  cases (y == x) <;> cases (x == 63) <;> cases (y == 63) <;> rfl
theorem preMeet_comm (a b : ByteArray) (k : Nat) : preMeet a b k = preMeet b a k := by
  induction k with
  | zero => rfl
  | succ k ih => rw [preMeet, preMeet, ih, signMeet_comm]
theorem preMeet_self (a : ByteArray) (k : Nat) : preMeet a a k = true := by
  induction k with
  | zero => rfl
  | succ k ih => simp [preMeet, ih, signMeet]
theorem meetB_comm (a b : ByteArray) : meetB b a = meetB a b := by
  unfold meetB
  by_cases h : a.size = b.size
  · rw [preMeet_comm b a, h, Bool.and_comm (markB b) (markB a)]
  · have h1 : (a.size == b.size) = false := by simpa using h
    have h2 : (b.size == a.size) = false := by simpa using fun e => h e.symm
    rw [h1, h2]; simp
theorem meetB_self (a : ByteArray) : meetB a a = markB a := by simp [meetB, preMeet_self]
theorem signsI_bd (s : ByteArray) : 0 ≤ signsI s ∧ signsI s ≤ s.size := by
  unfold signsI
  split
  · exact cntB_bd s s.size
  · omega
theorem meetB_facts {a b : ByteArray} (h : meetB a b = true) : meetB a a = true ∧ signsI b ≤ a.size := by
  simp only [meetB, Bool.and_eq_true, beq_iff_eq] at h
  rw [meetB_self]
  have := (signsI_bd b).2
  exact ⟨h.1.1.1, by omega⟩
theorem signs_mark {a : ByteArray} (h : signsI a ≠ 0) : meetB a a = true := by
  rw [meetB_self]
  cases hm : markB a with
  | true => rfl
  | false => exact absurd (by simp [signsI, hm]) h

abbrev Ends1 (w : World) (e : Ending) (w' : World) : Prop := e = .returned (.bool true) ∧ Zev.Kept (fun b => w.heap.size ≤ b) w w'
/-- What is asked of the example function. -/
def AliveSays (P : Program) (k : FuncId) (f : World → Prop) : Prop := ∀ w, f w → Calls P k #[] w (Ends1 w)
def HeapOnly (f : World → Prop) : Prop := ∀ w w2 : World, w2.heap = w.heap → f w → f w2

set_option maxHeartbeats 2000000 in
theorem law_long {f : World → Prop} (hal : AliveSays Tryz.prog 4 f) (a b : ByteArray) (w : World) (h0 : f w) (h : 100 < a.size ∨ 100 < b.size) (la : a.size ≤ maxLen) (lb : b.size ≤ maxLen) :
    Calls Tryz.prog 3 #[.string a, .string b] w (Ends1 w) := by
  unfold maxLen at la lb
  have H0 := Lib.hid h0
  have HAL := Lib.hid (hal w h0)
  clear h0 hal
  by_cases h1 : 100 < a.size
  · clear h
    go_enter Tryz.func3, Tryz.ntmps3
    go_wp2_with (go_at_call 4; refine HAL.out.mono ?_; rintro e w' ⟨rfl, hk⟩; have HK := Lib.hid hk; clear hk)
    go_ret
    exact ⟨rfl, HK.out⟩
  · have h2 : 100 < b.size := by omega
    clear h
    go_enter Tryz.func3, Tryz.ntmps3
    go_wp2_with (go_at_call 4; refine HAL.out.mono ?_; rintro e w' ⟨rfl, hk⟩; have HK := Lib.hid hk; clear hk)
    go_ret
    exact ⟨rfl, HK.out⟩

set_option maxHeartbeats 4000000 in
theorem law_walk {f : World → Prop} (hal : AliveSays Tryz.prog 4 f) (hdr : HeapOnly f) (a b : ByteArray) (w : World) (h0 : f w) (ha : a.size ≤ 100) (hb : b.size ≤ 100)
    (m maa : Bool) (s t : Int) (hm : meetB a b = m) (hba : meetB b a = m) (haa : meetB a a = maa) (hs : signsI a = s) (ht : signsI b = t) (hsa : 0 ≤ s ∧ s ≤ a.size) (h1 : m = true → maa = true ∧ t ≤ a.size) (h2 : s ≠ 0 → maa = true) :
    Calls Tryz.prog 3 #[.string a, .string b] w (Ends1 w) := by
  have la : a.size ≤ maxLen := by unfold maxLen; omega
  have lb : b.size ≤ maxLen := by unfold maxLen; omega
  have ha1 : ¬ (100 < a.size) := by omega
  have hb1 : ¬ (100 < b.size) := by omega
  have M1 := Lib.hid (show ∀ w, Calls Tryz.prog 5 #[.string a, .string b] w (DrewTo (.returned (.bool m)) w) from fun w => hm ▸ meet_any a b w la lb)
  have M2 := Lib.hid (show ∀ w, Calls Tryz.prog 5 #[.string b, .string a] w (DrewTo (.returned (.bool m)) w) from fun w => hba ▸ meet_any b a w lb la)
  have M3 := Lib.hid (show ∀ w, Calls Tryz.prog 5 #[.string a, .string a] w (DrewTo (.returned (.bool maa)) w) from fun w => haa ▸ meet_any a a w la la)
  have M4 := Lib.hid (show ∀ w, Calls Tryz.prog 6 #[.string a, .string b] w (DrewTo (.returned (.bool m)) w) from fun w => hm ▸ refMeet_any a b w la lb)
  have N1 := Lib.hid (show ∀ w, Calls Tryz.prog 7 #[.string a] w (fun e w' => e = .returned (.int .i64 s) ∧ w = w') from fun w => hs ▸ signs_any a w la)
  have N2 := Lib.hid (show ∀ w, Calls Tryz.prog 7 #[.string b] w (fun e w' => e = .returned (.int .i64 t) ∧ w = w') from fun w => ht ▸ signs_any b w lb)
  have N3 := Lib.hid (show ∀ w, Calls Tryz.prog 8 #[.string a] w (fun e w' => e = .returned (.int .i64 s) ∧ w = w') from fun w => hs ▸ refSigns_any a w la)
  have AL := Lib.hid (show ∀ n : Nat, Calls Tryz.prog 4 #[] (w.drewN n) (Ends1 w) from fun n =>
    (hal (w.drewN n) (hdr w (w.drewN n) rfl h0)).mono fun e w' he => ⟨he.1, he.2.size, he.2.same, he.2.out⟩)
  have H0 := Lib.hid h0
  obtain ⟨s1, s2⟩ := hsa
  clear hal hdr hm hba haa hs ht la lb h0
  have s3 : (s ≤ (a.size : Int)) = True := eq_true s2
  cases m with
  | true =>
    obtain ⟨rfl, h3⟩ := h1 rfl
    clear h2
    by_cases e1 : s = (a.size : Int)
    · have e2 : ¬ (s < t) := by omega
      have e1' : (s == (a.size : Int)) = true := by simpa using e1
      by_cases e3 : s = 0
      all_goals
        go_enter Tryz.func3, Tryz.ntmps3
        go_wp2_with (first
          | (go_at_call 5; first | ((with_reducible refine (M1.out _).mono ?_); rintro e w' ⟨rfl, n, rfl⟩) | ((with_reducible refine (M2.out _).mono ?_); rintro e w' ⟨rfl, n, rfl⟩) | ((with_reducible refine (M3.out _).mono ?_); rintro e w' ⟨rfl, n, rfl⟩))
          | (go_at_call 6; refine (M4.out _).mono ?_; rintro e w' ⟨rfl, n, rfl⟩)
          | (go_at_call 7; first | ((with_reducible refine (N1.out _).mono ?_); rintro e w' ⟨rfl, rfl⟩) | ((with_reducible refine (N2.out _).mono ?_); rintro e w' ⟨rfl, rfl⟩))
          | (go_at_call 8; refine (N3.out _).mono ?_; rintro e w' ⟨rfl, rfl⟩)
          | (go_at_call 4; (refine (AL.out _).mono ?_; rintro e w' ⟨rfl, hk⟩; have HK := Lib.hid hk; clear hk)))
        all_goals (go_ret; exact ⟨rfl, HK.out.size, HK.out.same, HK.out.out⟩)
    · have e1' : (s == (a.size : Int)) = false := by simpa using e1
      by_cases e3 : s = 0
      all_goals
        go_enter Tryz.func3, Tryz.ntmps3
        go_wp2_with (first
          | (go_at_call 5; first | ((with_reducible refine (M1.out _).mono ?_); rintro e w' ⟨rfl, n, rfl⟩) | ((with_reducible refine (M2.out _).mono ?_); rintro e w' ⟨rfl, n, rfl⟩) | ((with_reducible refine (M3.out _).mono ?_); rintro e w' ⟨rfl, n, rfl⟩))
          | (go_at_call 6; refine (M4.out _).mono ?_; rintro e w' ⟨rfl, n, rfl⟩)
          | (go_at_call 7; first | ((with_reducible refine (N1.out _).mono ?_); rintro e w' ⟨rfl, rfl⟩) | ((with_reducible refine (N2.out _).mono ?_); rintro e w' ⟨rfl, rfl⟩))
          | (go_at_call 8; refine (N3.out _).mono ?_; rintro e w' ⟨rfl, rfl⟩)
          | (go_at_call 4; (refine (AL.out _).mono ?_; rintro e w' ⟨rfl, hk⟩; have HK := Lib.hid hk; clear hk)))
        all_goals (go_ret; exact ⟨rfl, HK.out.size, HK.out.same, HK.out.out⟩)
  | false =>
    clear h1
    by_cases e3 : s = 0
    · clear h2
      go_enter Tryz.func3, Tryz.ntmps3
      go_wp2_with (first
        | (go_at_call 5; first | ((with_reducible refine (M1.out _).mono ?_); rintro e w' ⟨rfl, n, rfl⟩) | ((with_reducible refine (M2.out _).mono ?_); rintro e w' ⟨rfl, n, rfl⟩) | ((with_reducible refine (M3.out _).mono ?_); rintro e w' ⟨rfl, n, rfl⟩))
        | (go_at_call 6; refine (M4.out _).mono ?_; rintro e w' ⟨rfl, n, rfl⟩)
        | (go_at_call 7; first | ((with_reducible refine (N1.out _).mono ?_); rintro e w' ⟨rfl, rfl⟩) | ((with_reducible refine (N2.out _).mono ?_); rintro e w' ⟨rfl, rfl⟩))
        | (go_at_call 8; refine (N3.out _).mono ?_; rintro e w' ⟨rfl, rfl⟩)
        | (go_at_call 4; (refine (AL.out _).mono ?_; rintro e w' ⟨rfl, hk⟩; have HK := Lib.hid hk; clear hk)))
      all_goals (go_ret; exact ⟨rfl, HK.out.size, HK.out.same, HK.out.out⟩)
    · have h4 := h2 e3
      clear h2
      subst h4
      go_enter Tryz.func3, Tryz.ntmps3
      go_wp2_with (first
        | (go_at_call 5; first | ((with_reducible refine (M1.out _).mono ?_); rintro e w' ⟨rfl, n, rfl⟩) | ((with_reducible refine (M2.out _).mono ?_); rintro e w' ⟨rfl, n, rfl⟩) | ((with_reducible refine (M3.out _).mono ?_); rintro e w' ⟨rfl, n, rfl⟩))
        | (go_at_call 6; refine (M4.out _).mono ?_; rintro e w' ⟨rfl, n, rfl⟩)
        | (go_at_call 7; first | ((with_reducible refine (N1.out _).mono ?_); rintro e w' ⟨rfl, rfl⟩) | ((with_reducible refine (N2.out _).mono ?_); rintro e w' ⟨rfl, rfl⟩))
        | (go_at_call 8; refine (N3.out _).mono ?_; rintro e w' ⟨rfl, rfl⟩)
        | (go_at_call 4; (refine (AL.out _).mono ?_; rintro e w' ⟨rfl, hk⟩; have HK := Lib.hid hk; clear hk)))
      all_goals (go_ret; exact ⟨rfl, HK.out.size, HK.out.same, HK.out.out⟩)
end Go.Proofs.YtliimmpokhmjeaaGreatDoor
