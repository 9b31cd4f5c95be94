/-
  The example function of the laws of package cargo returns true, in every world in which the words of kinds and the powers of ten are laid, and in whatever order Go leaves open.
-/
import Derived.Test.YtliimmpokhmjeaaGreatDoorRunB
import Derived.Test.YtliimmpokhmjeaaGreatDoorRunC
import Derived.Test.YtliimmpokhmjeaaGreatDoorRunD
import Derived.Test.YtliimmpokhmjeaaGreatDoorRunE
import Derived.Test.YtliimmpokhmjeaaGreatDoorRunF
import Derived.Test.YtliimmpokhmjeaaGreatDoorRunG
import Derived.Test.YtliimmpokhmjeaaGreatDoorRunH
import Derived.Test.YtliimmpokhmjeaaGreatDoorRunI
import Derived.Test.YtliimmpokhmjeaaGreatDoorRunY
namespace Go.Proofs.YtliimmpokhmjeaaGreatDoor.Zev
open Go
theorem ok0 : CallsOk E0 ml0 := memoLib_ok E0_ok (base_ok) r0
theorem ok1 : CallsOk E0 ml1 := memoLib_ok E0_ok (base_ok) r1
theorem ok2 : CallsOk E0 ml2 := memoLib_ok E0_ok (base_ok) r2
theorem ok3 : CallsOk E0 ml3 := memoLib_ok E0_ok (base_ok) r3
theorem ok4 : CallsOk E0 ml4 := memoLib_ok E0_ok (base_ok) r4
theorem ok5 : CallsOk E0 ml5 := memoLib_ok E0_ok (base_ok) r5
theorem ok6 : CallsOk E0 ml6 := memoLib_ok E0_ok (base_ok) r6
theorem ok7 : CallsOk E0 ml7 := memoLib_ok E0_ok (base_ok) r7
theorem ok8 : CallsOk E0 ml8 := memoLib_ok E0_ok (base_ok) r8
theorem ok9 : CallsOk E0 ml9 := memoLib_ok E0_ok (base_ok) r9
theorem ok10 : CallsOk E0 ml10 := memoLib_ok E0_ok (base_ok) r10
theorem ok11 : CallsOk E0 ml11 := memoLib_ok E0_ok (base_ok) r11
theorem ok12 : CallsOk E0 ml12 := memoLib_ok E0_ok (base_ok) r12
theorem ok13 : CallsOk E0 ml13 := memoLib_ok E0_ok (base_ok) r13
theorem ok14 : CallsOk E0 ml14 := memoLib_ok E0_ok (base_ok) r14
theorem ok15 : CallsOk E0 ml15 := memoLib_ok E0_ok (base_ok) r15
theorem ok16 : CallsOk E0 ml16 := memoLib_ok E0_ok (base_ok) r16
theorem ok17 : CallsOk E0 ml17 := memoLib_ok E0_ok (base_ok) r17
theorem ok18 : CallsOk E0 ml18 := memoLib_ok E0_ok (base_ok) r18
theorem ok19 : CallsOk E0 ml19 := memoLib_ok E0_ok (base_ok) r19
theorem ok20 : CallsOk E0 ml20 := memoLib_ok E0_ok (base_ok) r20
theorem ok21 : CallsOk E0 ml21 := memoLib_ok E0_ok (base_ok) r21
theorem ok22 : CallsOk E0 ml22 := memoLib_ok E0_ok (base_ok) r22
theorem ok23 : CallsOk E0 ml23 := memoLib_ok E0_ok (base_ok) r23
theorem ok24 : CallsOk E0 ml24 := memoLib_ok E0_ok (base_ok) r24
theorem ok25 : CallsOk E0 ml25 := memoLib_ok E0_ok (base_ok) r25
theorem ok26 : CallsOk E0 ml26 := memoLib_ok E0_ok (base_ok) r26
theorem ok27 : CallsOk E0 ml27 := memoLib_ok E0_ok (base_ok) r27
theorem ok28 : CallsOk E0 ml28 := memoLib_ok E0_ok (base_ok) r28
theorem ok29 : CallsOk E0 ml29 := memoLib_ok E0_ok (orLib_ok ok28 (base_ok)) r29
theorem ok30 : CallsOk E0 ml30 := memoLib_ok E0_ok (base_ok) r30
theorem ok31 : CallsOk E0 ml31 := memoLib_ok E0_ok (orLib_ok ok30 (base_ok)) r31
theorem ok32 : CallsOk E0 ml32 := memoLib_ok E0_ok (base_ok) r32
theorem ok33 : CallsOk E0 ml33 := memoLib_ok E0_ok (orLib_ok ok32 (base_ok)) r33
theorem ok34 : CallsOk E0 ml34 := memoLib_ok E0_ok (base_ok) r34
theorem ok35 : CallsOk E0 ml35 := memoLib_ok E0_ok (orLib_ok ok34 (base_ok)) r35
theorem ok36 : CallsOk E0 ml36 := memoLib_ok E0_ok (base_ok) r36
theorem ok37 : CallsOk E0 ml37 := memoLib_ok E0_ok (orLib_ok ok36 (base_ok)) r37
theorem ok38 : CallsOk E0 ml38 := memoLib_ok E0_ok (base_ok) r38
theorem ok39 : CallsOk E0 ml39 := memoLib_ok E0_ok (orLib_ok ok38 (base_ok)) r39
theorem ok40 : CallsOk E0 ml40 := memoLib_ok E0_ok (base_ok) r40
theorem ok41 : CallsOk E0 ml41 := memoLib_ok E0_ok (base_ok) r41
theorem ok42 : CallsOk E0 ml42 := memoLib_ok E0_ok (base_ok) r42
theorem ok43 : CallsOk E0 ml43 := memoLib_ok E0_ok (base_ok) r43
theorem ok44 : CallsOk E0 ml44 := memoLib_ok E0_ok (base_ok) r44
theorem ok45 : CallsOk E0 ml45 := memoLib_ok E0_ok (base_ok) r45
theorem ok46 : CallsOk E0 ml46 := memoLib_ok E0_ok (base_ok) r46
theorem ok47 : CallsOk E0 ml47 := memoLib_ok E0_ok (base_ok) r47
theorem ok48 : CallsOk E0 ml48 := memoLib_ok E0_ok (orLib_ok ok47 (orLib_ok ok46 (orLib_ok ok45 (orLib_ok ok44 (orLib_ok ok43 (base_ok)))))) r48
theorem ok49 : CallsOk E0 ml49 := memoLib_ok E0_ok (base_ok) r49
theorem ok50 : CallsOk E0 ml50 := memoLib_ok E0_ok (base_ok) r50
theorem ok51 : CallsOk E0 ml51 := memoLib_ok E0_ok (base_ok) r51
theorem ok52 : CallsOk E0 ml52 := memoLib_ok E0_ok (base_ok) r52
theorem ok53 : CallsOk E0 ml53 := memoLib_ok E0_ok (base_ok) r53
theorem ok54 : CallsOk E0 ml54 := memoLib_ok E0_ok (orLib_ok ok53 (orLib_ok ok52 (orLib_ok ok51 (orLib_ok ok50 (orLib_ok ok49 (base_ok)))))) r54
theorem ok55 : CallsOk E0 ml55 := memoLib_ok E0_ok (orLib_ok ok54 (base_ok)) r55
theorem ok56 : CallsOk E0 ml56 := memoLib_ok E0_ok (base_ok) r56
theorem ok57 : CallsOk E0 ml57 := memoLib_ok E0_ok (orLib_ok ok56 (base_ok)) r57
theorem okRoot : CallsOk E0 (memoLib 4 [] hRoot 100 (.bool true) [] 100) := memoLib_ok E0_ok (orLib_ok ok57 (orLib_ok ok55 (orLib_ok ok48 (orLib_ok ok42 (orLib_ok ok41 (orLib_ok ok40 (orLib_ok ok39 (orLib_ok ok37 (orLib_ok ok35 (orLib_ok ok33 (orLib_ok ok31 (orLib_ok ok29 (orLib_ok ok27 (orLib_ok ok26 (orLib_ok ok25 (orLib_ok ok24 (orLib_ok ok23 (orLib_ok ok22 (orLib_ok ok21 (orLib_ok ok20 (orLib_ok ok19 (orLib_ok ok18 (orLib_ok ok17 (orLib_ok ok16 (orLib_ok ok15 (orLib_ok ok14 (orLib_ok ok13 (orLib_ok ok12 (orLib_ok ok11 (orLib_ok ok10 (orLib_ok ok9 (orLib_ok ok8 (orLib_ok ok7 (orLib_ok ok6 (orLib_ok ok5 (orLib_ok ok4 (orLib_ok ok3 (orLib_ok ok2 (orLib_ok ok1 (orLib_ok ok0 (base_ok))))))))))))))))))))))))))))))))))))))))) rRoot
noncomputable def S0 : ASt := { heap := buildH hRoot, next := 100, limit := fromN 100 [] }
theorem memoRoot : memoLib 4 [] hRoot 100 (.bool true) [] 100 4 [] S0 = some (.ret (.bool true), { heap := addAll S0.heap [], next := 100, limit := S0.limit }) := by kernel_rfl
def sig0 : Sig := fun id => if id < 50 then some (id, 0) else none
theorem at0 : E0.At sig0 := by
  intro g id h
  rw [E0_is] at h
  have h : (match Nat.blt g 50 with | true => some g | false => none) = some id := h
  split at h
  · rename_i hb
    cases h
    exact ⟨0, by simp [sig0, lt_of_blt hb]⟩
  · cases h
theorem lowRoot : lowIds hRoot = true := by kernel_rfl

noncomputable def l0 : List AV := [(.str []), (.str [112, 97, 99, 107, 97, 103, 101]), (.str [116, 111, 116, 97, 108]), (.str [118, 111, 105, 100])]
noncomputable def l6 : List AV := [(.int .u64 (Int.ofNat 1)), (.int .u64 (Int.ofNat 10)), (.int .u64 (Int.ofNat 100)), (.int .u64 (Int.ofNat 1000)), (.int .u64 (Int.ofNat 10000)), (.int .u64 (Int.ofNat 100000)), (.int .u64 (Int.ofNat 1000000)), (.int .u64 (Int.ofNat 10000000)), (.int .u64 (Int.ofNat 100000000)), (.int .u64 (Int.ofNat 1000000000)), (.int .u64 (Int.ofNat 10000000000)), (.int .u64 (Int.ofNat 100000000000)), (.int .u64 (Int.ofNat 1000000000000)), (.int .u64 (Int.ofNat 10000000000000)), (.int .u64 (Int.ofNat 100000000000000)), (.int .u64 (Int.ofNat 1000000000000000)), (.int .u64 (Int.ofNat 10000000000000000)), (.int .u64 (Int.ofNat 100000000000000000)), (.int .u64 (Int.ofNat 1000000000000000000)), (.int .u64 (Int.ofNat 10000000000000000000))]
def words0 : List Value := [.string (bytesOf []), .string (bytesOf [112, 97, 99, 107, 97, 103, 101]), .string (bytesOf [116, 111, 116, 97, 108]), .string (bytesOf [118, 111, 105, 100])]
def table6 : List Value := [.int .u64 (Int.ofNat 1), .int .u64 (Int.ofNat 10), .int .u64 (Int.ofNat 100), .int .u64 (Int.ofNat 1000), .int .u64 (Int.ofNat 10000), .int .u64 (Int.ofNat 100000), .int .u64 (Int.ofNat 1000000), .int .u64 (Int.ofNat 10000000), .int .u64 (Int.ofNat 100000000), .int .u64 (Int.ofNat 1000000000), .int .u64 (Int.ofNat 10000000000), .int .u64 (Int.ofNat 100000000000), .int .u64 (Int.ofNat 1000000000000), .int .u64 (Int.ofNat 10000000000000), .int .u64 (Int.ofNat 100000000000000), .int .u64 (Int.ofNat 1000000000000000), .int .u64 (Int.ofNat 10000000000000000), .int .u64 (Int.ofNat 100000000000000000), .int .u64 (Int.ofNat 1000000000000000000), .int .u64 (Int.ofNat 10000000000000000000)]
/-- What the example function takes of the package variables. -/
structure Laid (w : World) : Prop where
  kinds : w.heap[0]? = some (.cells words0.toArray 90 (0, 0))
  tens : w.heap[6]? = some (.cells table6.toArray 195 (0, 0))
theorem ins0 (σ : Sig) : Ins σ l0 words0 := .cons rfl (.cons rfl (.cons rfl (.cons rfl .nil)))
theorem ins6 (σ : Sig) : Ins σ l6 table6 := by
  unfold l6 table6
  repeat first | exact .nil | refine .cons rfl ?_
theorem rel0 {P : Program} {w : World} (h : Laid w) : S0.rel P sig0 w (fun b => w.heap.size ≤ b) := by
  have key : ∀ id blk, S0.heap.get id = some blk → (id = 0 ∧ blk = .cells l0 90) ∨ (id = 6 ∧ blk = .cells l6 195) := by
    intro id blk hb
    have hm := buildH_get lowRoot (show (buildH hRoot).get id = some blk from hb)
    unfold hRoot at hm
    rcases List.mem_cons.1 hm with h | h
    · exact .inl ⟨congrArg Prod.fst h, congrArg Prod.snd h⟩
    · have := List.mem_singleton.1 h
      exact .inr ⟨congrArg Prod.fst this, congrArg Prod.snd this⟩
  have small : ∀ id blk, S0.heap.get id = some blk → id < 50 := fun id blk hb => by
    rcases key id blk hb with h | h <;> omega
  have hfn : ∀ id, 100 ≤ id → fromN 100 [] id = true := fun id hid => by
    unfold fromN
    rw [Nat.ble_eq_true_of_le hid]
  refine ⟨fun id blk hb => ?_, fun i j bi bj x y hi hj hx hy hxy => ?_, fun id blk x hb hlim _ => ?_, fun b hb => hb, fun id hid => ⟨?_, ?_⟩, hfn⟩
  · rcases key id blk hb with ⟨rfl, rfl⟩ | ⟨rfl, rfl⟩
    · exact ⟨0, 0, _, rfl, h.kinds, words0, [], (0, 0), ins0 _, by rw [List.append_nil], by simp, .inl (Nat.le_refl _)⟩
    · exact ⟨6, 0, _, rfl, h.tens, table6, [], (0, 0), ins6 _, by rw [List.append_nil], by simp, .inl (Nat.le_refl _)⟩
  · have e1 := small i bi hi
    have e2 := small j bj hj
    simp only [sig0, if_pos e1, Option.some.injEq] at hx
    simp only [sig0, if_pos e2, Option.some.injEq] at hy
    subst hx hy
    exact hxy
  · have e1 := small id blk hb
    have hlim : fromN 100 [] id = true := hlim
    unfold fromN at hlim
    split at hlim
    · rename_i hb'
      have := Nat.le_of_ble_eq_true hb'
      omega
    · cases hlim
  · have hid : 100 ≤ id := hid
    simp only [sig0]
    rw [if_neg (by omega)]
  · cases hb : S0.heap.get id with
    | none => rfl
    | some blk =>
      have := small id blk hb
      have hid : 100 ≤ id := hid
      omega
theorem alive_says {w : World} (h : Laid w) :
    Calls Tryz.prog 4 #[] w fun e w' => e = .returned (.bool true) ∧ Kept (fun b => w.heap.size ≤ b) w w' := by
  have hc := okRoot 4 [] S0 _ _ memoRoot sig0 w (fun b => w.heap.size ≤ b) [] at0 (rel0 h) .nil
  rw [E0_P] at hc
  refine hc.mono ?_
  rintro e w' ⟨σ', ⟨u, hu, rfl⟩, hp⟩
  cases hu
  exact ⟨rfl, hp.kept⟩
end Go.Proofs.YtliimmpokhmjeaaGreatDoor.Zev
