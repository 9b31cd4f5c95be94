/-
  Functions of Go's library by their contracts.
-/
import Derived.Test.YtliimmpokhmjeaaGreatDoorZevO
import Derived.Lib.Join
import Derived.Below
namespace Go.Proofs.YtliimmpokhmjeaaGreatDoor.Zev
open Go Go.RowKit
set_option linter.unusedSimpArgs false
set_option linter.unusedVariables false

/-! ## strings.Join -/

noncomputable def strList : List AV → Option (List (List Nat))
  | [] => some []
  | .str s :: l => match strList l with
    | some m => some (s :: m)
    | none => none
  | _ :: _ => none
noncomputable def joinTailN (sep : List Nat) : List (List Nat) → List Nat
  | [] => []
  | x :: l => sep ++ (x ++ joinTailN sep l)
noncomputable def joinN (sep : List Nat) : List (List Nat) → List Nat
  | [] => []
  | x :: l => x ++ joinTailN sep l

noncomputable def joinLib (k : FuncId) : CallE := fun f args S =>
  match Nat.beq f k with
  | true => match args with
    | [.slice id off len cap ex, .str sep] => match S.heap.get id with
      | some (.cells l _) => match Nat.ble (off + len) l.length && (Nat.ble len 1000000 && (match ex with | true => Nat.ble len cap | false => Nat.beq cap 0)) with
        | true => match strList ((l.drop off).take len) with
          | some m => match Nat.ble (joinN sep m).length 1000000 with
            | true => some (.ret (.str (joinN sep m)), S)
            | false => none
          | none => none
        | false => none
      | _ => none
    | _ => none
  | false => none

theorem strList_ok {σ : Sig} : ∀ {l : List AV} {m : List (List Nat)} {vs : List Value}, strList l = some m → Ins σ l vs → vs = m.map fun s => .string (bytesOf s)
  | [], m, vs, h, hi => by
    simp only [strList, Option.some.injEq] at h
    subst h
    cases hi; rfl
  | a :: l, m, vs, h, hi => by
    cases hi with
    | cons ha hl =>
      unfold strList at h
      split at h
      · cases ‹_ = []›
      · rename_i s l' e
        cases e
        split at h
        · rename_i m' hm
          cases h
          simp only [AV.inst, Option.some.injEq] at ha
          subst ha
          simp [strList_ok hm hl]
        · cases h
      · cases h
theorem joinTailN_map (sep : List Nat) : ∀ m : List (List Nat), (joinTailN sep m).map UInt8.ofNat = Lib.joinTail (sep.map UInt8.ofNat) (m.map fun s => s.map UInt8.ofNat)
  | [] => rfl
  | x :: l => by simp [joinTailN, Lib.joinTail, joinTailN_map sep l]
theorem joinN_map (sep : List Nat) : ∀ m : List (List Nat), (joinN sep m).map UInt8.ofNat = Lib.join (m.map fun s => s.map UInt8.ofNat) (sep.map UInt8.ofNat)
  | [] => rfl
  | x :: l => by
    rw [List.map_cons, Lib.join_cons]
    simp [joinN, joinTailN_map]

def JoinSays (P : Program) (k : FuncId) : Prop := ∀ (bk o c : Nat) (xs : List ByteArray) (sep : ByteArray) (w : World),
  (∀ (j : Nat) x, xs[j]? = some x → w.cell? ⟨bk, o + j, none⟩ = some (.string x)) → bk < w.heap.size → xs.length ≤ 140737488355328 → xs.length ≤ c →
  (Lib.join (xs.map (·.data.toList)) sep.data.toList).length ≤ 140737488355328 →
  Calls P k #[.slice (some ⟨bk, o, none⟩) xs.length c, .string sep] w fun e w' => e = .returned (.string ⟨(Lib.join (xs.map (·.data.toList)) sep.data.toList).toArray⟩) ∧ Below w.heap.size w w'

theorem joinLib_ok {E : Env} {k : FuncId} (hj : JoinSays E.P k) : CallsOk E (joinLib k) := by
  intro f args S r S' h σ w Wr us hA hS hi
  unfold joinLib at h
  split at h
  · rename_i hf
    obtain rfl := Nat.eq_of_beq_eq_true hf
    split at h
    · rename_i id off len cap ex sep
      split at h
      · rename_i l t hb
        split at h
        · rename_i hc
          simp only [Bool.and_eq_true] at hc
          obtain ⟨c1, c2, c3⟩ := hc
          have c1' := Nat.le_of_ble_eq_true c1
          have c2' := Nat.le_of_ble_eq_true c2
          split at h
          · rename_i m hm
            split at h
            · rename_i hlen
              cases h
              have hlen' := Nat.le_of_ble_eq_true hlen
              obtain ⟨su, xu, rfl, h1, h2⟩ := hi.two
              obtain ⟨b, κ, hs, hcap, rfl⟩ := inst_slice h1
              simp only [AV.inst, Option.some.injEq] at h2
              subst h2
              obtain ⟨b', κ', vs, rest, fr, e1, e2, e3, e4, e5⟩ := get_cells hS hb
              rw [hs] at e1; cases e1
              have hl := e3.length
              have hvs := strList_ok hm ((e3.drop off).take len)
              have hml : m.length = len := by
                have := congrArg List.length hvs
                simp at this
                omega
              have hdata : ∀ s : List Nat, (bytesOf s).data.toList = s.map UInt8.ofNat := fun s => by simp [bytesOf]
              have hjoin : Lib.join ((m.map bytesOf).map (·.data.toList)) (bytesOf sep).data.toList = (joinN sep m).map UInt8.ofNat := by
                rw [joinN_map, hdata]
                congr 1
                rw [List.map_map]
                exact List.map_congr_left fun s _ => hdata s
              have hcall := hj b off (if ex then cap else κ - cap) (m.map bytesOf) (bytesOf sep) w (fun j x hx => by
                simp only [List.getElem?_map, Option.map_eq_some_iff] at hx
                obtain ⟨s, hs', rfl⟩ := hx
                have hjl := (List.getElem?_eq_some_iff.1 hs').1
                rw [cell_of e2 (by omega)]
                have := congrArg (fun l => l[j]?) hvs
                simp only [List.getElem?_map, hs', Option.map_some] at this
                rw [List.getElem?_take_of_lt (by omega), List.getElem?_drop] at this
                exact this) (Array.getElem?_eq_some_iff.1 e2).1 (by simp; omega) (by
                simp only [List.length_map, hml]
                cases ex with
                | true =>
                  simp only at c3
                  exact Nat.le_of_ble_eq_true c3
                | false =>
                  simp only at c3
                  obtain rfl := Nat.eq_of_beq_eq_true c3
                  rcases hcap with hcap | hcap
                  · cases hcap
                  · simpa using hcap) (by rw [hjoin]; simp; omega)
              simp only [List.length_map, hml] at hcall
              refine hcall.mono ?_
              rintro e w' ⟨rfl, hbel⟩
              have hk : Kept (fun b => w.heap.size ≤ b) w w' := ⟨hbel.size, fun b hb => hbel.block b (by omega), hbel.os, hbel.output⟩
              refine ⟨σ, ⟨_, ?_, rfl⟩, pure_post hS hk⟩
              rw [hjoin]
              simp [AV.inst, bytesOf]
            · cases h
          · cases h
        · cases h
      · cases h
    · cases h
  · cases h

/-! ## Several at once -/

noncomputable def orLib (A B : CallE) : CallE := fun f args S => match A f args S with
  | some r => some r
  | none => B f args S
theorem orLib_ok {E : Env} {A B : CallE} (hA : CallsOk E A) (hB : CallsOk E B) : CallsOk E (orLib A B) := by
  intro f args S r S' h
  unfold orLib at h
  split at h
  · rename_i x hx
    cases h
    exact hA f args S r S' hx
  · exact hB f args S r S' h

end Go.Proofs.YtliimmpokhmjeaaGreatDoor.Zev
