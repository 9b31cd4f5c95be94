/-
  What the runs are given, and what they leave: data, taken from a run at home; nothing is proved here.
-/
import Derived.Test.YtpdemfamfmeemacGreatPpBase
import Derived.Test.YtpdemfamfmeemacGreatPpEvK
import Derived.KernelRfl
set_option linter.unusedSimpArgs false
set_option linter.unusedVariables false
namespace Go.Proofs.YtpdemfamfmeemacGreat.Zs
open Go
noncomputable def impureL : List Nat := [48, 45, 46, 74, 92, 95, 97, 91, 94, 93, 62, 58, 80, 79, 52, 78, 44, 51]
noncomputable def skipL : List Nat := [93, 94, 91]
noncomputable def Em : Env := {
  P := Tryz.prog,
  und := fun t => Tryz.prog.underlying t,
  inf := fun t => Tryz.prog.info? t,
  fn := fun f => Tryz.prog.funcs[f]?,
  glob := fun g => match Nat.blt g 50 with | true => some g | false => none,
  pure := fun f => match memN f impureL with | true => false | false => true,
  spare := true,
  skip := fun f => match memN f skipL with | true => true | false => false }
noncomputable def baseL : CallE := fun _ _ _ => none
noncomputable def hRoot : List (Nat × ABlock) := []
noncomputable def a0 : List AV := [(.slice 100 0 4 4 true), (.slice 117 0 2 2 true), (.slice 118 0 1 1 true), (.int .i64 (Int.ofNat 20))]
noncomputable def h0 : List (Nat × ABlock) := hRoot ++ [(100, (.cells [(.int .i64 (Int.ofNat 1)), (.int .i64 (Int.ofNat 5)), (.int .u8 (Int.ofNat 1)), (.int .i64 (Int.ofNat 0)), (.int .i64 (Int.ofNat 10)), (.int .i64 (Int.ofNat 1000)), (.int .i64 (Int.ofNat 3)), (.int .i64 (Int.ofNat 4)), (.int .i64 (Int.ofNat 2)), (.int .i64 (Int.ofNat 6)), (.int .u8 (Int.ofNat 2)), (.int .i64 (Int.ofNat 7)), (.int .i64 (Int.ofNat 10)), (.int .i64 (Int.ofNat 400)), (.int .i64 (Int.ofNat 4)), (.int .i64 (Int.ofNat 5)), (.int .i64 (Int.ofNat 3)), (.int .i64 (Int.ofNat 9)), (.int .u8 (Int.ofNat 2)), (.int .i64 (Int.ofNat 8)), (.int .i64 (Int.ofNat 10)), (.int .i64 (Int.ofNat 100)), (.int .i64 (Int.ofNat 4)), (.int .i64 (Int.ofNat 5)), (.int .i64 (Int.ofNat 4)), (.int .i64 (Int.ofNat 12)), (.int .u8 (Int.ofNat 3)), (.int .i64 (Int.ofNat 7)), (.int .i64 (Int.ofNat 10)), (.int .i64 (Int.ofNat 150)), (.int .i64 (Int.ofNat 9)), (.int .i64 (Int.ofNat 11))] 36)), (117, (.cells [(.int .i64 (Int.ofNat 7)), (.int .i64 (Int.ofNat 10)), (.int .i64 (Int.ofNat 300)), (.int .i64 (Int.ofNat 9)), (.int .i64 (Int.ofNat 10)), (.int .i64 (Int.ofNat 500))] 38)), (118, (.cells [(.int .i64 (Int.ofNat 10)), (.int .i64 (Int.ofNat 9)), (.int .i64 (Int.ofNat 11))] 42))]
noncomputable def v0 : AV := (.tuple [(.slice 208 0 3 0 false), (.int .i64 (Int.ofNat 0))])
noncomputable def w0 : List (Nat × ABlock) := [(208, (.cells [(.int .i64 (Int.ofNat 5)), (.int .i64 (Int.ofNat 20)), (.int .u8 (Int.ofNat 3)), (.int .i64 (Int.ofNat 8)), (.int .i64 (Int.ofNat 10)), (.int .i64 (Int.ofNat 100)), (.int .i64 (Int.ofNat 9)), (.int .i64 (Int.ofNat 11)), (.int .i64 (Int.ofNat 6)), (.int .i64 (Int.ofNat 20)), (.int .u8 (Int.ofNat 2)), (.int .i64 (Int.ofNat 7)), (.int .i64 (Int.ofNat 10)), (.int .i64 (Int.ofNat 50)), (.int .i64 (Int.ofNat 9)), (.int .i64 (Int.ofNat 11)), (.int .i64 (Int.ofNat 7)), (.int .i64 (Int.ofNat 20)), (.int .u8 (Int.ofNat 2)), (.int .i64 (Int.ofNat 9)), (.int .i64 (Int.ofNat 10)), (.int .i64 (Int.ofNat 500)), (.int .i64 (Int.ofNat 9)), (.int .i64 (Int.ofNat 11))] 36))]
noncomputable def ml0 : CallE := memoLib 20 a0 h0 119 v0 w0 209
noncomputable def a1 : List AV := [(.slice 100 0 4 4 true), (.slice 117 0 2 2 true), (.slice 209 0 1 1 true), (.int .i64 (Int.ofNat 20))]
noncomputable def h1 : List (Nat × ABlock) := hRoot ++ [(100, (.cells [(.int .i64 (Int.ofNat 1)), (.int .i64 (Int.ofNat 5)), (.int .u8 (Int.ofNat 1)), (.int .i64 (Int.ofNat 0)), (.int .i64 (Int.ofNat 10)), (.int .i64 (Int.ofNat 1000)), (.int .i64 (Int.ofNat 3)), (.int .i64 (Int.ofNat 4)), (.int .i64 (Int.ofNat 2)), (.int .i64 (Int.ofNat 6)), (.int .u8 (Int.ofNat 2)), (.int .i64 (Int.ofNat 7)), (.int .i64 (Int.ofNat 10)), (.int .i64 (Int.ofNat 400)), (.int .i64 (Int.ofNat 4)), (.int .i64 (Int.ofNat 5)), (.int .i64 (Int.ofNat 3)), (.int .i64 (Int.ofNat 9)), (.int .u8 (Int.ofNat 2)), (.int .i64 (Int.ofNat 8)), (.int .i64 (Int.ofNat 10)), (.int .i64 (Int.ofNat 100)), (.int .i64 (Int.ofNat 4)), (.int .i64 (Int.ofNat 5)), (.int .i64 (Int.ofNat 4)), (.int .i64 (Int.ofNat 12)), (.int .u8 (Int.ofNat 3)), (.int .i64 (Int.ofNat 7)), (.int .i64 (Int.ofNat 10)), (.int .i64 (Int.ofNat 150)), (.int .i64 (Int.ofNat 9)), (.int .i64 (Int.ofNat 11))] 36)), (117, (.cells [(.int .i64 (Int.ofNat 7)), (.int .i64 (Int.ofNat 10)), (.int .i64 (Int.ofNat 300)), (.int .i64 (Int.ofNat 9)), (.int .i64 (Int.ofNat 10)), (.int .i64 (Int.ofNat 500))] 38)), (209, (.cells [(.int .i64 (Int.ofNat 10)), (.int .i64 (Int.ofNat 4)), (.int .i64 (Int.ofNat 5))] 42))]
noncomputable def v1 : AV := (.tuple [(.slice 290 0 2 0 false), (.int .i64 (Int.ofNat 0))])
noncomputable def w1 : List (Nat × ABlock) := [(290, (.cells [(.int .i64 (Int.ofNat 5)), (.int .i64 (Int.ofNat 20)), (.int .u8 (Int.ofNat 2)), (.int .i64 (Int.ofNat 7)), (.int .i64 (Int.ofNat 10)), (.int .i64 (Int.ofNat 50)), (.int .i64 (Int.ofNat 4)), (.int .i64 (Int.ofNat 5)), (.int .i64 (Int.ofNat 6)), (.int .i64 (Int.ofNat 20)), (.int .u8 (Int.ofNat 2)), (.int .i64 (Int.ofNat 9)), (.int .i64 (Int.ofNat 10)), (.int .i64 (Int.ofNat 500)), (.int .i64 (Int.ofNat 4)), (.int .i64 (Int.ofNat 5))] 36))]
noncomputable def ml1 : CallE := memoLib 20 a1 h1 210 v1 w1 291
noncomputable def a2 : List AV := [(.slice 293 0 7 0 false), (.slice 117 0 2 2 true)]
noncomputable def h2 : List (Nat × ABlock) := hRoot ++ [(117, (.cells [(.int .i64 (Int.ofNat 7)), (.int .i64 (Int.ofNat 10)), (.int .i64 (Int.ofNat 300)), (.int .i64 (Int.ofNat 9)), (.int .i64 (Int.ofNat 10)), (.int .i64 (Int.ofNat 500))] 38)), (293, (.cells [(.int .i64 (Int.ofNat 1)), (.int .i64 (Int.ofNat 5)), (.int .u8 (Int.ofNat 1)), (.int .i64 (Int.ofNat 0)), (.int .i64 (Int.ofNat 10)), (.int .i64 (Int.ofNat 1000)), (.int .i64 (Int.ofNat 3)), (.int .i64 (Int.ofNat 4)), (.int .i64 (Int.ofNat 2)), (.int .i64 (Int.ofNat 6)), (.int .u8 (Int.ofNat 2)), (.int .i64 (Int.ofNat 7)), (.int .i64 (Int.ofNat 10)), (.int .i64 (Int.ofNat 400)), (.int .i64 (Int.ofNat 4)), (.int .i64 (Int.ofNat 5)), (.int .i64 (Int.ofNat 3)), (.int .i64 (Int.ofNat 9)), (.int .u8 (Int.ofNat 2)), (.int .i64 (Int.ofNat 8)), (.int .i64 (Int.ofNat 10)), (.int .i64 (Int.ofNat 100)), (.int .i64 (Int.ofNat 4)), (.int .i64 (Int.ofNat 5)), (.int .i64 (Int.ofNat 4)), (.int .i64 (Int.ofNat 12)), (.int .u8 (Int.ofNat 3)), (.int .i64 (Int.ofNat 7)), (.int .i64 (Int.ofNat 10)), (.int .i64 (Int.ofNat 150)), (.int .i64 (Int.ofNat 9)), (.int .i64 (Int.ofNat 11)), (.int .i64 (Int.ofNat 5)), (.int .i64 (Int.ofNat 20)), (.int .u8 (Int.ofNat 3)), (.int .i64 (Int.ofNat 8)), (.int .i64 (Int.ofNat 10)), (.int .i64 (Int.ofNat 100)), (.int .i64 (Int.ofNat 9)), (.int .i64 (Int.ofNat 11)), (.int .i64 (Int.ofNat 6)), (.int .i64 (Int.ofNat 20)), (.int .u8 (Int.ofNat 2)), (.int .i64 (Int.ofNat 7)), (.int .i64 (Int.ofNat 10)), (.int .i64 (Int.ofNat 50)), (.int .i64 (Int.ofNat 9)), (.int .i64 (Int.ofNat 11)), (.int .i64 (Int.ofNat 7)), (.int .i64 (Int.ofNat 20)), (.int .u8 (Int.ofNat 2)), (.int .i64 (Int.ofNat 9)), (.int .i64 (Int.ofNat 10)), (.int .i64 (Int.ofNat 500)), (.int .i64 (Int.ofNat 9)), (.int .i64 (Int.ofNat 11))] 36))]
noncomputable def v2 : AV := (.tuple [(.bool true), (.int .i64 (Int.ofNat 0))])
noncomputable def w2 : List (Nat × ABlock) := []
noncomputable def ml2 : CallE := memoLib 21 a2 h2 294 v2 w2 294
end Go.Proofs.YtpdemfamfmeemacGreat.Zs
