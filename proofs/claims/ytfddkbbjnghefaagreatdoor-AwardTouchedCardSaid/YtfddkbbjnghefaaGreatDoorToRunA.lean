/-
  What the runs are given, and what they leave: data, taken from a run at home; nothing is proved here.
-/
import Derived.Test.YtfddkbbjnghefaaGreatDoorToBase
import Derived.Test.YtfddkbbjnghefaaGreatDoorToEvK
import Derived.KernelRfl
set_option linter.unusedSimpArgs false
set_option linter.unusedVariables false
namespace Go.Proofs.YtfddkbbjnghefaaGreatDoor.Zs
open Go
noncomputable def impureL : List Nat:=[145,115,77,110,128,113,139,114,47,46,70,45,84,78,104,95,144,153]
noncomputable def skipL : List Nat:=[113,114,139]
noncomputable def Em : Env:={
 P:=Tryz.prog,
 und:=fun t => Tryz.prog.underlying t,
 inf:=fun t => Tryz.prog.info? t,
 fn:=fun f => Tryz.prog.funcs[f]?,
 glob:=fun g => match Nat.blt g 50 with | true => some g | false => none,
 pure:=fun f => match memN f impureL with | true => false | false => true,
 spare:=true,
 skip:=fun f => match memN f skipL with | true => true | false => false }
noncomputable def baseL : yj:=fun _ _ _ => none
noncomputable def hRoot : List (Nat×ABlock):=[(0,(.cells [(.int .i64 (Int.ofNat 0)),(.int .i64 (Int.ofNat 1))] 147)),(1,(.cells [(.int .i64 (Int.ofNat 1)),(.int .i64 (Int.ofNat 1))] 147))]
noncomputable def a0 : List AV:=[(.agg [(.int .i64 (Int.ofNat 1)),(.int .i64 (Int.ofNat 4))])]
noncomputable def v0 : AV:=(.bool true)
noncomputable def ml0 : yj:=plainLib 119 a0 hRoot v0
noncomputable def a1 : List AV:=[(.agg [(.int .i64 (Int.ofNat 0)),(.str []),(.int .i64 (Int.ofNat 1)),(.int .i64 (Int.ofNat 4)),(.int .i64 (Int.ofNat 20)),(.int .i64 (Int.ofNat 5))])]
noncomputable def v1 : AV:=(.bool true)
noncomputable def ml1 : yj:=plainLib 96 a1 hRoot v1
noncomputable def a2 : List AV:=[(.agg [(.int .i64 (Int.ofNat 1)),(.int .i64 (Int.ofNat 0)),(.int .i64 (Int.ofNat 0)),(.str []),(.int .i64 (Int.ofNat 1)),(.int .i64 (Int.ofNat 4)),(.int .i64 (Int.ofNat 20)),(.int .i64 (Int.ofNat 5)),(.int .i64 (Int.ofNat 0))])]
noncomputable def v2 : AV:=(.int .i64 (Int.ofNat 0))
noncomputable def ml2 : yj:=plainLib 59 a2 hRoot v2
noncomputable def a3 : List AV:=[(.agg [(.int .i64 (Int.ofNat 1)),(.int .i64 (Int.ofNat 3))])]
noncomputable def v3 : AV:=(.bool true)
noncomputable def ml3 : yj:=plainLib 119 a3 hRoot v3
noncomputable def a4 : List AV:=[(.agg [(.int .i64 (Int.ofNat 0)),(.str [111,105,108]),(.int .i64 (Int.ofNat 1)),(.int .i64 (Int.ofNat 3)),(.int .i64 (Int.ofNat 10)),(.int .i64 (Int.ofNat 3))])]
noncomputable def v4 : AV:=(.bool true)
noncomputable def ml4 : yj:=plainLib 96 a4 hRoot v4
noncomputable def a5 : List AV:=[(.agg [(.int .i64 (Int.ofNat 2)),(.int .i64 (Int.ofNat 0)),(.int .i64 (Int.ofNat 0)),(.str [111,105,108]),(.int .i64 (Int.ofNat 1)),(.int .i64 (Int.ofNat 3)),(.int .i64 (Int.ofNat 10)),(.int .i64 (Int.ofNat 3)),(.int .i64 (Int.ofNat 0))])]
noncomputable def v5 : AV:=(.int .i64 (Int.ofNat 0))
noncomputable def ml5 : yj:=plainLib 59 a5 hRoot v5
noncomputable def a6 : List AV:=[(.agg [(.int .i64 (Int.ofNat 1)),(.int .i64 (Int.ofNat 2))])]
noncomputable def v6 : AV:=(.bool true)
noncomputable def ml6 : yj:=plainLib 119 a6 hRoot v6
noncomputable def a7 : List AV:=[(.agg [(.int .i64 (Int.ofNat 10)),(.str [111,105,108]),(.int .i64 (Int.ofNat 1)),(.int .i64 (Int.ofNat 2)),(.int .i64 (Int.ofNat 10)),(.int .i64 (Int.ofNat 3))])]
noncomputable def v7 : AV:=(.bool true)
noncomputable def ml7 : yj:=plainLib 96 a7 hRoot v7
noncomputable def a8 : List AV:=[(.agg [(.int .i64 (Int.ofNat 3)),(.int .i64 (Int.ofNat 50)),(.int .i64 (Int.ofNat 10)),(.str [111,105,108]),(.int .i64 (Int.ofNat 1)),(.int .i64 (Int.ofNat 2)),(.int .i64 (Int.ofNat 10)),(.int .i64 (Int.ofNat 3)),(.int .i64 (Int.ofNat 0))])]
noncomputable def v8 : AV:=(.int .i64 (Int.ofNat 0))
noncomputable def ml8 : yj:=plainLib 59 a8 hRoot v8
noncomputable def a9 : List AV:=[(.agg [(.int .i64 (Int.ofNat 4)),(.int .i64 (Int.ofNat 90)),(.int .i64 (Int.ofNat 0)),(.str []),(.int .i64 (Int.ofNat 0)),(.int .i64 (Int.ofNat 0)),(.int .i64 (Int.ofNat 0)),(.int .i64 (Int.ofNat 0)),(.int .i64 (Int.ofNat 3))])]
noncomputable def v9 : AV:=(.int .i64 (Int.ofNat 0))
noncomputable def ml9 : yj:=plainLib 59 a9 hRoot v9
noncomputable def a10 : List AV:=[(.slice 100 0 2 2 true),(.agg [(.int .i64 (Int.ofNat 3)),(.int .i64 (Int.ofNat 50)),(.int .i64 (Int.ofNat 10)),(.str [111,105,108]),(.int .i64 (Int.ofNat 1)),(.int .i64 (Int.ofNat 2)),(.int .i64 (Int.ofNat 10)),(.int .i64 (Int.ofNat 3)),(.int .i64 (Int.ofNat 0))]),(.str [111,105,108])]
noncomputable def h10 : List (Nat×ABlock):=hRoot ++ [(100,(.cells [(.int .i64 (Int.ofNat 1)),(.int .i64 (Int.ofNat 0)),(.int .i64 (Int.ofNat 0)),(.str []),(.int .i64 (Int.ofNat 1)),(.int .i64 (Int.ofNat 4)),(.int .i64 (Int.ofNat 20)),(.int .i64 (Int.ofNat 5)),(.int .i64 (Int.ofNat 0)),(.int .i64 (Int.ofNat 2)),(.int .i64 (Int.ofNat 0)),(.int .i64 (Int.ofNat 0)),(.str [111,105,108]),(.int .i64 (Int.ofNat 1)),(.int .i64 (Int.ofNat 3)),(.int .i64 (Int.ofNat 10)),(.int .i64 (Int.ofNat 3)),(.int .i64 (Int.ofNat 0)),(.int .i64 (Int.ofNat 3)),(.int .i64 (Int.ofNat 50)),(.int .i64 (Int.ofNat 10)),(.str [111,105,108]),(.int .i64 (Int.ofNat 1)),(.int .i64 (Int.ofNat 2)),(.int .i64 (Int.ofNat 10)),(.int .i64 (Int.ofNat 3)),(.int .i64 (Int.ofNat 0)),(.int .i64 (Int.ofNat 4)),(.int .i64 (Int.ofNat 90)),(.int .i64 (Int.ofNat 0)),(.str []),(.int .i64 (Int.ofNat 0)),(.int .i64 (Int.ofNat 0)),(.int .i64 (Int.ofNat 0)),(.int .i64 (Int.ofNat 0)),(.int .i64 (Int.ofNat 3))] 26))]
noncomputable def v10 : AV:=(.tuple [(.int .i64 (Int.ofNat 10)),(.int .i64 (Int.ofNat 1000000)),(.bool true),(.int .i64 (Int.ofNat 0))])
noncomputable def w10 : List (Nat×ABlock):=[]
noncomputable def ml10 : yj:=memoLib 11 a10 h10 104 v10 w10 104
noncomputable def a11 : List AV:=[(.agg [(.int .i64 (Int.ofNat 1)),(.int .i64 (Int.ofNat 60)),(.int .i64 (Int.ofNat 55)),(.int .i64 (Int.ofNat 10)),(.int .i64 (Int.ofNat 100)),(.int .i64 (Int.ofNat 7)),(.int .i64 (Int.ofNat 8)),(.int .i64 (Int.ofNat 30)),(.int .i64 (Int.ofNat 0))])]
noncomputable def v11 : AV:=(.int .i64 (Int.ofNat 0))
noncomputable def ml11 : yj:=plainLib 62 a11 hRoot v11
noncomputable def a12 : List AV:=[(.agg [(.int .i64 (Int.ofNat 3)),(.int .i64 (Int.ofNat 50)),(.int .i64 (Int.ofNat 10)),(.str [111,105,108]),(.int .i64 (Int.ofNat 1)),(.int .i64 (Int.ofNat 2)),(.int .i64 (Int.ofNat 10)),(.int .i64 (Int.ofNat 3)),(.int .i64 (Int.ofNat 0))]),(.agg [(.int .i64 (Int.ofNat 1)),(.int .i64 (Int.ofNat 60)),(.int .i64 (Int.ofNat 55)),(.int .i64 (Int.ofNat 10)),(.int .i64 (Int.ofNat 100)),(.int .i64 (Int.ofNat 7)),(.int .i64 (Int.ofNat 8)),(.int .i64 (Int.ofNat 30)),(.int .i64 (Int.ofNat 0))])]
noncomputable def v12 : AV:=(.tuple [(.int .i64 (Int.ofNat 10)),(.int .i64 (Int.ofNat 3)),(.int .i64 (Int.ofNat 0))])
noncomputable def ml12 : yj:=plainLib 42 a12 hRoot v12
noncomputable def a13 : List AV:=[(.agg [(.int .i64 (Int.ofNat 3)),(.int .i64 (Int.ofNat 50)),(.int .i64 (Int.ofNat 10)),(.str [111,105,108]),(.int .i64 (Int.ofNat 1)),(.int .i64 (Int.ofNat 2)),(.int .i64 (Int.ofNat 10)),(.int .i64 (Int.ofNat 3)),(.int .i64 (Int.ofNat 0))]),(.agg [(.int .i64 (Int.ofNat 1)),(.int .i64 (Int.ofNat 60)),(.int .i64 (Int.ofNat 55)),(.int .i64 (Int.ofNat 10)),(.int .i64 (Int.ofNat 100)),(.int .i64 (Int.ofNat 7)),(.int .i64 (Int.ofNat 8)),(.int .i64 (Int.ofNat 30)),(.int .i64 (Int.ofNat 0))]),(.slice 118 0 3 3 true)]
noncomputable def h13 : List (Nat×ABlock):=hRoot ++ [(118,(.cells [(.int .i64 (Int.ofNat 4)),(.int .i64 (Int.ofNat 5)),(.int .i64 (Int.ofNat 4))] 3))]
noncomputable def v13 : AV:=(.tuple [(.agg [(.int .i64 (Int.ofNat 100)),(.int .i64 (Int.ofNat 10)),(.int .i64 (Int.ofNat 3)),(.int .i64 (Int.ofNat 50)),(.int .i64 (Int.ofNat 37)),(.slice 145 0 4 0 false)]),(.int .i64 (Int.ofNat 0))])
noncomputable def w13 : List (Nat×ABlock):=[(145,(.cells [(.int .i64 (Int.ofNat 4)),(.int .i64 (Int.ofNat 33)),(.int .i64 (Int.ofNat 5)),(.int .i64 (Int.ofNat 17)),(.int .i64 (Int.ofNat 7)),(.int .i64 (Int.ofNat 10)),(.int .i64 (Int.ofNat 8)),(.int .i64 (Int.ofNat 3))] 70))]
noncomputable def ml13 : yj:=memoLib 17 a13 h13 119 v13 w13 146
noncomputable def a14 : List AV:=[(.agg [(.int .i64 (Int.ofNat 2)),(.int .i64 (Int.ofNat 0)),(.int .i64 (Int.ofNat 0)),(.str [111,105,108]),(.int .i64 (Int.ofNat 1)),(.int .i64 (Int.ofNat 3)),(.int .i64 (Int.ofNat 10)),(.int .i64 (Int.ofNat 3)),(.int .i64 (Int.ofNat 0))]),(.agg [(.int .i64 (Int.ofNat 1)),(.int .i64 (Int.ofNat 60)),(.int .i64 (Int.ofNat 55)),(.int .i64 (Int.ofNat 10)),(.int .i64 (Int.ofNat 100)),(.int .i64 (Int.ofNat 7)),(.int .i64 (Int.ofNat 8)),(.int .i64 (Int.ofNat 30)),(.int .i64 (Int.ofNat 0))]),(.slice 146 0 1 1 true)]
noncomputable def h14 : List (Nat×ABlock):=hRoot ++ [(146,(.cells [(.int .i64 (Int.ofNat 4))] 3))]
noncomputable def v14 : AV:=(.tuple [(.agg [(.int .i64 (Int.ofNat 100)),(.int .i64 (Int.ofNat 10)),(.int .i64 (Int.ofNat 3)),(.int .i64 (Int.ofNat 33)),(.int .i64 (Int.ofNat 54)),(.slice 174 0 3 0 false)]),(.int .i64 (Int.ofNat 0))])
noncomputable def w14 : List (Nat×ABlock):=[(174,(.cells [(.int .i64 (Int.ofNat 4)),(.int .i64 (Int.ofNat 33)),(.int .i64 (Int.ofNat 7)),(.int .i64 (Int.ofNat 10)),(.int .i64 (Int.ofNat 8)),(.int .i64 (Int.ofNat 3))] 70))]
noncomputable def ml14 : yj:=memoLib 17 a14 h14 150 v14 w14 175
noncomputable def a15 : List AV:=[(.slice 100 0 4 4 true),(.slice 101 0 2 2 true),(.int .i64 (Int.ofNat 10)),(.str [111,105,108]),(.int .i64 (Int.ofNat 5)),(.int .i64 (Int.ofNat 60)),(.slice 146 0 1 1 true)]
noncomputable def h15 : List (Nat×ABlock):=hRoot ++ [(100,(.cells [(.int .i64 (Int.ofNat 1)),(.int .i64 (Int.ofNat 0)),(.int .i64 (Int.ofNat 0)),(.str []),(.int .i64 (Int.ofNat 1)),(.int .i64 (Int.ofNat 4)),(.int .i64 (Int.ofNat 20)),(.int .i64 (Int.ofNat 5)),(.int .i64 (Int.ofNat 0)),(.int .i64 (Int.ofNat 2)),(.int .i64 (Int.ofNat 0)),(.int .i64 (Int.ofNat 0)),(.str [111,105,108]),(.int .i64 (Int.ofNat 1)),(.int .i64 (Int.ofNat 3)),(.int .i64 (Int.ofNat 10)),(.int .i64 (Int.ofNat 3)),(.int .i64 (Int.ofNat 0)),(.int .i64 (Int.ofNat 3)),(.int .i64 (Int.ofNat 50)),(.int .i64 (Int.ofNat 10)),(.str [111,105,108]),(.int .i64 (Int.ofNat 1)),(.int .i64 (Int.ofNat 2)),(.int .i64 (Int.ofNat 10)),(.int .i64 (Int.ofNat 3)),(.int .i64 (Int.ofNat 0)),(.int .i64 (Int.ofNat 4)),(.int .i64 (Int.ofNat 90)),(.int .i64 (Int.ofNat 0)),(.str []),(.int .i64 (Int.ofNat 0)),(.int .i64 (Int.ofNat 0)),(.int .i64 (Int.ofNat 0)),(.int .i64 (Int.ofNat 0)),(.int .i64 (Int.ofNat 3))] 26)),(101,(.cells [(.int .i64 (Int.ofNat 1)),(.int .i64 (Int.ofNat 60)),(.int .i64 (Int.ofNat 55)),(.int .i64 (Int.ofNat 10)),(.int .i64 (Int.ofNat 100)),(.int .i64 (Int.ofNat 7)),(.int .i64 (Int.ofNat 8)),(.int .i64 (Int.ofNat 30)),(.int .i64 (Int.ofNat 0)),(.int .i64 (Int.ofNat 2)),(.int .i64 (Int.ofNat 70)),(.int .i64 (Int.ofNat 66)),(.int .i64 (Int.ofNat 20)),(.int .i64 (Int.ofNat 12)),(.int .i64 (Int.ofNat 7)),(.int .i64 (Int.ofNat 0)),(.int .i64 (Int.ofNat 0)),(.int .i64 (Int.ofNat 0))] 39)),(146,(.cells [(.int .i64 (Int.ofNat 4))] 3))]
noncomputable def v15 : AV:=(.tuple [(.agg [(.int .i64 (Int.ofNat 100)),(.int .i64 (Int.ofNat 10)),(.int .i64 (Int.ofNat 3)),(.int .i64 (Int.ofNat 33)),(.int .i64 (Int.ofNat 54)),(.slice 174 0 3 0 false)]),(.int .i64 (Int.ofNat 0))])
noncomputable def w15 : List (Nat×ABlock):=[(174,(.cells [(.int .i64 (Int.ofNat 4)),(.int .i64 (Int.ofNat 33)),(.int .i64 (Int.ofNat 7)),(.int .i64 (Int.ofNat 10)),(.int .i64 (Int.ofNat 8)),(.int .i64 (Int.ofNat 3))] 70))]
noncomputable def ml15 : yj:=memoLib 19 a15 h15 147 v15 w15 175
noncomputable def a16 : List AV:=[(.slice 100 0 4 4 true),(.str [111,105,108]),(.int .i64 (Int.ofNat 50))]
noncomputable def h16 : List (Nat×ABlock):=hRoot ++ [(100,(.cells [(.int .i64 (Int.ofNat 1)),(.int .i64 (Int.ofNat 0)),(.int .i64 (Int.ofNat 0)),(.str []),(.int .i64 (Int.ofNat 1)),(.int .i64 (Int.ofNat 4)),(.int .i64 (Int.ofNat 20)),(.int .i64 (Int.ofNat 5)),(.int .i64 (Int.ofNat 0)),(.int .i64 (Int.ofNat 2)),(.int .i64 (Int.ofNat 0)),(.int .i64 (Int.ofNat 0)),(.str [111,105,108]),(.int .i64 (Int.ofNat 1)),(.int .i64 (Int.ofNat 3)),(.int .i64 (Int.ofNat 10)),(.int .i64 (Int.ofNat 3)),(.int .i64 (Int.ofNat 0)),(.int .i64 (Int.ofNat 3)),(.int .i64 (Int.ofNat 50)),(.int .i64 (Int.ofNat 10)),(.str [111,105,108]),(.int .i64 (Int.ofNat 1)),(.int .i64 (Int.ofNat 2)),(.int .i64 (Int.ofNat 10)),(.int .i64 (Int.ofNat 3)),(.int .i64 (Int.ofNat 0)),(.int .i64 (Int.ofNat 4)),(.int .i64 (Int.ofNat 90)),(.int .i64 (Int.ofNat 0)),(.str []),(.int .i64 (Int.ofNat 0)),(.int .i64 (Int.ofNat 0)),(.int .i64 (Int.ofNat 0)),(.int .i64 (Int.ofNat 0)),(.int .i64 (Int.ofNat 3))] 26))]
noncomputable def v16 : AV:=(.slice 232 0 2 0 false)
noncomputable def w16 : List (Nat×ABlock):=[(232,(.cells [(.int .i64 (Int.ofNat 0)),(.int .i64 (Int.ofNat 10))] 3))]
noncomputable def ml16 : yj:=memoLib 14 a16 h16 217 v16 w16 233
end Go.Proofs.YtfddkbbjnghefaaGreatDoor.Zs
