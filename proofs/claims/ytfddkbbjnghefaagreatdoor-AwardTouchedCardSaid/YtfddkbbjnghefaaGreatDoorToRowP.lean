/-
  What the row gives a walk: the cells of the package variables that the example function reads.
-/
import Derived.Test.YtfddkbbjnghefaaGreatDoorRows
import Derived.Test.YtfddkbbjnghefaaGreatDoorToRowA
import Derived.Test.YtfddkbbjnghefaaGreatDoorToRunZ
import Derived.Test.YtfddkbbjnghefaaGreatDoorToData
import Derived.KernelRfl
import Derived.MakeChecks
import Derived.Handed
import Derived.ChangeSame
import Derived.ChangeVars
import Derived.JoinedOf
import Derived.RowKit
import Derived.RowKitTokens
import Derived.LaidLaws
import Derived.OpenShut
import Derived.FnData
set_option linter.unusedSimpArgs false
set_option linter.unusedVariables false
namespace Go.Proofs.YtfddkbbjnghefaaGreatDoor
open Go.ChangeShapes Go.WideShapes Go.RowKit
theorem row0 : (((begin Tryz.prog (fun _ _ => 0) default).world.heap[0]?).bind Obj.row?).map (·.2) = some 147:=by kernel_rfl
theorem ty0 : (Tryz.prog.globals[0]?).map (·.type) = some 147:=by kernel_rfl
theorem g0 : Tryz.prog.globalNamed "lagan/claim.nothing" = some 0:=by kernel_rfl
theorem row1 : (((begin Tryz.prog (fun _ _ => 0) default).world.heap[1]?).bind Obj.row?).map (·.2) = some 147:=by kernel_rfl
theorem ty1 : (Tryz.prog.globals[1]?).map (·.type) = some 147:=by kernel_rfl
theorem g1 : Tryz.prog.globalNamed "lagan/claim.whole" = some 1:=by kernel_rfl
theorem u3 : Tryz.prog.underlying 3 = some (.int .i64):=by kernel_rfl
theorem c3 : Tryz.prog.cellsOf 3 = 1:=by kernel_rfl
theorem c147 : Tryz.prog.cellsOf 147 = 2:=by kernel_rfl
theorem many : decide (1 < Tryz.prog.globals.size) = true:=by kernel_rfl
def strT (P : Program) (t : TypeId) : Option (List (Nat×Nat)):=match P.underlying t with
 | some (.struct fs) => some (fs.toList.map fun f => (f.type,f.offset))
 | _ => none
theorem s147 : strT Tryz.prog 147 = some [(3,0),(3,1)]:=by kernel_rfl
theorem typed {W : World} (h : W.ShapedOpen Tryz.prog) {g t : Nat} (hg : g < Tryz.prog.globals.size) (hr : (((begin Tryz.prog (fun _ _ => 0) default).world.heap[g]?).bind Obj.row?).map (·.2) = some t) :
  ∃ cs,W.heap[g]? = some (.cells cs t (0,0)):=by
 cases hx : ((begin Tryz.prog (fun _ _ => 0) default).world.heap[g]?).bind Obj.row? with
 | none => rw [hx] at hr; cases hr
 | some x =>
   rw [hx] at hr
   obtain ⟨z,t'⟩:=x
   have e : t' = t:=Option.some.inj hr
   subst e
   obtain ⟨cs,h1,_⟩:=h.1 g z t' hg hx
   exact ⟨cs,h1⟩
section
variable {H : Type} {enc : TypeId×Value→H} {P : Program} {w : World} {base : Nat} {sp : Nat→Bool} {held : Bool}
end
section
variable {H : Type} {enc : TypeId×Value→H} {w : World} {base : Nat} {sp : Nat→Bool} {held : Bool}
theorem two_ints {P : Program} {t m : Nat} (hs : strT P t = some [(3,0),(3,1)]) (h3 : P.underlying 3 = some (.int .i64)) (hc3 : P.cellsOf 3 = 1) (hc : P.cellsOf t = 2) {cs : List Value} {x : DataW H×List MemPlace} (hd : DataW.trod enc P w base sp held m t cs = some x) :
  ∃ a b : Int,cs = [.int .i64 a,.int .i64 b]∧x.1 = .agg [.lit (.int .i64 a),.lit (.int .i64 b)]∧(Lit.int .i64 a).wf = true∧(Lit.int .i64 b).wf = true:=by
 unfold strT at hs
 split at hs
 ·rename_i fs hu
  obtain ⟨l⟩:=fs
  rcases l with _ | ⟨f0,_ | ⟨f1,_ | ⟨f2,l⟩⟩⟩
  ·simp at hs
  ·simp at hs
  ·simp only [List.map_cons,List.map_nil,Option.some.injEq,List.cons.injEq,Prod.mk.injEq,and_true] at hs
   obtain ⟨⟨t0,o0⟩,t1,o1⟩:=hs
   obtain ⟨y0,y1,n,rfl,hl,h0,h1⟩:=trod_struct2 hu hd
   rw [t0,o0,hc3] at h0
   rw [t1,o1,hc3] at h1
   obtain ⟨a,e0,x0,w0⟩:=DataW.trod_int h3 h0
   obtain ⟨b,e1,x1,w1⟩:=DataW.trod_int h3 h1
   rw [hc] at hl
   rcases cs with _ | ⟨v0,_ | ⟨v1,_ | ⟨v2,l⟩⟩⟩
   ·simp at hl
   ·simp at hl
   ·simp only [List.drop_zero,List.take_succ_cons,List.take_zero,List.cons.injEq,and_true,List.drop_succ_cons] at e0 e1
    subst e0 e1
    exact ⟨a,b,rfl,by rw [x0,x1],w0,w1⟩
   ·simp at hl
  ·simp at hs
 ·cases hs
end
theorem root_is : Zs.hRoot = [(0,Zs.ABlock.cells [.int .i64 0,.int .i64 1] 147),(1,Zs.ABlock.cells [.int .i64 1,.int .i64 1] 147)]:=by kernel_rfl
theorem laid_of {W : World} (hs : W.ShapedOpen Tryz.prog) (h : laidMetH Tryz.prog Rows.awardTouchedRow.laid W) : Zs.LaidL Zs.hRoot W:=by
 rw [MakeChecks.laidMetH_plain _ _ _ (by kernel_rfl)] at h
 obtain ⟨ps,hv,_,_⟩:=h
 obtain ⟨n0,t0,cs0,f0,p0,_,hg0,ht0,hv0,hd0,hv,_⟩:=hv
 obtain ⟨n1,t1,cs1,f1,p1,_,hg1,ht1,hv1,hd1,hv,_⟩:=hv
 clear hv
 obtain rfl:=Option.some.inj (g0.symm.trans hg0)
 obtain rfl:=Option.some.inj (g1.symm.trans hg1)
 obtain rfl:=Option.some.inj (ty0.symm.trans ht0)
 obtain rfl:=Option.some.inj (ty1.symm.trans ht1)
 have hsize : 1 < Tryz.prog.globals.size:=of_decide_eq_true many
 obtain ⟨d0,hb0⟩:=typed hs (show 0 < _ by omega) row0
 obtain ⟨d1,hb1⟩:=typed hs hsize row1
 have e0 : cs0 = d0:=by simpa [World.var?,g0,hb0] using hv0.symm
 have e1 : cs1 = d1:=by simpa [World.var?,g1,hb1] using hv1.symm
 subst e0 e1
 have k0 : W.heap[0]? = some (.cells [Value.int .i64 0,Value.int .i64 1].toArray 147 (0,0)):=by
  obtain ⟨a,b,hc,hx,_,_⟩:=two_ints s147 u3 c3 c147 hd0
  have hm : (DataW.agg [.lit (.int .i64 0),.lit (.int .i64 1)] : DataW Unit) = .agg [.lit (.int .i64 a),.lit (.int .i64 b)]:=(show (Rows.laid_lagan_claim_nothing : DataW Unit) = _ from rfl).symm.trans hx
  simp only [DataW.agg.injEq,List.cons.injEq,DataW.lit.injEq,Lit.int.injEq,true_and,and_true] at hm
  obtain ⟨rfl,rfl⟩:=hm
  rw [hb0,show cs0 = [Value.int .i64 0,Value.int .i64 1].toArray from Array.ext' hc]
 have k1 : W.heap[1]? = some (.cells [Value.int .i64 1,Value.int .i64 1].toArray 147 (0,0)):=by
  obtain ⟨a,b,hc,hx,_,_⟩:=two_ints s147 u3 c3 c147 hd1
  have hm : (DataW.agg [.lit (.int .i64 1),.lit (.int .i64 1)] : DataW Unit) = .agg [.lit (.int .i64 a),.lit (.int .i64 b)]:=(show (Rows.laid_lagan_claim_whole : DataW Unit) = _ from rfl).symm.trans hx
  simp only [DataW.agg.injEq,List.cons.injEq,DataW.lit.injEq,Lit.int.injEq,true_and,and_true] at hm
  obtain ⟨rfl,rfl⟩:=hm
  rw [hb1,show cs1 = [Value.int .i64 1,Value.int .i64 1].toArray from Array.ext' hc]
 rw [root_is]
 intro i b hm
 simp only [List.mem_cons,List.not_mem_nil,or_false,Prod.mk.injEq] at hm
 rcases hm with ⟨rfl,rfl⟩ | ⟨rfl,rfl⟩
 ·exact ⟨_,_,_,rfl,by simp [Zs.instL,Zs.AV.inst],k0⟩
 ·exact ⟨_,_,_,rfl,by simp [Zs.instL,Zs.AV.inst],k1⟩
end Go.Proofs.YtfddkbbjnghefaaGreatDoor
