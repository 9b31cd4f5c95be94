/-
  What the laws' rows share.
-/
import Derived.Test.YtfddkbbjnghefaaGreatDoorToRowP
import Derived.Test.YtfddkbbjnghefaaGreatDoorRows
import Derived.ProofKit
import Derived.OpenShut
import Derived.LaidMore
import Derived.Lay
import Derived.SevenTiedAt
import Derived.Stop.Joined
import Derived.WideKeyArgs
import Derived.ReadAgain
set_option linter.unusedSimpArgs false
set_option linter.unusedVariables false
namespace Go.Proofs.YtfddkbbjnghefaaGreatDoor
open Go.ChangeShapes Go.WideShapes Go.ChangeAt Go.RowKit Go.ChangeMaps
section
variable {H : Type} {enc : TypeId×Value→H}
theorem returns_shaped {a : Assume} {C : Checked} {os : Os} {f : FuncId} {fn : Func} {s : ChangeSpec} {conds : List PathCond} {apart fresh handsOn again : Bool} {X : World→Array Value→Prop}
  (hX : ∀ (w w' : World) (args : Array Value),w.heap = w'.heap→X w args→X w' args)
  (own : ownKnob C.prog.godebug = none) (started : os.Started) (noInit : C.prog.inits.idxOf? f = none) (hfn : C.prog.funcs[f]? = some fn)
  (witness : ∃ (w : World) (tape : Tape) (i : Input),w.os = os∧(w.forCall tape i).Shaped C.prog∧i.vars = []∧Input.okWide C.prog (w.forCall tape i) .any w.heap.size f i ∧
    ((s.pre enc C.prog fn conds apart (w.forCall tape i).memory i.args∧X (w.forCall tape i).memory i.args)∧sizedMet enc C.prog fn (OpenSpec.ofChange s) apart (w.forCall tape i).memory i.args)∧a.holds C.prog (lone (Frame.enter C.prog f i.args .normal) [] (w.forCall tape i)))
  (contract : ∀ (W : World) (base : Nat) (args : Array Value) (ds gs : List (DataW H)) (before : List MemPlace),
    (∀ (j : Nat) t v,fn.params[j]? = some t→args[j]? = some v→Value.okWide C.prog W .any base t v) →
    DataW.Whole enc C.prog fn.params.toList s.vars apart W args.toList ds gs before→W.ShapedOpen C.prog→X W args →
    Calls C.prog f args W fun e W' => ∃ v,e = .returned v∧s.post enc C.prog fn apart fresh handsOn again W args v W') :
  ReturnsInHanded a C os f .any (fun w args => (s.pre enc C.prog fn conds apart w args∧X w args)∧sizedMet enc C.prog fn (OpenSpec.ofChange s) apart w args) (s.post enc C.prog fn apart fresh handsOn again):=by
 refine returnsInHanded_of_calls own started noInit witness ?_
 intro w tape i _ hshape _ hok hpre _
 obtain ⟨_,_,_,fn',hfn',_,_,_,_,hval⟩:=hok
 obtain rfl : fn' = fn:=Option.some.inj (hfn'.symm.trans hfn)
 obtain ⟨⟨⟨ds,gs,before,hw,_⟩,hx⟩,_⟩:=hpre
 have hw':=DataW.Whole.of_heap (w':=w.forCall tape i) (by rfl) hw
 refine (contract (w.forCall tape i) w.heap.size i.args ds gs before hval hw' hshape (hX _ _ _ (by rfl) hx)).mono fun e W' ⟨v,he,hp⟩ => ?_
 subst he
 exact ChangeSpec.post_blind hp
end
theorem kept_but {w w' : World} {may : MemPlace→Prop} (h : Zs.Kept (fun b => w.heap.size≤b) w w') : w.keptBut w' may:=by
 refine ⟨h.out.1,h.out.2,fun i hi => ?_⟩
 rw [h.same i (by omega)]
 generalize w.heap[i]? = x
 cases x with
 | none => rfl
 | some o => cases o <;> first | exact ⟨rfl,rfl,rfl,fun _ _ => rfl⟩ | exact .inr ⟨rfl,rfl⟩ | rfl
theorem own : ownKnob Tryz.prog.godebug = none:=by kernel_rfl
theorem root50 : (Zs.hRoot.all fun p => Nat.blt p.1 50) = true:=by kernel_rfl
theorem same_at {W W' : World} (h : Zs.Kept (fun b => W.heap.size≤b) W W') {p : MemPlace} (hp : p.block < W.heap.size) : W.sameAt W' p:=by
 cases p with
 | cell b off =>
   have e:=h.same b (by simp only [MemPlace.block] at hp; omega)
   simp only [World.sameAt,World.cell?,e]
 | map b => exact h.same b (by simp only [MemPlace.block] at hp; omega)
section
variable {H : Type} {enc : TypeId×Value→H} {P : Program}
theorem trodAll_stays {W W' : World} (hl : laidOutB P = true) (hk : Zs.Kept (fun b => W.heap.size≤b) W W') : ∀ {ts : List TypeId} {vs : List Value} {ds : List (DataW H)} {ps : List MemPlace},(ts.all fun t => P.readableRec t && decide (t < P.types.size)) = true →
  DataW.TrodAll enc P W 0 (fun _ => true) true ts vs ds ps→(∀ p ∈ ps,p.block < W.heap.size)→DataW.TrodAll enc P W' 0 (fun b => decide (b < W.heap.size)) true ts vs ds ps
 | [],[],[],_,_,h,_ => h
 | t :: ts,v :: vs,d :: ds,_,ht,⟨p,q,h1,h2,e⟩,hs => by
   simp only [List.all_cons,Bool.and_eq_true,decide_eq_true_eq] at ht
   obtain ⟨⟨t1,t2⟩,t3⟩:=ht
   refine ⟨p,q,Go.WideElems.Trod_stays hl t1 t2 h1 (fun x hx => same_at hk (hs x (by rw [e]; exact List.mem_append_left _ hx))) (fun x hx => ?_),trodAll_stays hl hk t3 h2 (fun x hx => hs x (by rw [e]; exact List.mem_append_right _ hx)),e⟩
   simpa using hs x (by rw [e]; exact List.mem_append_left _ hx)
end
theorem v_int {σ : Zs.Sig} {k : IntKind} {i : Nat} {n : Int} {k' : IntKind} (h : σ.rho.val i = some (.int k' n)) : (Zs.AV.sint k (.var i)).inst σ = some (.int k n):=by
 simp only [Zs.AV.inst,Zs.X.int_iff.2 ⟨k',show (Zs.X.var i).den σ.rho = _ from h⟩]
set_option maxRecDepth 100000 in
theorem no_list {W : World} (hL : Zs.LaidL Zs.hRoot W) (r : Zs.Rho) : (Zs.memOf (Zs.hRoot ++ []) 100).rel Tryz.prog (Zs.lawSig [] (fun _ => 0) r) W (fun b => W.heap.size≤b):=
 Zs.law_rel hL root50 rfl (fun i blk hm => by cases hm)
theorem laidOut : laidOutB Tryz.prog = true:=by kernel_rfl
end Go.Proofs.YtfddkbbjnghefaaGreatDoor
