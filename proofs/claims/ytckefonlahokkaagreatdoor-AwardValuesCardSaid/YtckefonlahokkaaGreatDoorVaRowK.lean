/-
  The row of AwardValues.
-/
import Derived.Test.YtckefonlahokkaaGreatDoorVaRowS
import Derived.Test.YtckefonlahokkaaGreatDoorVaLawL
import Derived.Carry
set_option linter.unusedSimpArgs false
set_option linter.unusedVariables false
namespace Go.Proofs.YtckefonlahokkaaGreatDoor
open Go.ChangeShapes Go.WideShapes Go.ChangeAt Go.RowKit Go.ChangeMaps
theorem u22 : Tryz.prog.underlying 22 = some (.slice 27):=by kernel_rfl
theorem c27 : Tryz.prog.cellsOf 27 = 9:=by kernel_rfl
theorem sch27 : Zs.schT Tryz.prog 6 27 = some Zs.salSch:=by kernel_rfl
structure ListIn (W : World) (v : Value) (b off len cap : Nat) (l : List Zs.Sal9) : Prop where
 eq : v = .slice (some ⟨b,off,none⟩) len cap
 le : len≤cap
 len : l.length = len
 obj : ∃ (pre rest : List Value) (t₀ : TypeId) (fr : Nat×Nat),pre.length = off∧W.heap[b]? = some (.cells (pre ++ ((l.map Zs.Sal9.row).flatten ++ rest)).toArray t₀ fr)
 fit : ∀ r ∈ l.map Zs.Sal9.row,Zs.RowFits Zs.salSch r
set_option maxRecDepth 100000 in
theorem list_in {H : Type} {enc : TypeId×Value→H} {W : World} {r : Reach} {b0 : Nat} {v : Value} {d : DataW H} {ps : List MemPlace} (hv : Value.okWide Tryz.prog W r b0 22 v) (h : DataW.Trod enc Tryz.prog W 0 (fun _ => true) true 22 v d ps) :
  v = .slice none 0 0∨∃ b off len cap l,ListIn W v b off len cap l:=by
 rcases Zs.slice_in u22 sch27 (by rw [c27]; rfl) (by rw [c27]; omega) hv h with h0 | ⟨b,off,len,cap,rows,pre,rest,t₀,fr,h1,h2,h3,h4,h5,h6,h7,h8⟩
 ·exact .inl h0
 ·right
  have hf : rows = (rows.map Zs.toSal9).map Zs.Sal9.row:=Zs.sals_of h7
  rw [hf] at h6 h7
  exact ⟨b,off,len,cap,rows.map Zs.toSal9,h1,h2,by simpa using h4,⟨pre,rest,t₀,fr,h5,h6⟩,h7⟩
theorem salsArg_ins {σ : Zs.Sig} {i v b κ off len cap : Nat} {l : List Zs.Sal9} (hs : σ i = some (b,κ)) (h0 : σ.rho.val v = some (.int .i64 (off : Int))) (h1 : σ.rho.val (v + 1) = some (Zs.salsR l)) (h2 : σ.rho.val (v + 2) = some (.int .i64 (cap : Int))) (hl : l.length = len) (hc : len≤cap) :
  (Zs.salsArg i v).av.inst σ = some (.slice (some ⟨b,off,none⟩) len cap):=by
 have:=Zs.slx_inst (σ:=σ) (w:=9) (base:=.var v) (lo:=.num 0) (len:=.op1 .len (.var (v + 1))) (cap:=.var (v + 2)) hs (Zs.X.nat_iff.2 ⟨.i64,h0⟩) (kl:=0) (Zs.X.nat_iff.2 ⟨.i64,rfl⟩) (kn:=len) (Zs.X.nat_iff.2 ⟨.i64,by simp only [Zs.X.den,h1,Zs.sals_len,hl]⟩) (kc:=cap) (Zs.X.nat_iff.2 ⟨.i64,h2⟩) hc
 simpa [Zs.salsArg,Zs.Arg.av] using this
theorem list_brel {W : World} {v : Value} {b off len cap : Nat} {l : List Zs.Sal9} (h : ListIn W v b off len cap l) {σ : Zs.Sig} {k : Nat} (h0 : σ.rho.val k = some (.int .i64 (off : Int))) (h1 : σ.rho.val (k + 1) = some (Zs.salsR l)) :
  ∃ o,W.heap[b]? = some o∧Zs.BRel Tryz.prog σ 0 (Zs.ABlock.rows 9 Zs.salSch (.var k) (.var (k + 1)) false 27) o:=by
 obtain ⟨pre,rest,t₀,fr,h2,h3⟩:=h.obj
 exact ⟨_,h3,Zs.rows_brel0 (σ:=σ) h1 (Zs.X.nat_iff.2 ⟨.i64,by rw [h2]; exact h0⟩) rfl (Nat.succ_pos 8) h.fit⟩
theorem u23 : Tryz.prog.underlying 23 = some (.slice 3):=by kernel_rfl
theorem sch3 : Zs.schT Tryz.prog 6 3 = some Zs.whoSch:=by kernel_rfl
structure ListInW (W : World) (v : Value) (b off len cap : Nat) (l : List Zs.Who) : Prop where
 eq : v = .slice (some ⟨b,off,none⟩) len cap
 le : len≤cap
 len : l.length = len
 obj : ∃ (pre rest : List Value) (t₀ : TypeId) (fr : Nat×Nat),pre.length = off∧W.heap[b]? = some (.cells (pre ++ ((l.map Zs.Who.row).flatten ++ rest)).toArray t₀ fr)
 fit : ∀ r ∈ l.map Zs.Who.row,Zs.RowFits Zs.whoSch r
set_option maxRecDepth 100000 in
theorem list_inW {H : Type} {enc : TypeId×Value→H} {W : World} {r : Reach} {b0 : Nat} {v : Value} {d : DataW H} {ps : List MemPlace} (hv : Value.okWide Tryz.prog W r b0 23 v) (h : DataW.Trod enc Tryz.prog W 0 (fun _ => true) true 23 v d ps) :
  v = .slice none 0 0∨∃ b off len cap l,ListInW W v b off len cap l:=by
 rcases Zs.slice_in u23 sch3 (by rw [c3]; rfl) (by rw [c3]; omega) hv h with h0 | ⟨b,off,len,cap,rows,pre,rest,t₀,fr,h1,h2,h3,h4,h5,h6,h7,h8⟩
 ·exact .inl h0
 ·right
  have hf : rows = (rows.map Zs.toWho).map Zs.Who.row:=Zs.whos_of h7
  rw [hf] at h6 h7
  exact ⟨b,off,len,cap,rows.map Zs.toWho,h1,h2,by simpa using h4,⟨pre,rest,t₀,fr,h5,h6⟩,h7⟩
theorem whosArg_ins {σ : Zs.Sig} {i v b κ off len cap : Nat} {l : List Zs.Who} (hs : σ i = some (b,κ)) (h0 : σ.rho.val v = some (.int .i64 (off : Int))) (h1 : σ.rho.val (v + 1) = some (Zs.whosR l)) (h2 : σ.rho.val (v + 2) = some (.int .i64 (cap : Int))) (hl : l.length = len) (hc : len≤cap) :
  (Zs.whosArg i v).av.inst σ = some (.slice (some ⟨b,off,none⟩) len cap):=by
 have:=Zs.slx_inst (σ:=σ) (w:=1) (base:=.var v) (lo:=.num 0) (len:=.op1 .len (.var (v + 1))) (cap:=.var (v + 2)) hs (Zs.X.nat_iff.2 ⟨.i64,h0⟩) (kl:=0) (Zs.X.nat_iff.2 ⟨.i64,rfl⟩) (kn:=len) (Zs.X.nat_iff.2 ⟨.i64,by simp only [Zs.X.den,h1,Zs.whos_len,hl]⟩) (kc:=cap) (Zs.X.nat_iff.2 ⟨.i64,h2⟩) hc
 simpa [Zs.whosArg,Zs.Arg.av] using this
theorem list_brelW {W : World} {v : Value} {b off len cap : Nat} {l : List Zs.Who} (h : ListInW W v b off len cap l) {σ : Zs.Sig} {k : Nat} (h0 : σ.rho.val k = some (.int .i64 (off : Int))) (h1 : σ.rho.val (k + 1) = some (Zs.whosR l)) :
  ∃ o,W.heap[b]? = some o∧Zs.BRel Tryz.prog σ 0 (Zs.ABlock.rows 1 Zs.whoSch (.var k) (.var (k + 1)) false 3) o:=by
 obtain ⟨pre,rest,t₀,fr,h2,h3⟩:=h.obj
 exact ⟨_,h3,Zs.rows_brel0 (σ:=σ) h1 (Zs.X.nat_iff.2 ⟨.i64,by rw [h2]; exact h0⟩) rfl (Nat.succ_pos 0) h.fit⟩
def vaVal (o1 c1 : Nat) (l1 : List Zs.Sal9) (o2 c2 : Nat) (l2 : List Zs.Who) (a k : Int) : Nat→Option Value
 | 0 => some (.int .i64 (o1 : Int))
 | 1 => some (Zs.salsR l1)
 | 2 => some (.int .i64 (c1 : Int))
 | 3 => some (.int .i64 a)
 | 4 => some (.int .i64 (o2 : Int))
 | 5 => some (Zs.whosR l2)
 | 6 => some (.int .i64 (c2 : Int))
 | 7 => some (.int .i64 k)
 | _ => none
theorem int_ins {σ : Zs.Sig} {v : Nat} {n : Int} (h : σ.rho.val v = some (.int .i64 n)) : (Zs.Arg.one (.int .i64 v)).av.inst σ = some (.int .i64 n):=v_int h
def at2 (b1 b2 : Nat) : Nat→Nat
 | 60 => b1
 | _ => b2
set_option maxRecDepth 100000 in
theorem values_any {W : World} (hL : Zs.LaidL Zs.hRoot W) {v u : Value} (hv : v = .slice none 0 0∨∃ b off len cap l,ListIn W v b off len cap l) (hu : u = .slice none 0 0∨∃ b off len cap l,ListInW W u b off len cap l) (a k : Int) :
  Calls Tryz.prog 3 #[v,.int .i64 a,u,.int .i64 k] W fun e w' => e = .returned (.bool true)∧Zs.Kept (fun b => W.heap.size≤b) W w':=by
 rcases hv with rfl | ⟨b1,o1,n1,c1,l1,h1⟩ <;> rcases hu with rfl | ⟨b2,o2,n2,c2,l2,h2⟩
 ·let r : Zs.Rho:=⟨vaVal 0 0 [] 0 0 [] a k,Zs.sy⟩
  exact Zs.vaNN_true (r:=r) (σ:=Zs.lawSig [] (fun _ => 0) r) (us:=[.slice none 0 0,.int .i64 a,.slice none 0 0,.int .i64 k]) rfl rfl (fun g id hg => Zs.law_globs hg) (no_list hL _) (.cons rfl (.cons (int_ins rfl) (.cons rfl (.cons (int_ins rfl) .nil))))
 ·let r : Zs.Rho:=⟨vaVal 0 0 [] o2 c2 l2 a k,Zs.sy⟩
  refine Zs.vaNL_true (r:=r) (σ:=Zs.lawSig [(61,Zs.ABlock.rows 1 Zs.whoSch (.var 4) (.var 5) false 3)] (fun _ => b2) r) (us:=[.slice none 0 0,.int .i64 a,u,.int .i64 k]) rfl rfl (fun g id hg => Zs.law_globs hg) (Zs.law_rel (ab:=[(61,Zs.ABlock.rows 1 Zs.whoSch (.var 4) (.var 5) false 3)]) hL root50 rfl fun i blk hm => ?_) ?_
  ·simp only [List.mem_singleton,Prod.mk.injEq] at hm
   obtain ⟨rfl,rfl⟩:=hm
   exact list_brelW h2 rfl rfl
  ·have t2:=whosArg_ins (σ:=Zs.lawSig [(61,Zs.ABlock.rows 1 Zs.whoSch (.var 4) (.var 5) false 3)] (fun _ => b2) r) (i:=61) (v:=4) (b:=b2) (κ:=0) (off:=o2) (len:=n2) (cap:=c2) (l:=l2) rfl rfl rfl rfl h2.len h2.le
   rw [← h2.eq] at t2
   exact .cons rfl (.cons (int_ins rfl) (.cons t2 (.cons (int_ins rfl) .nil)))
 ·let r : Zs.Rho:=⟨vaVal o1 c1 l1 0 0 [] a k,Zs.sy⟩
  refine Zs.vaLN_true (r:=r) (σ:=Zs.lawSig [(60,Zs.ABlock.rows 9 Zs.salSch (.var 0) (.var 1) false 27)] (fun _ => b1) r) (us:=[v,.int .i64 a,.slice none 0 0,.int .i64 k]) rfl rfl (fun g id hg => Zs.law_globs hg) (Zs.law_rel (ab:=[(60,Zs.ABlock.rows 9 Zs.salSch (.var 0) (.var 1) false 27)]) hL root50 rfl fun i blk hm => ?_) ?_
  ·simp only [List.mem_singleton,Prod.mk.injEq] at hm
   obtain ⟨rfl,rfl⟩:=hm
   exact list_brel h1 rfl rfl
  ·have t1:=salsArg_ins (σ:=Zs.lawSig [(60,Zs.ABlock.rows 9 Zs.salSch (.var 0) (.var 1) false 27)] (fun _ => b1) r) (i:=60) (v:=0) (b:=b1) (κ:=0) (off:=o1) (len:=n1) (cap:=c1) (l:=l1) rfl rfl rfl rfl h1.len h1.le
   rw [← h1.eq] at t1
   exact .cons t1 (.cons (int_ins rfl) (.cons rfl (.cons (int_ins rfl) .nil)))
 ·let r : Zs.Rho:=⟨vaVal o1 c1 l1 o2 c2 l2 a k,Zs.sy⟩
  refine Zs.vaLL_true (r:=r) (σ:=Zs.lawSig [(60,Zs.ABlock.rows 9 Zs.salSch (.var 0) (.var 1) false 27),(61,Zs.ABlock.rows 1 Zs.whoSch (.var 4) (.var 5) false 3)] (at2 b1 b2) r) (us:=[v,.int .i64 a,u,.int .i64 k]) rfl rfl (fun g id hg => Zs.law_globs hg) (Zs.law_rel (ab:=[(60,Zs.ABlock.rows 9 Zs.salSch (.var 0) (.var 1) false 27),(61,Zs.ABlock.rows 1 Zs.whoSch (.var 4) (.var 5) false 3)]) hL root50 rfl fun i blk hm => ?_) ?_
  ·simp only [List.mem_cons,List.not_mem_nil,or_false,Prod.mk.injEq] at hm
   rcases hm with ⟨rfl,rfl⟩ | ⟨rfl,rfl⟩
   ·exact list_brel h1 rfl rfl
   ·exact list_brelW h2 rfl rfl
  ·have t1:=salsArg_ins (σ:=Zs.lawSig [(60,Zs.ABlock.rows 9 Zs.salSch (.var 0) (.var 1) false 27),(61,Zs.ABlock.rows 1 Zs.whoSch (.var 4) (.var 5) false 3)] (at2 b1 b2) r) (i:=60) (v:=0) (b:=b1) (κ:=0) (off:=o1) (len:=n1) (cap:=c1) (l:=l1) rfl rfl rfl rfl h1.len h1.le
   rw [← h1.eq] at t1
   have t2:=whosArg_ins (σ:=Zs.lawSig [(60,Zs.ABlock.rows 9 Zs.salSch (.var 0) (.var 1) false 27),(61,Zs.ABlock.rows 1 Zs.whoSch (.var 4) (.var 5) false 3)] (at2 b1 b2) r) (i:=61) (v:=4) (b:=b2) (κ:=0) (off:=o2) (len:=n2) (cap:=c2) (l:=l2) rfl rfl rfl rfl h2.len h2.le
   rw [← h2.eq] at t2
   exact .cons t1 (.cons (int_ins rfl) (.cons t2 (.cons (int_ins rfl) .nil)))
theorem va_readable : ([22,3,23,3].all fun t => Tryz.prog.readableRec t && decide (t < Tryz.prog.types.size)) = true:=by kernel_rfl
set_option maxRecDepth 100000 in
theorem va_lifted (os : Os) (started : os.Started) (H : Type) (enc : TypeId×Value→H) :
  ReturnsInHanded {} Tryz.checked os 3 .any (fun w args => (Rows.awardValuesSpec.pre enc Tryz.prog Tryz.f3 [] false w args∧laidMetH Tryz.prog Rows.awardValuesRow.laid w)∧sizedMet enc Tryz.prog Tryz.f3 (OpenSpec.ofChange Rows.awardValuesSpec) false w args)
   (Rows.awardValuesSpec.post enc Tryz.prog Tryz.f3 false true false false):=by
 refine returns_shaped (C:=Tryz.checked) (X:=fun w _ => laidMetH Tryz.prog Rows.awardValuesRow.laid w) (fun _ _ _ hh h => h.of_heap hh) own started (by kernel_rfl) Tryz.func3
  (ChangeSpec.witness_shaped (enc:=enc) (C:=Tryz.checked) (os:=os) (X:=fun w _ => laidMetH Tryz.prog Rows.awardValuesRow.laid w) false (World.laidAll Tryz.prog os Rows.awardValuesRow.laid) #[.slice none 0 0,.int .i64 0,.slice none 0 0,.int .i64 0] 8 (World.laidAll_os _ _ _)
    (World.shaped_of_ZipB (by kernel_rfl) (by kernel_rfl)) (by kernel_rfl) (by kernel_rfl) (by kernel_rfl)
    (by rw [MakeChecks.laidMetH_plain _ _ _ (by kernel_rfl)]; exact laidMet_laidAll _ (by kernel_rfl) (by kernel_rfl))) ?_
 intro W base args ds gs before hval0 hW hshape hL
 have hval : ∀ (j : Nat) t v,Tryz.f3.params[j]? = some t→args[j]? = some v→Value.okWide Tryz.prog W .any base t v:=hval0
 have hW':=hW
 obtain ⟨p,q,hA0,hV,rfl,_,_⟩:=hW
 have hA : DataW.TrodAll enc Tryz.prog W 0 (fun _ => true) true Tryz.f3.params.toList args.toList ds p:=hA0
 rw [Tryz.params3] at hA hval
 have hAk:=hA
 have hlt:=DataW.TrodAll.lt hA
 obtain ⟨v0,v1,v2,v3,d0,d1,d2,d3,p0,p1,p2,p3,rfl,rfl,rfl,h0,h1,h2,h3⟩:=trodAll_four hA
 obtain ⟨rfl,rfl⟩:=trodVars_none hV
 obtain ⟨x,rfl,rfl,_,_⟩:=open_int (by kernel_rfl : Tryz.prog.underlying 3 = some (.int .i64)) (hval 1 3 v1 rfl rfl) h1
 obtain ⟨y,rfl,rfl,_,_⟩:=open_int (by kernel_rfl : Tryz.prog.underlying 3 = some (.int .i64)) (hval 3 3 v3 rfl rfl) h3
 have hl:=laid_of hshape hL
 simp only [List.append_nil] at hW'
 refine (values_any hl (list_in (hval 0 22 v0 rfl rfl) h0) (list_inW (hval 2 23 v2 rfl rfl) h2) x y).mono fun e W' ⟨he,hk⟩ => ?_
 subst he
 refine ⟨_,rfl,_,_,_,[],p0 ++ p1 ++ p2 ++ p3,[],hW',?_,?_,?_,kept_but hk,fun h => by cases h⟩
 ·exact trodAll_mk1 (shut_bool (by kernel_rfl : Tryz.prog.underlying 4 = some .bool) true)
 ·exact trodAll_stays laidOut hk va_readable hAk hlt
 ·rfl
theorem awardValues_said : Rows.AwardValuesSaid:=
 OpenClaim.holds_of_wide 3 Tryz.f3 rfl rfl rfl rfl rfl rfl rfl ⟨rfl,rfl,rfl,rfl,rfl⟩ rfl rfl rfl rfl rfl (by kernel_rfl) Tryz.func3 (by kernel_rfl)
  (of_decide_eq_true (by kernel_rfl)) (by unfold Func.isWrapper; first | (rw [if_pos (by decide +kernel)]; kernel_rfl) | (rw [if_neg (by decide +kernel)]; exact ⟨rfl,rfl⟩))
  (fun os started H enc _ => va_lifted os started H enc)
end Go.Proofs.YtckefonlahokkaaGreatDoor
