/-
  The row of AwardTouched.
-/
import Derived.Test.YtfddkbbjnghefaaGreatDoorToRowS
import Derived.Test.YtfddkbbjnghefaaGreatDoorToLawW
import Derived.Test.YtfddkbbjnghefaaGreatDoorToLawZ
import Derived.Carry
set_option linter.unusedSimpArgs false
set_option linter.unusedVariables false
namespace Go.Proofs.YtfddkbbjnghefaaGreatDoor
open Go.ChangeShapes Go.WideShapes Go.ChangeAt Go.RowKit Go.ChangeMaps
def isStr : Option TypeDesc→Bool
 | some (.struct _) => true
 | _ => false
theorem no_arrS {o : Option TypeDesc} (h : isStr o = true) (m : Nat) (u' : TypeId) : o≠some (.array m u'):=fun e => by rw [e] at h; cases h
section
variable {H : Type} {enc : TypeId×Value→H} {P : Program} {W : World} {r : Reach} {b0 : Nat}
theorem struct_in {t : TypeId} {d0 : Nat} {sch : List Zs.CK} (ht : isStr (P.underlying t) = true) (hs : Zs.schT P d0 t = some sch) {v : Value} {d : DataW H} {ps : List MemPlace} (hv : Value.okWide P W r b0 t v) (h : DataW.Trod enc P W 0 (fun _ => true) true t v d ps) :
  ∃ row,v = .agg (List.toArray row)∧Zs.RowFits sch row:=by
 unfold Value.okWide at hv
 split at hv
 ·rename_i fs hu
  obtain ⟨cs,rfl,_⟩:=hv
  obtain ⟨n,hn⟩:=h
  exact ⟨cs.toList,rfl,Zs.fits_of d0 t sch hs hn⟩
 ·rename_i m e hu
  exact absurd hu (no_arrS ht _ _)
 ·rename_i h1 h2
  unfold isStr at ht
  split at ht
  ·rename_i fs hu; exact absurd hu (h1 fs)
  ·cases ht
end
theorem v_str {σ : Zs.Sig} {i : Nat} {s : ByteArray} (h : σ.rho.val i = some (.string s)) : (Zs.AV.sstr (.var i)).inst σ = some (.string s):=by
 simp only [Zs.AV.inst,Zs.X.bytes_iff.2 (show (Zs.X.var i).den σ.rho = _ from h)]
theorem u22 : Tryz.prog.underlying 22 = some (.slice 26):=by kernel_rfl
theorem c26 : Tryz.prog.cellsOf 26 = 9:=by kernel_rfl
theorem sch26 : Zs.schT Tryz.prog 6 26 = some Zs.ratSch:=by kernel_rfl
structure ListIn (W : World) (v : Value) (b off len cap : Nat) (l : List Zs.Rat9) : Prop where
 eq : v = .slice (some ⟨b,off,none⟩) len cap
 le : len≤cap
 len : l.length = len
 obj : ∃ (pre rest : List Value) (t₀ : TypeId) (fr : Nat×Nat),pre.length = off∧W.heap[b]? = some (.cells (pre ++ ((l.map Zs.Rat9.row).flatten ++ rest)).toArray t₀ fr)
 fit : ∀ r ∈ l.map Zs.Rat9.row,Zs.RowFits Zs.ratSch r
set_option maxRecDepth 100000 in
theorem list_in {H : Type} {enc : TypeId×Value→H} {W : World} {r : Reach} {b0 : Nat} {v : Value} {d : DataW H} {ps : List MemPlace} (hv : Value.okWide Tryz.prog W r b0 22 v) (h : DataW.Trod enc Tryz.prog W 0 (fun _ => true) true 22 v d ps) :
  v = .slice none 0 0∨∃ b off len cap l,ListIn W v b off len cap l:=by
 rcases Zs.slice_in u22 sch26 (by rw [c26]; rfl) (by rw [c26]; omega) hv h with h0 | ⟨b,off,len,cap,rows,pre,rest,t₀,fr,h1,h2,h3,h4,h5,h6,h7,h8⟩
 ·exact .inl h0
 ·right
  have hf : rows = (rows.map Zs.toRat9).map Zs.Rat9.row:=Zs.rats_of h7
  rw [hf] at h6 h7
  exact ⟨b,off,len,cap,rows.map Zs.toRat9,h1,h2,by simpa using h4,⟨pre,rest,t₀,fr,h5,h6⟩,h7⟩
theorem ratsArg_ins {σ : Zs.Sig} {i v b κ off len cap : Nat} {l : List Zs.Rat9} (hs : σ i = some (b,κ)) (h0 : σ.rho.val v = some (.int .i64 (off : Int))) (h1 : σ.rho.val (v + 1) = some (Zs.ratsR l)) (h2 : σ.rho.val (v + 2) = some (.int .i64 (cap : Int))) (hl : l.length = len) (hc : len≤cap) :
  (Zs.ratsArg i v).av.inst σ = some (.slice (some ⟨b,off,none⟩) len cap):=by
 have:=Zs.slx_inst (σ:=σ) (w:=9) (base:=.var v) (lo:=.num 0) (len:=.op1 .len (.var (v + 1))) (cap:=.var (v + 2)) hs (Zs.X.nat_iff.2 ⟨.i64,h0⟩) (kl:=0) (Zs.X.nat_iff.2 ⟨.i64,rfl⟩) (kn:=len) (Zs.X.nat_iff.2 ⟨.i64,by simp only [Zs.X.den,h1,Zs.rats_len,hl]⟩) (kc:=cap) (Zs.X.nat_iff.2 ⟨.i64,h2⟩) hc
 simpa [Zs.ratsArg,Zs.Arg.av] using this
theorem list_brel {W : World} {v : Value} {b off len cap : Nat} {l : List Zs.Rat9} (h : ListIn W v b off len cap l) {σ : Zs.Sig} {k : Nat} (h0 : σ.rho.val k = some (.int .i64 (off : Int))) (h1 : σ.rho.val (k + 1) = some (Zs.ratsR l)) :
  ∃ o,W.heap[b]? = some o∧Zs.BRel Tryz.prog σ 0 (Zs.ABlock.rows 9 Zs.ratSch (.var k) (.var (k + 1)) false 26) o:=by
 obtain ⟨pre,rest,t₀,fr,h2,h3⟩:=h.obj
 exact ⟨_,h3,Zs.rows_brel0 (σ:=σ) h1 (Zs.X.nat_iff.2 ⟨.i64,by rw [h2]; exact h0⟩) rfl (Nat.succ_pos 8) h.fit⟩
theorem str_rat : isStr (Tryz.prog.underlying 26) = true:=by kernel_rfl
theorem sch_rat : Zs.schT Tryz.prog 6 26 = some Zs.ratSch:=by kernel_rfl
set_option maxRecDepth 100000 in
theorem rat_in {H : Type} {enc : TypeId×Value→H} {W : World} {r : Reach} {b0 : Nat} {v : Value} {d : DataW H} {ps : List MemPlace} (hv : Value.okWide Tryz.prog W r b0 26 v) (h : DataW.Trod enc Tryz.prog W 0 (fun _ => true) true 26 v d ps) :
  ∃ p : Zs.Rat9,v = .agg p.row.toArray:=by
 obtain ⟨row,h1,h2⟩:=struct_in str_rat sch_rat hv h
 exact ⟨Zs.toRat9 row,by rw [h1,← Zs.rat_row h2]⟩
theorem rat_ins {σ : Zs.Sig} {v : Nat} {p : Zs.Rat9} (h : ∀ j,j < 9→σ.rho.val (v + j) = p.row[j]?) : (Zs.Arg.agg (Zs.ratLeaves v)).av.inst σ = some (.agg p.row.toArray):=by
 have h0:=h 0 (by omega); have h1:=h 1 (by omega); have h2:=h 2 (by omega); have h3:=h 3 (by omega); have h4:=h 4 (by omega); have h5:=h 5 (by omega); have h6:=h 6 (by omega); have h7:=h 7 (by omega); have h8:=h 8 (by omega)
 rw [Zs.rat0] at h0; rw [Zs.rat1] at h1; rw [Zs.rat2] at h2; rw [Zs.rat3] at h3; rw [Zs.rat4] at h4; rw [Zs.rat5] at h5; rw [Zs.rat6] at h6; rw [Zs.rat7] at h7; rw [Zs.rat8] at h8
 have hi : Zs.Ins σ ((Zs.ratLeaves v).map Zs.Leaf.av) p.row:=
  .cons (v_int h0) (.cons (v_int h1) (.cons (v_int h2) (.cons (v_str h3) (.cons (v_int h4) (.cons (v_int h5) (.cons (v_int h6) (.cons (v_int h7) (.cons (v_int h8) .nil))))))))
 simp only [Zs.Arg.av,Zs.AV.inst,Zs.instL_iff.2 hi]
def foVal (off cap : Nat) (l : List Zs.Rat9) (x : Zs.Rat9) (g : ByteArray) (h : Int) : Nat→Option Value
 | 0 => some (.int .i64 (off : Int))
 | 1 => some (Zs.ratsR l)
 | 2 => some (.int .i64 (cap : Int))
 | 3 => x.row[0]?
 | 4 => x.row[1]?
 | 5 => x.row[2]?
 | 6 => x.row[3]?
 | 7 => x.row[4]?
 | 8 => x.row[5]?
 | 9 => x.row[6]?
 | 10 => x.row[7]?
 | 11 => x.row[8]?
 | 12 => some (.string g)
 | 13 => some (.int .i64 h)
 | _ => none
theorem foVal_x {off cap : Nat} {l : List Zs.Rat9} {x : Zs.Rat9} {g : ByteArray} {h : Int} (j : Nat) (hj : j < 9) : foVal off cap l x g h (3 + j) = x.row[j]?:=by
 rcases j with _ | _ | _ | _ | _ | _ | _ | _ | _ | j <;> first | rfl | omega
set_option maxRecDepth 100000 in
theorem touched_any {W : World} (hL : Zs.LaidL Zs.hRoot W) {v : Value} (hv : v = .slice none 0 0∨∃ b off len cap l,ListIn W v b off len cap l) (x : Zs.Rat9) (g : ByteArray) (hr : Int) :
  Calls Tryz.prog 5 #[v,.agg x.row.toArray,.string g,.int .i64 hr] W fun e w' => e = .returned (.bool true)∧Zs.Kept (fun b => W.heap.size≤b) W w':=by
 rcases hv with rfl | ⟨b,off,len,cap,l,h⟩
 ·let r : Zs.Rho:=⟨foVal 0 0 [] x g hr,Zs.sy⟩
  have hx : Zs.Rat9At r 3 (fun _ => .i64) x:=⟨rfl,rfl,rfl,rfl,rfl,rfl,rfl,rfl,rfl⟩
  by_cases hc : Zs.chkER [x] = 0
  ·cases ht : (Zs.tch [] [x] g x.known).is with
   | false => exact Zs.tzN_true (r:=r) (σ:=Zs.lawSig [] (fun _ => 0) r) (us:=[.slice none 0 0,.agg x.row.toArray,.string g,.int .i64 hr]) hx rfl rfl hc ht rfl rfl (fun g id hg => Zs.law_globs hg) (no_list hL r) (.cons rfl (.cons (rat_ins (v:=3) foVal_x) (.cons (v_str rfl) (.cons (v_int (k':=.i64) rfl) .nil))))
   | true => exact Zs.tzY_true (r:=r) (σ:=Zs.lawSig [] (fun _ => 0) r) (us:=[.slice none 0 0,.agg x.row.toArray,.string g,.int .i64 hr]) hx rfl rfl hc ht rfl rfl (fun g id hg => Zs.law_globs hg) (no_list hL r) (.cons rfl (.cons (rat_ins (v:=3) foVal_x) (.cons (v_str rfl) (.cons (v_int (k':=.i64) rfl) .nil))))
  ·exact Zs.tzE_true (r:=r) (σ:=Zs.lawSig [] (fun _ => 0) r) (us:=[.slice none 0 0,.agg x.row.toArray,.string g,.int .i64 hr]) hx rfl rfl hc rfl rfl (fun g id hg => Zs.law_globs hg) (no_list hL r) (.cons rfl (.cons (rat_ins (v:=3) foVal_x) (.cons (v_str rfl) (.cons (v_int (k':=.i64) rfl) .nil))))
 ·let r : Zs.Rho:=⟨foVal off cap l x g hr,Zs.sy⟩
  have hx : Zs.Rat9At r 3 (fun _ => .i64) x:=⟨rfl,rfl,rfl,rfl,rfl,rfl,rfl,rfl,rfl⟩
  have t1:=ratsArg_ins (σ:=Zs.lawSig [(60,Zs.ABlock.rows 9 Zs.ratSch (.var 0) (.var 1) false 26)] (fun _ => b) r) (i:=60) (v:=0) (b:=b) (κ:=0) (off:=off) (len:=len) (cap:=cap) (l:=l) rfl rfl rfl rfl h.len h.le
  rw [← h.eq] at t1
  have hR : ∀ (i : Nat) (blk : Zs.ABlock),(i,blk) ∈ [(60,Zs.ABlock.rows 9 Zs.ratSch (.var 0) (.var 1) false 26)]→∃ o,W.heap[(fun _ => b) i]? = some o∧Zs.BRel Tryz.prog (Zs.lawSig [(60,Zs.ABlock.rows 9 Zs.ratSch (.var 0) (.var 1) false 26)] (fun _ => b) r) 0 blk o:=fun i blk hm => by
   simp only [List.mem_singleton,Prod.mk.injEq] at hm
   obtain ⟨rfl,rfl⟩:=hm
   exact list_brel h rfl rfl
  by_cases hc : Zs.chkER (l ++ [x]) = 0
  ·cases ht : (Zs.tch l (l ++ [x]) g x.known).is with
   | false => exact Zs.toN_true (r:=r) (σ:=Zs.lawSig [(60,Zs.ABlock.rows 9 Zs.ratSch (.var 0) (.var 1) false 26)] (fun _ => b) r) (us:=[v,.agg x.row.toArray,.string g,.int .i64 hr]) rfl hx rfl rfl hc ht rfl rfl (fun g id hg => Zs.law_globs hg) (Zs.law_rel (ab:=[(60,Zs.ABlock.rows 9 Zs.ratSch (.var 0) (.var 1) false 26)]) hL root50 rfl hR) (.cons t1 (.cons (rat_ins (v:=3) foVal_x) (.cons (v_str rfl) (.cons (v_int (k':=.i64) rfl) .nil))))
   | true => exact Zs.toY_true (r:=r) (σ:=Zs.lawSig [(60,Zs.ABlock.rows 9 Zs.ratSch (.var 0) (.var 1) false 26)] (fun _ => b) r) (us:=[v,.agg x.row.toArray,.string g,.int .i64 hr]) rfl hx rfl rfl hc ht rfl rfl (fun g id hg => Zs.law_globs hg) (Zs.law_rel (ab:=[(60,Zs.ABlock.rows 9 Zs.ratSch (.var 0) (.var 1) false 26)]) hL root50 rfl hR) (.cons t1 (.cons (rat_ins (v:=3) foVal_x) (.cons (v_str rfl) (.cons (v_int (k':=.i64) rfl) .nil))))
  ·exact Zs.toE_true (r:=r) (σ:=Zs.lawSig [(60,Zs.ABlock.rows 9 Zs.ratSch (.var 0) (.var 1) false 26)] (fun _ => b) r) (us:=[v,.agg x.row.toArray,.string g,.int .i64 hr]) rfl hx rfl rfl hc rfl rfl (fun g id hg => Zs.law_globs hg) (Zs.law_rel (ab:=[(60,Zs.ABlock.rows 9 Zs.ratSch (.var 0) (.var 1) false 26)]) hL root50 rfl hR) (.cons t1 (.cons (rat_ins (v:=3) foVal_x) (.cons (v_str rfl) (.cons (v_int (k':=.i64) rfl) .nil))))
theorem to_readable : ([22,26,9,3].all fun t => Tryz.prog.readableRec t && decide (t < Tryz.prog.types.size)) = true:=by kernel_rfl
set_option maxRecDepth 100000 in
theorem to_lifted (os : Os) (started : os.Started) (H : Type) (enc : TypeId×Value→H) :
  ReturnsInHanded {} Tryz.checked os 5 .any (fun w args => (Rows.awardTouchedSpec.pre enc Tryz.prog Tryz.f5 [] false w args∧laidMetH Tryz.prog Rows.awardTouchedRow.laid w)∧sizedMet enc Tryz.prog Tryz.f5 (OpenSpec.ofChange Rows.awardTouchedSpec) false w args)
   (Rows.awardTouchedSpec.post enc Tryz.prog Tryz.f5 false true false false):=by
 refine returns_shaped (C:=Tryz.checked) (X:=fun w _ => laidMetH Tryz.prog Rows.awardTouchedRow.laid w) (fun _ _ _ hh h => h.of_heap hh) own started (by kernel_rfl) Tryz.func5
  (ChangeSpec.witness_shaped (enc:=enc) (C:=Tryz.checked) (os:=os) (X:=fun w _ => laidMetH Tryz.prog Rows.awardTouchedRow.laid w) false (World.laidAll Tryz.prog os Rows.awardTouchedRow.laid) #[.slice none 0 0,.agg #[.int .i64 0,.int .i64 0,.int .i64 0,.string ⟨#[]⟩,.int .i64 0,.int .i64 0,.int .i64 0,.int .i64 0,.int .i64 0],.string ⟨#[]⟩,.int .i64 0] 8 (World.laidAll_os _ _ _)
    (World.shaped_of_ZipB (by kernel_rfl) (by kernel_rfl)) (by kernel_rfl) (by kernel_rfl) (by kernel_rfl)
    (by rw [MakeChecks.laidMetH_plain _ _ _ (by kernel_rfl)]; exact laidMet_laidAll _ (by kernel_rfl) (by kernel_rfl))) ?_
 intro W base args ds gs before hval0 hW hshape hL
 have hval : ∀ (j : Nat) t v,Tryz.f5.params[j]? = some t→args[j]? = some v→Value.okWide Tryz.prog W .any base t v:=hval0
 have hW':=hW
 obtain ⟨p,q,hA0,hV,rfl,_,_⟩:=hW
 have hA : DataW.TrodAll enc Tryz.prog W 0 (fun _ => true) true Tryz.f5.params.toList args.toList ds p:=hA0
 rw [Tryz.params5] at hA hval
 have hAk:=hA
 have hlt:=DataW.TrodAll.lt hA
 obtain ⟨v0,v1,v2,v3,d0,d1,d2,d3,p0,p1,p2,p3,rfl,rfl,rfl,h0,h1,h2,h3⟩:=trodAll_four hA
 obtain ⟨rfl,rfl⟩:=trodVars_none hV
 obtain ⟨x_,rfl⟩:=rat_in (hval 1 26 v1 rfl rfl) h1
 obtain ⟨g_,rfl,rfl,_,_⟩:=open_string (by kernel_rfl : Tryz.prog.underlying 9 = some .string) (hval 2 9 v2 rfl rfl) h2
 obtain ⟨y,rfl,rfl,_,_⟩:=open_int (by kernel_rfl : Tryz.prog.underlying 3 = some (.int .i64)) (hval 3 3 v3 rfl rfl) h3
 have hl:=laid_of hshape hL
 simp only [List.append_nil] at hW'
 refine (touched_any hl (list_in (hval 0 22 v0 rfl rfl) h0) x_ g_ y).mono fun e W' ⟨he,hk⟩ => ?_
 subst he
 refine ⟨_,rfl,_,_,_,[],p0 ++ p1 ++ p2 ++ p3,[],hW',?_,?_,?_,kept_but hk,fun h => by cases h⟩
 ·exact trodAll_mk1 (shut_bool (by kernel_rfl : Tryz.prog.underlying 4 = some .bool) true)
 ·exact trodAll_stays laidOut hk to_readable hAk hlt
 ·rfl
theorem awardTouched_said : Rows.AwardTouchedSaid:=
 OpenClaim.holds_of_wide 5 Tryz.f5 rfl rfl rfl rfl rfl rfl rfl ⟨rfl,rfl,rfl,rfl,rfl⟩ rfl rfl rfl rfl rfl (by kernel_rfl) Tryz.func5 (by kernel_rfl)
  (of_decide_eq_true (by kernel_rfl)) (by unfold Func.isWrapper; first | (rw [if_pos (by decide +kernel)]; kernel_rfl) | (rw [if_neg (by decide +kernel)]; exact ⟨rfl,rfl⟩))
  (fun os started H enc _ => to_lifted os started H enc)
end Go.Proofs.YtfddkbbjnghefaaGreatDoor
