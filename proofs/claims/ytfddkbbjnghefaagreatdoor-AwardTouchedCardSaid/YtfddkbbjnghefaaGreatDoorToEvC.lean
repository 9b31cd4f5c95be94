/-
  Building values; slices: making, slicing, appending, copying.
-/
import Derived.Test.YtfddkbbjnghefaaGreatDoorToEvB
import Derived.MapKept
set_option linter.unusedSimpArgs false
set_option linter.unusedVariables false
namespace Go.Proofs.YtfddkbbjnghefaaGreatDoor.Zs
open Go
section
variable {E : Env} {σ : Sig} {S S' : ASt} {w : World} {Wr : Nat→Prop}
noncomputable def sizesOf (E : Env) : List Field→Option (List (Nat×Nat))
 | [] => some []
 | f :: l => match E.size f.type with
   | some n => match sizesOf E l with
     | some m => some ((f.offset,n) :: m)
     | none => none
   | none => none
theorem sizesOf_ok (hE : E.Ok) : ∀ {l : List Field} {m : List (Nat×Nat)},sizesOf E l = some m→∀ w : World,
  (l.mapM fun f => do pure (f.offset,← sizeOf f.type) : Sem (List (Nat×Nat))).run E.P w = .ok m w
 | [],m,h,w => by simp only [sizesOf,Option.some.injEq] at h; subst h; simp
 | f :: l,m,h,w => by
   simp only [sizesOf] at h
   split at h
   ·rename_i n hn
    split at h
    ·rename_i m' hm
     cases h
     have ih:=sizesOf_ok hE hm w
     rw [List.mapM_cons]
     simp only [Sem.run_bind,z8 hE hn,Result.andThen_ok,Sem.run_pure,ih]
    ·cases h
   ·cases h
noncomputable def abuild (E : Env) (t : TypeId) (parts : List (Nat×AV)) : Option AV:=
 match E.zero t with
 | some z => match E.und t with
   | some (.struct fs) => match sizesOf E fs.toList with
     | some m => match afill (m[·]?) z.cells parts with
       | some cs => some (.agg cs)
       | none => none
     | none => none
   | some (.array _ elem) => match E.size elem with
     | some n => match afill (fun i => some (i * n,n)) z.cells parts with
       | some cs => some (.agg cs)
       | none => none
     | none => none
   | _ => none
 | none => none
noncomputable def abuild' (E : Env) (t : TypeId) (parts : List (Nat×AV)) : Option AV:=
 match E.zero t with
 | some z => match z.isTuple with
   | true => none
   | false => abuild E t parts
 | none => none
theorem abuild_ok (hE : E.Ok) (hS : S.rel E.P σ w Wr) {t : TypeId} {parts : List (Nat×AV)} {qs : Array (Nat×Value)} {v : AV} (h1 : parts.map (·.1) = qs.toList.map (·.1))
  (h2 : Ins σ (parts.map (·.2)) (qs.toList.map (·.2))) (h : abuild' E t parts = some v) :
  RPost σ w ((Instr.build t qs).run E.P w) v:=by
 unfold abuild' at h
 split at h
 ·rename_i z hz0
  split at h
  ·cases h
  ·rename_i ht
   unfold abuild at h
   rw [hz0] at h
   obtain ⟨zv,i,_,_,hi,hr⟩:=run_zero (σ:=σ) hE hz0
   have hc:=AV.cells_inst hi (AV.not_tuple ht)
   simp only at h
   split at h
   ·rename_i fs hfs
    split at h
    ·rename_i m hm
     split at h
     ·rename_i cs hcs
      cases h
      obtain ⟨os,ho,hf⟩:=fill_ok h1 h2 hc hcs
      simp only [Array.toArray_toList] at hf
      have hmm : (fs.mapM fun f => do pure (f.offset,← sizeOf f.type) : Sem (Array (Nat×Nat))).run E.P w = .ok m.toArray w:=by
       have e:=sizesOf_ok hE hm w
       rw [← Array.toArray_toList (xs:=fs),List.mapM_toArray,Sem.run_map,e]
       rfl
      refine .same hS (u:=.agg os.toArray) ?_ (by simp [AV.inst,instL_iff.2 ho])
      simp only [Instr.build,Sem.run_bind,hr,zA hE hfs,hmm,Result.andThen_ok]
      simp [hf]
     ·cases h
    ·cases h
   ·rename_i n elem hfs
    split at h
    ·rename_i k hk
     split at h
     ·rename_i cs hcs
      cases h
      obtain ⟨os,ho,hf⟩:=fill_ok h1 h2 hc hcs
      simp only [Array.toArray_toList] at hf
      refine .same hS (u:=.agg os.toArray) ?_ (by simp [AV.inst,instL_iff.2 ho])
      simp [Instr.build,hr,zA hE hfs,z8 hE hk,hf]
     ·cases h
    ·cases h
   ·cases h
 ·cases h
noncomputable def azeros (zc : List AV) (n : Nat) : List AV:=(List.range n).map fun i => zc.getD (i % zc.length) .nilIface
theorem azeros_ok {zc : List AV} {zs : List Value} (h : Ins σ zc zs) (n : Nat) (hn : n = 0∨0 < zc.length) :
  Ins σ (azeros zc n) ((List.range n).map fun i => zs.toArray[i % zs.length]!):=by
 have hlen:=h.length
 have key : ∀ l : List Nat,(l = []∨0 < zc.length)→Ins σ (l.map fun i => zc.getD (i % zc.length) .nilIface) (l.map fun i => zs.toArray[i % zs.length]!):=by
  intro l
  induction l with
  | nil => intro _; exact .nil
  | cons i l ih =>
    intro hl
    have hp : 0 < zc.length:=by rcases hl with hl | hl; cases hl; exact hl
    have hlt : i % zc.length < zc.length:=Nat.mod_lt _ hp
    simp only [List.map_cons]
    refine .cons ?_ (ih (.inr hp))
    obtain ⟨v,hv,hi⟩:=h.get (List.getElem?_eq_getElem hlt)
    rw [List.getD_eq_getElem?_getD,List.getElem?_eq_getElem hlt,Option.getD_some,hlen]
    rw [hi]
    congr 1
    have hlt' : i % zc.length < zs.length:=by omega
    rw [getElem!_pos zs.toArray _ (by simpa using hlt')]
    have:=List.getElem?_eq_getElem hlt'
    rw [this] at hv
    simpa using hv.symm
 refine key _ ?_
 rcases hn with rfl | hn
 ·exact .inl rfl
 ·exact .inr hn
noncomputable def abuildSlice (E : Env) (S : ASt) (t : TypeId) (len : Nat) (parts : List (Nat×AV)) : Option (AV×ASt):=
 match E.und t with
 | some (.slice elem) => match E.size elem with
   | some size => match E.zero elem with
     | some z => match z.isTuple with
       | true => none
       | false => match Nat.ble (len * size) 16777216 && (Nat.beq (len * size) 0 || Nat.blt 0 z.cells.length) with
         | true => match afill (fun i => some (i * size,size)) (azeros z.cells (len * size)) parts with
           | some cs => match anew S (.cells cs elem) with
             | some S' => some (.slice S.next 0 len len true,S')
             | none => none
           | none => none
         | false => none
     | none => none
   | none => none
 | _ => none
theorem abuildSlice_ok (hE : E.Ok) (hS : S.rel E.P σ w Wr) {t : TypeId} {len : Nat} {parts : List (Nat×AV)} {qs : Array (Nat×Value)} {v : AV} (h1 : parts.map (·.1) = qs.toList.map (·.1))
  (h2 : Ins σ (parts.map (·.2)) (qs.toList.map (·.2))) (h : abuildSlice E S t len parts = some (v,S')) :
  VPost E σ S w Wr ((Instr.buildSlice t len qs).run E.P w) v S':=by
 unfold abuildSlice at h
 split at h
 ·rename_i elem ht
  split at h
  ·rename_i size hs
   split at h
   ·rename_i z hz
    split at h
    ·cases h
    ·rename_i htu
     split at h
     ·rename_i hc
      simp only [Bool.and_eq_true,Bool.or_eq_true] at hc
      obtain ⟨hc1,hc2⟩:=hc
      have hc1':=Nat.le_of_ble_eq_true hc1
      split at h
      ·rename_i cs hcs
       split at h
       ·rename_i S₁ hn
        cases h
        obtain ⟨zv,i,_,_,hi,hr⟩:=run_zero (σ:=σ) hE hz
        have hzc:=AV.cells_inst hi (AV.not_tuple htu)
        have hz' : len * size = 0∨0 < z.cells.length:=hc2.imp Nat.eq_of_beq_eq_true zo
        have hzz:=azeros_ok hzc (len * size) hz'
        obtain ⟨os,ho,hf⟩:=fill_ok h1 h2 hzz hcs
        obtain ⟨σ',b,κ,w',e1,e2,e3⟩:=anewRow_ok hS hn ho
        refine ⟨σ',.slice (some ⟨b,0,none⟩) len len,w',?_,slice_inst e2 (.inl rfl),e3⟩
        have hc1'' : ¬ (16777216 < len * size):=by omega
        by_cases h0 : len * size = 0
        ·have hf0 : Instr.fill (fun i => some (i * size,size)) #[] qs.toList = some os.toArray:=by simpa [h0] using hf
         simp [Instr.buildSlice,zA hE ht,z8 hE hs,hc1'',h0,show Array.range 0 = #[] from rfl,hf0,e1]
        ·have hf1 : Instr.fill (fun i => some (i * size,size)) ((Array.range (len * size)).map fun x => zv.cells[x % zv.cells.size]!) qs.toList = some os.toArray:=by
          rw [← hf]
          congr 1
          apply Array.ext'
          simp
         simp [Instr.buildSlice,zA hE ht,z8 hE hs,hc1'',h0,hr,hf1,e1]
       ·cases h
      ·cases h
     ·cases h
   ·cases h
  ·cases h
 ·cases h
noncomputable def amakeSlice (E : Env) (S : ASt) (t : TypeId) (len cap : AV) : Option (AV×ASt):=
 match len,cap with
 | .int _ (.ofNat l),.int _ (.ofNat c) => match E.und t with
   | some (.slice elem) => match E.inf elem with
     | some i => match E.zero elem with
       | some z => match z.isTuple with
         | true => none
         | false => match Nat.ble l c && (Nat.ble c 1000000000 && (Nat.ble (i.bytes * c) 281474976710656 && (Nat.beq (c * i.size) 0 || Nat.blt 0 z.cells.length))) with
           | true => match anew S (.cells (azeros z.cells (c * i.size)) elem) with
             | some S' => some (.slice S.next 0 l c true,S')
             | none => none
           | false => none
       | none => none
     | none => none
   | _ => none
 | _,_ => none
theorem amakeSlice_ok (hE : E.Ok) (hS : S.rel E.P σ w Wr) {t : TypeId} {len cap v : AV} {u y : Value} (hl : len.inst σ = some u) (hc : cap.inst σ = some y) (h : amakeSlice E S t len cap = some (v,S')) :
  VPost E σ S w Wr ((Instr.makeSlice t u y).run E.P w) v S':=by
 unfold amakeSlice at h
 split at h
 ·rename_i kl l kc c
  cases inst_int hl
  cases inst_int hc
  split at h
  ·rename_i elem ht
   split at h
   ·rename_i i hi
    split at h
    ·rename_i z hz
     split at h
     ·cases h
     ·rename_i htu
      split at h
      ·rename_i hb
       simp only [Bool.and_eq_true,Bool.or_eq_true] at hb
       obtain ⟨b1,b2,b3,b4⟩:=hb
       have b1':=Nat.le_of_ble_eq_true b1
       have b2':=Nat.le_of_ble_eq_true b2
       have b3':=Nat.le_of_ble_eq_true b3
       split at h
       ·rename_i S₁ hn
        cases h
        obtain ⟨zv,i',hi',_,hzi,hr⟩:=run_zero (σ:=σ) hE hz
        have hzc:=AV.cells_inst hzi (AV.not_tuple htu)
        have hz' : c * i.size = 0∨0 < z.cells.length:=b4.imp Nat.eq_of_beq_eq_true zo
        have hzz:=azeros_ok hzc (c * i.size) hz'
        obtain ⟨σ',b,κ,w',e1,e2,e3⟩:=anewRow_ok hS hn hzz
        refine ⟨σ',.slice (some ⟨b,0,none⟩) l c,w',?_,slice_inst e2 (.inl rfl),e3⟩
        have w1 : IntKind.i64.wrap (l : Int) = l:=IntWalk.i64_in _ (by omega)
        have w2 : IntKind.i64.wrap (c : Int) = c:=IntWalk.i64_in _ (by omega)
        have n1 : ¬ ((c : Int) < 0):=by omega
        have n2 : ¬ ((l : Int) < 0):=by omega
        have n3 : ¬ ((c : Int) < (l : Int)):=by omega
        have n4 : ¬ ((281474976710656 : Int) < (i.bytes : Int) * (c : Int)):=by
         rw [← Int.natCast_mul]
         omega
        have e0 : (((Array.range (c * i.size)).map fun x => zv.cells[x % zv.cells.size]!)) = ((List.range (c * i.size)).map fun i => zv.cells.toList.toArray[i % zv.cells.toList.length]!).toArray:=by
         apply Array.ext'
         simp
        by_cases h0 : c * i.size = 0
        ·have e1' : (newRow elem #[]).run E.P w = .ok ⟨b,0,none⟩ w':=by simpa [h0] using e1
         simp [Instr.makeSlice,zA hE ht,asInt,asIntOf,run_inf hE hi,sizeOf,w1,w2,n1,n2,n3,n4,h0,show Array.range 0 = #[] from rfl,e1']
        ·rw [← e0] at e1
         simp [Instr.makeSlice,zA hE ht,asInt,asIntOf,run_inf hE hi,sizeOf,w1,w2,n1,n2,n3,n4,h0,hr,e1]
       ·cases h
      ·cases h
    ·cases h
   ·cases h
  ·cases h
 ·cases h
noncomputable def abound (x : Option AV) (d : Nat) : Option Nat:=
 match x with
 | none => some d
 | some (.int _ (.ofNat n)) => some n
 | some _ => none
noncomputable def instO (σ : Sig) : Option AV→Option Value→Prop
 | none,none => True
 | some a,some v => a.inst σ = some v
 | _,_ => False
theorem run_bounds {P : Program} (isSlice : Bool) (len cap : Nat) {lo hi : Option AV} {lo' hi' : Option Value} {l h : Nat} (h1 : instO σ lo lo') (h2 : instO σ hi hi')
  (e1 : abound lo 0 = some l) (e2 : abound hi len = some h) (h3 : l≤h) (h4 : h≤cap) (w : World) :
  (Instr.sliceBounds isSlice len cap lo' hi' none).run P w = .ok (l,h,cap) w:=by
 have hlo : lo' = none∧l = 0∨∃ k,lo' = some (.int k (.ofNat l)):=by
  unfold abound at e1
  split at e1
  ·cases e1
   cases lo' with
   | none => exact .inl ⟨rfl,rfl⟩
   | some v => exact h1.elim
  ·cases e1
   cases lo' with
   | none => exact h1.elim
   | some v => cases inst_int h1; exact .inr ⟨_,rfl⟩
  ·cases e1
 have hhi : hi' = none∧h = len∨∃ k,hi' = some (.int k (.ofNat h)):=by
  unfold abound at e2
  split at e2
  ·cases e2
   cases hi' with
   | none => exact .inl ⟨rfl,rfl⟩
   | some v => exact h2.elim
  ·cases e2
   cases hi' with
   | none => exact h2.elim
   | some v => cases inst_int h2; exact .inr ⟨_,rfl⟩
  ·cases e2
 rcases hlo with ⟨rfl,rfl⟩ | ⟨k1,rfl⟩ <;> rcases hhi with ⟨rfl,rfl⟩ | ⟨k2,rfl⟩ <;>
  simp [Instr.sliceBounds,Instr.sliceBound,asIntOf,h3,h4]
noncomputable def roomy (S : ASt) (id : Nat) (elem : TypeId) (size n : Nat) : Bool:=
 match S.heap.get id with
 | some (.cells l t) => Nat.beq t elem && (Nat.blt 0 size && Nat.ble (n * size) l.length)
 | _ => false
theorem roomy_ok (hE : E.Ok) (hS : S.rel E.P σ w Wr) {id b κ n size : Nat} {elem : TypeId} (hsz : E.size elem = some size) (hs : σ id = some (b,κ)) (hk : 0 < κ) (h : roomy S id elem size n = true) : n≤κ:=by
 unfold roomy at h
 split at h
 ·rename_i l t hb
  simp only [Bool.and_eq_true] at h
  obtain ⟨h1,h2,h3⟩:=h
  obtain rfl:=Nat.eq_of_beq_eq_true h1
  have h2':=zo h2
  have h3':=Nat.le_of_ble_eq_true h3
  obtain ⟨b',κ',vs,rest,fr,e1,e2,e3,e4,e5,e6⟩:=get_cells' hS hb
  rw [hs] at e1; cases e1
  have hcs : yo E.P t = size:=by
   simp only [Env.size] at hsz
   cases hi : E.inf t with
   | none => rw [hi] at hsz; cases hsz
   | some i =>
     rw [hi] at hsz
     simp only [Option.map_some,Option.some.injEq] at hsz
     simp [yo,hE.inf _ i hi,hsz]
  have hlv:=e3.length
  rcases e6 with e6 | e6
  ·omega
  ·rw [hcs] at e6
   exact Nat.le_of_mul_le_mul_right (Nat.le_trans h3' (by omega)) h2'
 ·cases h
noncomputable def asliceS (E : Env) (S : ASt) (elem : TypeId) (x : AV) (lo hi : Option AV) : Option AV:=
 match x with
 | .nilslice => match abound lo 0,abound hi 0 with
   | some l,some h => match Nat.beq l 0 && Nat.beq h 0 with
     | true => some .nilslice
     | false => none
   | _,_ => none
 | .slice id off len cap ex => match abound lo 0,abound hi len,E.size elem with
   | some l,some h,some size => match ex with
     | true => match Nat.ble l h && Nat.ble h cap with
       | true => match Nat.beq cap l with
         | true => some (.slice id off (h - l) (cap - l) true)
         | false => some (.slice id (off + l * size) (h - l) (cap - l) true)
       | false => none
     | false => match Nat.ble l h && (Nat.ble h len || roomy S id elem size (cap + h)) with
       | true => match Nat.beq l 0 || (Nat.blt l len || Nat.blt l h) with
         | true => some (.slice id (off + l * size) (h - l) (cap + l) false)
         | false => some (.stail id off (off + l * size) (cap + l))
       | false => none
   | _,_,_ => none
 | _ => none
theorem asliceS_ok (hE : E.Ok) (hS : S.rel E.P σ w Wr) {t elem : TypeId} {x v : AV} {lo hi : Option AV} {u : Value} {lo' hi' : Option Value} (ht : E.und t = some (.slice elem))
  (hx : x.inst σ = some u) (h1 : instO σ lo lo') (h2 : instO σ hi hi') (hsz : ∃ n,E.size elem = some n) (h : asliceS E S elem x lo hi = some v) :
  RPost σ w ((Instr.sliceAt t u lo' hi' none).run E.P w) v:=by
 obtain ⟨size,hsz⟩:=hsz
 unfold asliceS at h
 split at h
 ·simp only [AV.inst,Option.some.injEq] at hx
  subst hx
  split at h
  ·rename_i l hh e1 e2
   split at h
   ·rename_i hb
    simp only [Bool.and_eq_true] at hb
    obtain rfl:=Nat.eq_of_beq_eq_true hb.1
    obtain rfl:=Nat.eq_of_beq_eq_true hb.2
    cases h
    have hr:=run_bounds (P:=E.P) true 0 0 h1 h2 e1 e2 (Nat.le_refl _) (Nat.le_refl _) w
    exact .same hS (u:=.slice none 0 0) (by simp [Instr.sliceAt,Instr.slice,zA hE ht,hr,z8 hE hsz]) rfl
   ·cases h
  ·cases h
 ·rename_i id off len cap ex
  obtain ⟨b,κ,hs,hc,rfl⟩:=yT hx
  split at h
  ·rename_i l hh sz e1 e2 e3
   rw [hsz] at e3; cases e3
   split at h
   ·split at h
    ·rename_i hb
     simp only [Bool.and_eq_true] at hb
     have b1:=Nat.le_of_ble_eq_true hb.1
     have b2:=Nat.le_of_ble_eq_true hb.2
     have hr:=run_bounds (P:=E.P) true len cap h1 h2 e1 e2 b1 b2 w
     split at h
     ·rename_i hm
      cases h
      obtain rfl:=Nat.eq_of_beq_eq_true hm
      refine .same hS (u:=.slice (some ⟨b,off,none⟩) (hh - cap) (cap - cap)) ?_ (slice_inst hs (.inl rfl))
      simp [Instr.sliceAt,Instr.slice,zA hE ht,hr,z8 hE hsz]
     ·rename_i hm
      cases h
      have hm':=Nat.ne_of_beq_eq_false hm
      refine .same hS (u:=.slice (some ⟨b,off + l * size,none⟩) (hh - l) (cap - l)) ?_ (slice_inst hs (.inl rfl))
      simp [Instr.sliceAt,Instr.slice,zA hE ht,hr,z8 hE hsz,hm',yF]
    ·cases h
   ·split at h
    ·rename_i hb
     simp only [Bool.and_eq_true,Bool.or_eq_true] at hb
     obtain ⟨hb1,hb2⟩:=hb
     have b1:=Nat.le_of_ble_eq_true hb1
     obtain ⟨b'',κ'',hs'',hpos,hc',hu''⟩:=inst_slice' hx
     rw [hs] at hs''; cases hs''
     have b2 : hh≤κ - cap:=by
      rcases hb2 with hb2 | hb2
      ·have:=Nat.le_of_ble_eq_true hb2
       omega
      ·have:=roomy_ok hE hS hsz hs hpos hb2
       omega
     have hr:=run_bounds (P:=E.P) true len (κ - cap) h1 h2 e1 e2 b1 b2 w
     have hsub : κ - cap - l = κ - (cap + l):=by omega
     split at h
     ·rename_i hb3
      simp only [Bool.or_eq_true] at hb3
      cases h
      refine .same hS (u:=.slice (some ⟨b,off + l * size,none⟩) (hh - l) (κ - (cap + l))) ?_ ?_
      ·rcases hb3 with h0 | h0
       ·obtain rfl:=Nat.eq_of_beq_eq_true h0
        simp [Instr.sliceAt,Instr.slice,zA hE ht,hr,z8 hE hsz,yF]
       ·have hm' : ¬ (κ - cap = l):=by
         rcases h0 with h0 | h0 <;> have h0':=zo h0 <;> omega
        simp [Instr.sliceAt,Instr.slice,zA hE ht,hr,z8 hE hsz,hm',yF,hsub]
      ·have:=slice_inst (σ:=σ) (off:=off + l * size) (len:=hh - l) (cap:=cap + l) (ex:=false) hs (.inr ⟨hpos,by omega⟩)
       simpa using this
     ·rename_i hb3
      simp only [Bool.or_eq_false_iff] at hb3
      obtain ⟨hb3,hb4,hb5⟩:=hb3
      have hlh : hh = l:=by
       have : ¬ (l < hh):=fun e => by
        have:=Nat.ble_eq_true_of_le (show l + 1≤hh from e)
        rw [show Nat.blt l hh = Nat.ble (l + 1) hh from rfl] at hb5
        rw [this] at hb5; cases hb5
       omega
      cases h
      subst hlh
      refine .same hS (u:=.slice (some ⟨b,if κ - (cap + hh) = 0 then off else off + hh * size,none⟩) 0 (κ - (cap + hh))) ?_ ?_
      ·by_cases hm' : κ - cap = hh
       ·have h0 : κ - (cap + hh) = 0:=by omega
        rw [hm'] at hr
        simp [Instr.sliceAt,Instr.slice,zA hE ht,hr,z8 hE hsz,hm',h0]
       ·have h0 : ¬ (κ - (cap + hh) = 0):=by omega
        simp [Instr.sliceAt,Instr.slice,zA hE ht,hr,z8 hE hsz,hm',yF,hsub,h0]
      ·exact stail_inst hs hpos
    ·cases h
  ·cases h
 ·cases h
theorem run_bounds3 {P : Program} (len cap : Nat) {lo : Option AV} {hi mx : AV} {lo' : Option Value} {hi' mx' : Value} {l h m : Nat} (h1 : instO σ lo lo') (h2 : hi.inst σ = some hi') (h3 : mx.inst σ = some mx')
  (e1 : abound lo 0 = some l) (e2 : abound (some hi) 0 = some h) (e3 : abound (some mx) 0 = some m) (c1 : l≤h) (c2 : h≤m) (c3 : m≤cap) (w : World) :
  (Instr.sliceBounds true len cap lo' (some hi') (some mx')).run P w = .ok (l,h,m) w:=by
 have one : ∀ {x : AV} {x' : Value} {n : Nat},x.inst σ = some x'→abound (some x) 0 = some n→∃ k,x' = .int k (.ofNat n):=fun {x x' n} hx e => by
  unfold abound at e
  split at e
  ·rename_i heq; cases heq
  ·rename_i heq
   cases heq
   cases e
   exact ⟨_,inst_int hx⟩
  ·cases e
 have hlo : lo' = none∧l = 0∨∃ k,lo' = some (.int k (.ofNat l)):=by
  cases lo with
  | none =>
    cases e1
    cases lo' with
    | none => exact .inl ⟨rfl,rfl⟩
    | some v => exact h1.elim
  | some x =>
    cases lo' with
    | none => exact h1.elim
    | some v =>
      obtain ⟨k,rfl⟩:=one h1 e1
      exact .inr ⟨k,rfl⟩
 obtain ⟨k2,rfl⟩:=one h2 e2
 obtain ⟨k3,rfl⟩:=one h3 e3
 rcases hlo with ⟨rfl,rfl⟩ | ⟨k1,rfl⟩ <;>
  simp [Instr.sliceBounds,Instr.sliceBound,asIntOf,c1,c2,c3]
noncomputable def asliceM (E : Env) (S : ASt) (elem : TypeId) (x : AV) (lo : Option AV) (hi mx : AV) : Option AV:=
 match x with
 | .nilslice => match abound lo 0,abound (some hi) 0,abound (some mx) 0,E.size elem with
   | some l,some h,some m,some _ => match Nat.beq l 0 && (Nat.beq h 0 && Nat.beq m 0) with
     | true => some .nilslice
     | false => none
   | _,_,_,_ => none
 | .slice id off len cap ex => match abound lo 0,abound (some hi) 0,abound (some mx) 0,E.size elem with
   | some l,some h,some m,some size => match Nat.ble l h && (Nat.ble h m && (match ex with | true => Nat.ble m cap | false => Nat.ble m len || roomy S id elem size (cap + m))) with
     | true => match Nat.beq m l with
       | true => some (.slice id off (h - l) (m - l) true)
       | false => some (.slice id (off + l * size) (h - l) (m - l) true)
     | false => none
   | _,_,_,_ => none
 | _ => none
theorem asliceM_ok (hE : E.Ok) (hS : S.rel E.P σ w Wr) {t elem : TypeId} {x v : AV} {lo : Option AV} {hi mx : AV} {u : Value} {lo' : Option Value} {hi' mx' : Value} (ht : E.und t = some (.slice elem))
  (hx : x.inst σ = some u) (h1 : instO σ lo lo') (h2 : hi.inst σ = some hi') (h3 : mx.inst σ = some mx') (h : asliceM E S elem x lo hi mx = some v) :
  RPost σ w ((Instr.sliceAt t u lo' (some hi') (some mx')).run E.P w) v:=by
 unfold asliceM at h
 split at h
 ·simp only [AV.inst,Option.some.injEq] at hx
  subst hx
  split at h
  ·rename_i l hh m sz e1 e2 e3 hsz
   split at h
   ·rename_i hb
    simp only [Bool.and_eq_true] at hb
    obtain rfl:=Nat.eq_of_beq_eq_true hb.1
    obtain rfl:=Nat.eq_of_beq_eq_true hb.2.1
    obtain rfl:=Nat.eq_of_beq_eq_true hb.2.2
    cases h
    have hr:=run_bounds3 (P:=E.P) 0 0 h1 h2 h3 e1 e2 e3 (Nat.le_refl _) (Nat.le_refl _) (Nat.le_refl _) w
    exact .same hS (u:=.slice none 0 0) (by simp [Instr.sliceAt,Instr.slice,zA hE ht,hr,z8 hE hsz]) rfl
   ·cases h
  ·cases h
 ·rename_i id off len cap ex
  split at h
  ·rename_i l hh m sz e1 e2 e3 hsz
   split at h
   ·rename_i hb
    simp only [Bool.and_eq_true] at hb
    obtain ⟨b1,b2,b3⟩:=hb
    have b1':=Nat.le_of_ble_eq_true b1
    have b2':=Nat.le_of_ble_eq_true b2
    obtain ⟨b,κ,hs,hc,rfl⟩:=yT hx
    have b3' : m≤(if ex then cap else κ - cap):=by
     cases ex with
     | true => simpa using Nat.le_of_ble_eq_true b3
     | false =>
       simp only [Bool.or_eq_true] at b3
       obtain ⟨b'',κ'',hs'',hpos,hc',hu''⟩:=inst_slice' hx
       rw [hs] at hs''; cases hs''
       simp only [Bool.false_eq_true,if_false]
       rcases b3 with b3 | b3
       ·have:=Nat.le_of_ble_eq_true b3
        omega
       ·have:=roomy_ok hE hS hsz hs hpos b3
        omega
    have hr:=run_bounds3 (P:=E.P) len (if ex then cap else κ - cap) h1 h2 h3 e1 e2 e3 b1' b2' b3' w
    split at h
    ·rename_i hm
     cases h
     obtain rfl:=Nat.eq_of_beq_eq_true hm
     refine .same hS (u:=.slice (some ⟨b,off,none⟩) (hh - m) (m - m)) ?_ (slice_inst hs (.inl rfl))
     simp [Instr.sliceAt,Instr.slice,zA hE ht,hr,z8 hE hsz]
    ·rename_i hm
     cases h
     have hm':=Nat.ne_of_beq_eq_false hm
     refine .same hS (u:=.slice (some ⟨b,off + l * sz,none⟩) (hh - l) (m - l)) ?_ (slice_inst hs (.inl rfl))
     simp [Instr.sliceAt,Instr.slice,zA hE ht,hr,z8 hE hsz,hm',yF]
   ·cases h
  ·cases h
 ·cases h
noncomputable def aclear (E : Env) (S : ASt) (argTypes : Array TypeId) (x : AV) : Option ASt:=
 match argTypes[0]? with
 | some t => match E.und t with
   | some (.slice elem) => match x with
     | .nilslice => some S
     | .stail .. => some S
     | .slice id off len _ _ => match Nat.beq len 0 with
       | true => some S
       | false => match E.zero elem with
         | some z => match z.isTuple with
           | true => none
           | false => match Nat.blt 0 z.cells.length with
             | true => astoreCells S id off (azeros z.cells (len * z.cells.length))
             | false => none
         | none => none
     | _ => none
   | _ => none
 | none => none
theorem aclear_ok (hE : E.Ok) (hS : S.rel E.P σ w Wr) {argTypes : Array TypeId} {ty : TypeId} {x : AV} {u : Value} (hx : x.inst σ = some u) (h : aclear E S argTypes x = some S') :
  VPost E σ S w Wr ((Builtin.clear_ argTypes ty #[u]).run E.P w) (.tuple []) S':=by
 unfold aclear at h
 split at h
 ·rename_i t ht
  split at h
  ·rename_i elem hd
   split at h
   ·cases h
    simp only [AV.inst,Option.some.injEq] at hx
    subst hx
    refine .same hS (u:=.tuple #[]) ?_ rfl
    simp [Builtin.clear_,ht,zA hE hd]
   ·cases h
    obtain ⟨a,c,rfl⟩:=inst_stail hx
    refine .same hS (u:=.tuple #[]) ?_ rfl
    simp [Builtin.clear_,ht,zA hE hd]
   ·rename_i id off len cap ex
    obtain ⟨b,κ,hs,hc,rfl⟩:=yT hx
    split at h
    ·rename_i h0
     cases h
     obtain rfl:=Nat.eq_of_beq_eq_true h0
     refine .same hS (u:=.tuple #[]) ?_ rfl
     simp [Builtin.clear_,ht,zA hE hd]
    ·rename_i h0
     have h0':=Nat.ne_of_beq_eq_false h0
     split at h
     ·rename_i z hz
      split at h
      ·cases h
      ·rename_i htu
       split at h
       ·rename_i hp
        have hp':=zo hp
        obtain ⟨zv,i',hi',_,hzi,hr⟩:=run_zero (σ:=σ) hE hz
        have hzc:=AV.cells_inst hzi (AV.not_tuple htu)
        have hzz:=azeros_ok hzc (len * z.cells.length) (.inr hp')
        obtain ⟨b',κ',w',f1,f2,f3⟩:=astoreCells_ok hS h hzz
        rw [hs] at f1; cases f1
        have hlen:=hzc.length
        refine ⟨σ,.tuple #[],w',?_,rfl,f3⟩
        obtain ⟨m,rfl⟩ : ∃ m,len = m + 1:=⟨len - 1,by omega⟩
        have e0 : (Builtin.zeroCells zv.cells (m + 1)).toList = (List.range ((m + 1) * z.cells.length)).map fun i => zv.cells.toList.toArray[i % zv.cells.toList.length]!:=by
         rw [← hlen]
         simp [Builtin.zeroCells]
        rw [← e0] at f2
        simp [Builtin.clear_,ht,zA hE hd,hr,f2]
       ·cases h
     ·cases h
   ·cases h
  ·cases h
 ·cases h
noncomputable def asliceA (E : Env) (n : Nat) (elem : TypeId) (x : AV) (lo hi : Option AV) : Option AV:=none
theorem asliceA_ok (hE : E.Ok) (hS : S.rel E.P σ w Wr) {t elem : TypeId} {n : Nat} {x v : AV} {lo hi : Option AV} {u : Value} {lo' hi' : Option Value} (ht : E.und t = some (.array n elem))
  (hx : x.inst σ = some u) (h1 : instO σ lo lo') (h2 : instO σ hi hi') (h : asliceA E n elem x lo hi = some v) :
  RPost σ w ((Instr.sliceAt t u lo' hi' none).run E.P w) v:=by
 unfold asliceA at h
 cases h
end
open Go
theorem pureRun_bind {α β : Type} (P : Program) (s : Sem α) (f : α→Sem β) : pureRun P (s >>= f) = (pureRun P s).bind fun a => pureRun P (f a):=by
 induction s with
 | pure a => rfl
 | program k ih => exact ih P
 | mark m k ih => exact ih
 | load => rfl
 | store => rfl
 | new => rfl
 | shape => rfl
 | freeze => rfl
 | frozen => rfl
 | getObj => rfl
 | setObj => rfl
 | choose => rfl
 | sys => rfl
 | halt => rfl
theorem zrun_get {P : Program} {w : World} {r : Nat} {es : Array MapEntry} {clock : Nat} (hb : w.heap[r]? = some (.map es clock)) : (getObj r).run P w = .ok (.map es clock) w:=by
 simp [getObj,Sem.run,hb]
theorem zrun_set {P : Program} {w : World} {r : Nat} {es : Array MapEntry} {clock : Nat} (o : Obj) (hb : w.heap[r]? = some (.map es clock)) : (setObj r o).run P w = .ok () { w with heap:=w.heap.setIfInBounds r o }:=by
 simp [setObj,Sem.run,hb]
noncomputable def bareEntry (e : MapEntry) : MapEntry:={ key:=e.key,val:=.bool false,born:=0 }
theorem findNow_bare (d : TypeDesc) (k : Value) : ∀ (es : List MapEntry) (i : Nat) (r : Option (Nat×Value)),
  Instr.findNow d k (es.map bareEntry) i = some r→∃ r',Instr.findNow d k es i = some r'∧r'.map (·.1) = r.map (·.1)∧∀ j v,r' = some (j,v)→i≤j∧(es[j - i]?).map (·.val) = some v
 | [],i,r,h => by
   simp only [List.map_nil,Instr.findNow,Option.some.injEq] at h
   subst h
   exact ⟨none,rfl,rfl,fun j v e => by cases e⟩
 | e :: es,i,r,h => by
   simp only [List.map_cons,Instr.findNow,bareEntry] at h
   simp only [Instr.findNow]
   cases hs : Instr.sameNow d k e.key with
   | none => rw [hs] at h; cases h
   | some b =>
     rw [hs] at h
     cases b with
     | true =>
       simp only [Option.some.injEq] at h
       subst h
       exact ⟨_,rfl,rfl,fun j v e' => by cases e'; exact ⟨Nat.le_refl _,by simp⟩⟩
     | false =>
       obtain ⟨r',h1,h2,h3⟩:=findNow_bare d k es (i + 1) r h
       refine ⟨r',h1,h2,fun j v e' => ?_⟩
       obtain ⟨h4,h5⟩:=h3 j v e'
       refine ⟨by omega,?_⟩
       rw [show j - i = (j - (i + 1)) + 1 by omega,List.getElem?_cons_succ]
       exact h5
theorem findNow_none (d : TypeDesc) (k : Value) : ∀ (es : List MapEntry) (i : Nat),Instr.findNow d k (es.map bareEntry) i = none→Instr.findNow d k es i = none
 | [],i,h => by simp [Instr.findNow] at h
 | e :: es,i,h => by
   simp only [List.map_cons,Instr.findNow,bareEntry] at h
   simp only [Instr.findNow]
   cases hs : Instr.sameNow d k e.key with
   | none => rfl
   | some b =>
     rw [hs] at h
     cases b with
     | true => cases h
     | false => exact findNow_none d k es (i + 1) h
theorem findAsking_bare (P : Program) (kt : TypeId) (k : Value) : ∀ (es : List MapEntry) (i : Nat) (r : Option (Nat×Value)),
  pureRun P (Instr.findAsking kt k (es.map bareEntry) i) = some r →
   ∃ r',pureRun P (Instr.findAsking kt k es i) = some r'∧r'.map (·.1) = r.map (·.1)∧∀ j v,r' = some (j,v)→i≤j∧(es[j - i]?).map (·.val) = some v
 | [],i,r,h => by
   have h' : some none = some r:=h
   cases h'
   exact ⟨none,rfl,rfl,fun j v e => by cases e⟩
 | e :: es,i,r,h => by
   simp only [List.map_cons,Instr.findAsking,pureRun_bind] at h
   simp only [Instr.findAsking,pureRun_bind]
   have hb : (bareEntry e).key = e.key:=rfl
   rw [hb] at h
   cases hs : pureRun P (Op.equal kt k e.key) with
   | none => rw [hs] at h; cases h
   | some b =>
     rw [hs] at h
     simp only [Option.bind_some] at h ⊢
     cases b with
     | true =>
       have h' : some (some (i,(bareEntry e).val)) = some r:=h
       cases h'
       exact ⟨some (i,e.val),rfl,rfl,fun j v e' => by cases e'; exact ⟨Nat.le_refl _,by simp⟩⟩
     | false =>
       obtain ⟨r',h1,h2,h3⟩:=findAsking_bare P kt k es (i + 1) r h
       refine ⟨r',h1,h2,fun j v e' => ?_⟩
       obtain ⟨h4,h5⟩:=h3 j v e'
       refine ⟨by omega,?_⟩
       rw [show j - i = (j - (i + 1)) + 1 by omega,List.getElem?_cons_succ]
       exact h5
theorem findKey_bare (P : Program) (kt : TypeId) (k : Value) (es : List MapEntry) (r : Option (Nat×Value)) (h : pureRun P (Instr.findKey kt k (es.map bareEntry)) = some r) :
  ∃ r',pureRun P (Instr.findKey kt k es) = some r'∧r'.map (·.1) = r.map (·.1)∧∀ j v,r' = some (j,v)→(es[j]?).map (·.val) = some v:=by
 simp only [Instr.findKey,pureRun_bind] at h ⊢
 cases hu : pureRun P (underlying kt) with
 | none => rw [hu] at h; cases h
 | some d =>
   rw [hu] at h
   simp only [Option.bind_some] at h ⊢
   cases hn : Instr.findNow d k (es.map bareEntry) 0 with
   | some r₀ =>
     rw [hn] at h
     have h' : some r₀ = some r:=h
     cases h'
     obtain ⟨r',h1,h2,h3⟩:=findNow_bare d k es 0 _ hn
     rw [h1]
     exact ⟨r',rfl,h2,fun j v e => by have:=(h3 j v e).2; simpa using this⟩
   | none =>
     rw [hn] at h
     rw [findNow_none d k es 0 hn]
     obtain ⟨r',h1,h2,h3⟩:=findAsking_bare P kt k es 0 _ h
     exact ⟨r',h1,h2,fun j v e => by have:=(h3 j v e).2; simpa using this⟩
section
variable {E : Env} {σ : Sig} {S S' : ASt} {w : World} {Wr : Nat→Prop}
noncomputable def bareKeys : List (AV×AV×Nat)→Option (List MapEntry)
 | [] => some []
 | (k,_,_) :: l => match k.plain with
   | some v => match bareKeys l with
     | some m => some ({ key:=v,val:=.bool false,born:=0 } :: m)
     | none => none
   | none => none
theorem bareKeys_ok : ∀ {es : List (AV×AV×Nat)} {m es' : List MapEntry},bareKeys es = some m→yY σ es = some es'→es'.map bareEntry = m
 | [],m,es',h,h' => by
   simp only [bareKeys,Option.some.injEq] at h
   simp only [yY,Option.some.injEq] at h'
   subst h h'
   rfl
 | (k,v,b) :: l,m,es',h,h' => by
   simp only [bareKeys] at h
   simp only [yY] at h'
   split at h
   ·rename_i kv hk
    rw [AV.plain_inst hk σ] at h'
    split at h
    ·rename_i m' hm
     simp only at h'
     split at h'
     ·rename_i vv hv
      split at h'
      ·rename_i l' hl
       cases h; cases h'
       simp [bareEntry,bareKeys_ok hm hl]
      ·cases h'
     ·cases h'
    ·cases h
   ·cases h
theorem instE_get : ∀ {es : List (AV×AV×Nat)} {es' : List MapEntry},yY σ es = some es'→∀ {i : Nat} {x : AV×AV×Nat},es[i]? = some x →
  ∃ e,es'[i]? = some e∧x.1.inst σ = some e.key∧x.2.1.inst σ = some e.val∧e.born = x.2.2
 | [],_,_,i,x,h => by simp at h
 | (k,v,b) :: l,es',h',i,x,h => by
   simp only [yY] at h'
   split at h'
   ·rename_i kv hk
    split at h'
    ·rename_i vv hv
     split at h'
     ·rename_i l' hl
      cases h'
      cases i with
      | zero => simp only [List.getElem?_cons_zero,Option.some.injEq] at h; subst h; exact ⟨_,rfl,hk,hv,rfl⟩
      | succ i => simp only [List.getElem?_cons_succ] at h ⊢; exact instE_get hl h
     ·cases h'
    ·cases h'
   ·cases h'
theorem instE_len : ∀ {es : List (AV×AV×Nat)} {es' : List MapEntry},yY σ es = some es'→es'.length = es.length
 | [],es',h => by simp only [yY,Option.some.injEq] at h; subst h; rfl
 | (k,v,b) :: l,es',h' => by
   simp only [yY] at h'
   split at h'
   ·split at h'
    ·split at h'
     ·rename_i l' hl
      cases h'
      simp [instE_len hl]
     ·cases h'
    ·cases h'
   ·cases h'
theorem instE_append : ∀ {es fs : List (AV×AV×Nat)} {es' fs' : List MapEntry},yY σ es = some es'→yY σ fs = some fs'→yY σ (es ++ fs) = some (es' ++ fs')
 | [],fs,es',fs',h,h2 => by simp only [yY,Option.some.injEq] at h; subst h; exact h2
 | (k,v,b) :: l,fs,es',fs',h',h2 => by
   simp only [yY] at h'
   split at h'
   ·rename_i kv hk
    split at h'
    ·rename_i vv hv
     split at h'
     ·rename_i l' hl
      cases h'
      simp [yY,hk,hv,instE_append hl h2]
     ·cases h'
    ·cases h'
   ·cases h'
theorem instE_set : ∀ {es : List (AV×AV×Nat)} {es' : List MapEntry},yY σ es = some es'→∀ {k v : AV} {b : Nat} {kv vv : Value},k.inst σ = some kv→v.inst σ = some vv →
  ∀ i,yY σ (es.set i (k,v,b)) = some (es'.set i { key:=kv,val:=vv,born:=b })
 | [],es',h,k,v,b,kv,vv,_,_,i => by simp only [yY,Option.some.injEq] at h; subst h; rfl
 | (k0,v0,b0) :: l,es',h',k,v,b,kv,vv,hk,hv,i => by
   simp only [yY] at h'
   split at h'
   ·rename_i kv0 hk0
    split at h'
    ·rename_i vv0 hv0
     split at h'
     ·rename_i l' hl
      cases h'
      cases i with
      | zero => simp [yY,hk,hv,hl]
      | succ i => simp [yY,hk0,hv0,instE_set hl hk hv i]
     ·cases h'
    ·cases h'
   ·cases h'
theorem get_map (hS : S.rel E.P σ w Wr) {id : Nat} {es : List (AV×AV×Nat)} {c : Nat} (h : S.heap.get id = some (.map es c)) :
  ∃ b κ es',σ id = some (b,κ)∧w.heap[b]? = some (.map es'.toArray c)∧yY σ es = some es':=by
 obtain ⟨b,κ,o,h1,h2,h3⟩:=hS.at_ id _ h
 obtain ⟨es',hi,ho⟩:=h3
 subst ho
 exact ⟨b,κ,es',h1,h2,hi⟩
theorem inst_map {id : Nat} {u : Value} (h : (AV.map id).inst σ = some u) : ∃ b κ,σ id = some (b,κ)∧u = .map (some b):=by
 simp only [AV.inst] at h
 split at h
 ·rename_i x hx
  simp only [Option.some.injEq] at h
  exact ⟨x.1,x.2,hx,h.symm⟩
 ·cases h
noncomputable def aplace (E : Env) (kt : TypeId) (kv : Value) (es : List (AV×AV×Nat)) : Option (Option Nat):=
 match bareKeys es with
 | some m => match pureRun E.P (Instr.findKey kt kv m) with
   | some (some p) => some (some p.1)
   | some none => some none
   | none => none
 | none => none
theorem aplace_none {kt : TypeId} {kv : Value} {es : List (AV×AV×Nat)} {es' : List MapEntry} (hi : yY σ es = some es') (h : aplace E kt kv es = some none) (w : World) :
  (Instr.findKey kt kv es').run E.P w = .ok none w:=by
 unfold aplace at h
 split at h
 ·rename_i m hm
  split at h
  ·cases h
  ·rename_i hr
   rw [← bareKeys_ok hm hi] at hr
   obtain ⟨r',h1,h2,h3⟩:=findKey_bare E.P kt kv es' none hr
   cases r' with
   | none => exact pureRun_run E.P _ _ h1 w
   | some p => cases h2
  ·cases h
 ·cases h
theorem aplace_some {kt : TypeId} {kv : Value} {es : List (AV×AV×Nat)} {es' : List MapEntry} (hi : yY σ es = some es') {i : Nat} (h : aplace E kt kv es = some (some i)) {x : AV×AV×Nat} (hx : es[i]? = some x) :
  ∃ e,es'[i]? = some e∧x.1.inst σ = some e.key∧x.2.1.inst σ = some e.val∧e.born = x.2.2∧∀ w,(Instr.findKey kt kv es').run E.P w = .ok (some (i,e.val)) w:=by
 obtain ⟨e,e1,e2,e3,e4⟩:=instE_get hi hx
 unfold aplace at h
 split at h
 ·rename_i m hm
  split at h
  ·rename_i p hr
   cases h
   rw [← bareKeys_ok hm hi] at hr
   obtain ⟨r',h1,h2,h3⟩:=findKey_bare E.P kt kv es' _ hr
   cases r' with
   | none => cases h2
   | some q =>
     obtain ⟨j,v⟩:=q
     simp only [Option.map_some,Option.some.injEq] at h2
     subst h2
     have h4:=h3 p.1 v rfl
     rw [e1] at h4
     simp only [Option.map_some,Option.some.injEq] at h4
     subst h4
     exact ⟨e,e1,e2,e3,e4,fun w => pureRun_run E.P _ _ h1 w⟩
  ·cases h
  ·cases h
 ·cases h
noncomputable def akeyOk (E : Env) (empty : Bool) (kt : TypeId) (kv : Value) : Bool:=
 match pureRun E.P (Instr.checkKey empty 10000 kt kv) with
 | some _ => true
 | none => false
theorem akeyOk_ok {b : Bool} {kt : TypeId} {kv : Value} (h : akeyOk E b kt kv = true) (w : World) : (Instr.checkKey b 10000 kt kv).run E.P w = .ok () w:=by
 unfold akeyOk at h
 split at h
 ·rename_i u hu; exact pureRun_run E.P _ _ hu w
 ·cases h
noncomputable def alookup (E : Env) (S : ASt) (t : TypeId) (m k : AV) (ok : Bool) : Option AV:=
 match E.und t with
 | some (.map kt et) => match k.plain with
   | some kv =>
     match (match m with | .nilmap => some [] | .map id => (match S.heap.get id with | some (.map es _) => some es | _ => none) | _ => none) with
     | some es => match akeyOk E es.isEmpty kt kv with
       | true => match aplace E kt kv es with
         | some (some i) => match es[i]? with
           | some x => some (match ok with | true => .tuple [x.2.1,.bool true] | false => x.2.1)
           | none => none
         | some none => match E.zero et with
           | some z => some (match ok with | true => .tuple [z,.bool false] | false => z)
           | none => none
         | none => none
       | false => none
     | none => none
   | none => none
 | _ => none
theorem lookup_run (hE : E.Ok) {t kt et : TypeId} (ht : E.und t = some (.map kt et)) {mu kv : Value} {es' : List MapEntry} {ok : Bool}
  (hmu : (mu = .map none∧es' = [])∨∃ b c0,mu = .map (some b)∧w.heap[b]? = some (.map es'.toArray c0)) (hck : (Instr.checkKey es'.toArray.isEmpty 10000 kt kv).run E.P w = .ok () w) {r : Option (Nat×Value)}
  (hf : (Instr.findKey kt kv es').run E.P w = .ok r w) :
  (Instr.lookup t mu kv ok).run E.P w = ((match r with | some (_,v) => pure (v,true) | none => do pure (← zeroValue et,false) : Sem (Value×Bool)).run E.P w).andThen fun p w' => .ok (if ok then .tuple #[p.1,.bool p.2] else p.1) w':=by
 rcases hmu with ⟨rfl,rfl⟩ | ⟨b,c0,rfl,hb⟩
 ·have hck' : (Instr.checkKey true 10000 kt kv).run E.P w = .ok () w:=hck
  cases r <;> simp [Instr.lookup,zA hE ht,hck',hf,Result.andThen] <;> (repeat' split) <;> simp_all
 ·have hck' : (Instr.checkKey es'.isEmpty 10000 kt kv).run E.P w = .ok () w:=by simpa using hck
  cases r <;> simp [Instr.lookup,zA hE ht,zrun_get hb,hck',hf,Result.andThen] <;> (repeat' split) <;> simp_all
theorem alookup_ok (hE : E.Ok) (hS : S.rel E.P σ w Wr) {t : TypeId} {m k v : AV} {ok : Bool} {mu ku : Value} (hm : m.inst σ = some mu) (hk : k.inst σ = some ku) (h : alookup E S t m k ok = some v) :
  RPost σ w ((Instr.lookup t mu ku ok).run E.P w) v:=by
 unfold alookup at h
 split at h
 ·rename_i kt et ht
  split at h
  ·rename_i kv hkv
   rw [AV.plain_inst hkv σ] at hk
   obtain rfl : kv = ku:=Option.some.inj hk
   split at h
   ·rename_i es hes
    -- the entries in memory
    have hmem : ∃ es' : List MapEntry,yY σ es = some es'∧((mu = .map none∧es' = [])∨∃ b c0,mu = .map (some b)∧w.heap[b]? = some (.map es'.toArray c0)):=by
     split at hes
     ·cases hes
      simp only [AV.inst,Option.some.injEq] at hm
      exact ⟨[],rfl,.inl ⟨hm.symm,rfl⟩⟩
     ·rename_i id
      split at hes
      ·rename_i es0 c0 hb
       cases hes
       obtain ⟨b,κ,es',h1,h2,h3⟩:=get_map hS hb
       obtain ⟨b',κ',h1',h4⟩:=inst_map hm
       rw [h1] at h1'; cases h1'
       exact ⟨es',h3,.inr ⟨b,c0,h4,h2⟩⟩
      ·cases hes
     ·cases hes
    obtain ⟨es',hi,hmu⟩:=hmem
    have hlen:=instE_len hi
    have hemp : es'.toArray.isEmpty = es.isEmpty:=by
     cases es <;> cases es' <;> simp_all
    split at h
    ·rename_i hko
     have hck:=akeyOk_ok hko w
     split at h
     ·rename_i i hp
      split at h
      ·rename_i x hx
       obtain ⟨e,_,_,e3,_,e5⟩:=aplace_some hi hp hx
       cases h
       have hfin : (Instr.lookup t mu kv ok).run E.P w = .ok (if ok then .tuple #[e.val,.bool true] else e.val) w:=by
        rw [lookup_run hE ht hmu (by rw [hemp]; exact hck) (e5 w)]
        simp
       refine .same hS hfin ?_
       cases ok with
       | true => simp [AV.inst,instL,e3]
       | false => simpa using e3
      ·cases h
     ·rename_i hp
      split at h
      ·rename_i z hz
       cases h
       obtain ⟨zv,_,_,_,hzi,hr⟩:=run_zero (σ:=σ) hE hz
       have e5:=aplace_none hi hp w
       have hfin : (Instr.lookup t mu kv ok).run E.P w = .ok (if ok then .tuple #[zv,.bool false] else zv) w:=by
        rw [lookup_run hE ht hmu (by rw [hemp]; exact hck) e5]
        simp [hr]
       refine .same hS hfin ?_
       cases ok with
       | true => simp [AV.inst,instL,hzi]
       | false => simpa using hzi
      ·cases h
     ·cases h
    ·cases h
   ·cases h
  ·cases h
 ·cases h
noncomputable def amakeMap (S : ASt) : Option (AV×ASt):=
 match anew S (.map [] 0) with
 | some S' => some (.map S.next,S')
 | none => none
theorem amakeMap_ok (hS : S.rel E.P σ w Wr) {v : AV} (h : amakeMap S = some (v,S')) :
  ∃ σ',v.inst σ' = some (.map (some w.heap.size))∧Post E.P σ S w Wr σ' S' (w.alloc (.map #[] 0)):=by
 unfold amakeMap at h
 split at h
 ·rename_i S₁ hn
  cases h
  obtain ⟨hp,hs⟩:=anew_ok hS hn (κ:=0) (o:=.map #[] 0) (w':=w.alloc (.map #[] 0)) ⟨[],rfl,rfl⟩ rfl
  exact ⟨_,by simp [AV.inst,hs],hp⟩
 ·cases h
noncomputable def aputMap (S : ASt) (id : Nat) (es : List (AV×AV×Nat)) (c : Nat) : Option ASt:=
 match S.limit id && Nat.blt id zM with
 | true => some { heap:=Trie.put (some (.map es c)) depth S.heap id,next:=S.next,limit:=S.limit }
 | false => none
theorem aputMap_ok (hS : S.rel E.P σ w Wr) {id c0 c b κ : Nat} {es0 es : List (AV×AV×Nat)} {es0' es' : List MapEntry} (hb : S.heap.get id = some (.map es0 c0)) (hs : σ id = some (b,κ))
  (hw : w.heap[b]? = some (.map es0'.toArray c0)) (hi : yY σ es = some es') (h : aputMap S id es c = some S') :
  ∃ w',(setObj b (.map es'.toArray c)).run E.P w = .ok () w'∧Post E.P σ S w Wr σ S' w':=by
 unfold aputMap at h
 split at h
 ·rename_i hc
  simp only [Bool.and_eq_true] at hc
  cases h
  refine ⟨_,zrun_set (P:=E.P) _ hw,?_⟩
  exact post_set hS hb hc.1 hs (o:=.map es'.toArray c) ⟨es',hi,rfl⟩ (zo hc.2) rfl
 ·cases h
noncomputable def amapUpdate (E : Env) (S : ASt) (t : TypeId) (m k v : AV) : Option ASt:=
 match E.und t with
 | some (.map kt _) => match k.plain with
   | some kv => match m with
     | .map id => match S.heap.get id with
       | some (.map es c) => match akeyOk E false kt kv with
         | true => match aplace E kt kv es with
           | some (some i) => match es[i]? with
             | some x => match x.1.plain with
               | some ov => match Instr.sameBits 10000 ov kv with
                 | true => aputMap S id (es.set i (k,v,x.2.2)) c
                 | false => none
               | none => none
             | none => none
           | some none => aputMap S id (es ++ [(k,v,c)]) (c + 1)
           | none => none
         | false => none
       | _ => none
     | _ => none
   | none => none
 | _ => none
theorem modify_set (es : List MapEntry) (i : Nat) (e : MapEntry) (f : MapEntry→MapEntry) (h : es[i]? = some e) : es.toArray.modify i f = (es.set i (f e)).toArray:=by
 apply Array.ext'
 simp only [Array.toList_modify]
 obtain ⟨hlt,he⟩:=List.getElem?_eq_some_iff.1 h
 apply List.ext_getElem?
 intro j
 rw [List.getElem?_modify,List.getElem?_set]
 by_cases hj : i = j
 ·subst hj; simp [hlt,he]
 ·simp [hj]
theorem amapUpdate_ok (hE : E.Ok) (hS : S.rel E.P σ w Wr) {t : TypeId} {m k v : AV} {mu ku vu : Value} (hm : m.inst σ = some mu) (hk : k.inst σ = some ku) (hv : v.inst σ = some vu)
  (h : amapUpdate E S t m k v = some S') : UPost E σ S w Wr ((Instr.mapUpdate t mu ku vu).run E.P w) S':=by
 unfold amapUpdate at h
 split at h
 ·rename_i kt et ht
  split at h
  ·rename_i kv hkv
   have hk':=AV.plain_inst hkv σ
   rw [hk'] at hk
   obtain rfl : kv = ku:=Option.some.inj hk
   split at h
   ·rename_i id
    split at h
    ·rename_i es c hb
     obtain ⟨b,κ,es',h1,h2,hi⟩:=get_map hS hb
     obtain ⟨b',κ',h1',rfl⟩:=inst_map hm
     rw [h1] at h1'; cases h1'
     split at h
     ·rename_i hko
      have hck:=akeyOk_ok hko w
      split at h
      ·rename_i i hp
       split at h
       ·rename_i x hx
        obtain ⟨e,e1,e2,e3,e4,e5⟩:=aplace_some hi hp hx
        split at h
        ·rename_i ov hov
         rw [AV.plain_inst hov σ] at e2
         cases e2
         split at h
         ·rename_i hsb
          obtain ⟨w',r1,r2⟩:=aputMap_ok hS hb h1 h2 (instE_set hi hk' hv i) h
          refine ⟨σ,w',?_,r2⟩
          have hst : (Instr.keyThatStays (((es'.toArray[i]?).map (·.key)).getD kv) kv).run E.P w = .ok kv w:=by
           simp [e1,Instr.keyThatStays,hsb]
          have hmod:=modify_set es' i e (fun e => { e with key:=kv,val:=vu }) e1
          have e4' : ({ e with key:=kv,val:=vu } : MapEntry) = { key:=kv,val:=vu,born:=x.2.2 }:=by cases e; simp_all
          rw [e4'] at hmod
          simp only [Instr.mapUpdate,Sem.run_bind,zA hE ht,Result.andThen_ok,zrun_get h2,hck,e5,hst]
          rw [hmod]
          exact r1
         ·cases h
        ·cases h
       ·cases h
      ·rename_i hp
       have e5:=aplace_none hi hp w
       obtain ⟨w',r1,r2⟩:=aputMap_ok hS hb h1 h2 (instE_append hi (show yY σ [(k,v,c)] = some [{ key:=kv,val:=vu,born:=c }] by simp [yY,hk',hv])) h
       refine ⟨σ,w',?_,r2⟩
       simp only [Instr.mapUpdate,Sem.run_bind,zA hE ht,Result.andThen_ok,zrun_get h2,hck,e5]
       simpa using r1
      ·cases h
     ·cases h
    ·cases h
   ·cases h
  ·cases h
 ·cases h
noncomputable def amapEntry (E : Env) (S : ASt) (t : TypeId) (m k : AV) : Option (AV×ASt):=none
theorem amapEntry_ok (hE : E.Ok) (hS : S.rel E.P σ w Wr) {t : TypeId} {m k v : AV} {mu ku : Value} (hm : m.inst σ = some mu) (hk : k.inst σ = some ku)
  (h : amapEntry E S t m k = some (v,S')) : VPost E σ S w Wr ((Instr.mapEntry t mu ku).run E.P w) v S':=by
 unfold amapEntry at h
 cases h
noncomputable def aentryStore (S : ASt) (m s v : AV) : Option ASt:=none
theorem aentryStore_ok (hS : S.rel E.P σ w Wr) {t : TypeId} {m s v : AV} {mu su vu : Value} (hm : m.inst σ = some mu) (hs : s.inst σ = some su) (hv : v.inst σ = some vu)
  (h : aentryStore S m s v = some S') : UPost E σ S w Wr ((Instr.entryStore t mu su vu).run E.P w) S':=by
 unfold aentryStore at h
 cases h
theorem instE_erase : ∀ {es : List (AV×AV×Nat)} {es' : List MapEntry},yY σ es = some es'→∀ i,yY σ (es.eraseIdx i) = some (es'.eraseIdx i)
 | [],es',h,i => by simp only [yY,Option.some.injEq] at h; subst h; rfl
 | (k0,v0,b0) :: l,es',h',i => by
   simp only [yY] at h'
   split at h'
   ·rename_i kv0 hk0
    split at h'
    ·rename_i vv0 hv0
     split at h'
     ·rename_i l' hl
      cases h'
      cases i with
      | zero => simpa using hl
      | succ i => simp [yY,hk0,hv0,instE_erase hl i]
     ·cases h'
    ·cases h'
   ·cases h'
noncomputable def adelete (E : Env) (S : ASt) (argTypes : Array TypeId) (m k : AV) : Option ASt:=
 match argTypes[0]? with
 | some t => match E.und t with
   | some (.map kt _) => match k.plain with
     | some kv => match m with
       | .map id => match S.heap.get id with
         | some (.map es c) => match akeyOk E es.isEmpty kt kv with
           | true => match aplace E kt kv es with
             | some (some i) => match es[i]? with
               | some _ => aputMap S id (es.eraseIdx i) c
               | none => none
             | some none => aputMap S id es c
             | none => none
           | false => none
         | _ => none
       | _ => none
     | none => none
   | _ => none
 | none => none
theorem adelete_ok (hE : E.Ok) (hS : S.rel E.P σ w Wr) {argTypes : Array TypeId} {ty : TypeId} {m k : AV} {mu ku : Value} (hm : m.inst σ = some mu) (hk : k.inst σ = some ku)
  (h : adelete E S argTypes m k = some S') : VPost E σ S w Wr ((Builtin.delete_ argTypes ty #[mu,ku]).run E.P w) (.tuple []) S':=by
 unfold adelete at h
 split at h
 ·rename_i t h0
  split at h
  ·rename_i kt et ht
   split at h
   ·rename_i kv hkv
    have hk':=AV.plain_inst hkv σ
    rw [hk'] at hk
    obtain rfl : kv = ku:=Option.some.inj hk
    split at h
    ·rename_i id
     split at h
     ·rename_i es c hb
      obtain ⟨b,κ,es',h1,h2,hi⟩:=get_map hS hb
      obtain ⟨b',κ',h1',rfl⟩:=inst_map hm
      rw [h1] at h1'; cases h1'
      have hemp : es.isEmpty = es'.toArray.isEmpty:=by
       have:=instE_len hi
       cases es <;> cases es' <;> simp_all
      split at h
      ·rename_i hko
       rw [hemp] at hko
       have hck:=akeyOk_ok hko w
       have hck' : (Instr.checkKey es'.isEmpty 10000 kt kv).run E.P w = .ok () w:=by simpa using hck
       split at h
       ·rename_i i hp
        split at h
        ·rename_i x hx
         obtain ⟨e,e1,e2,e3,e4,e5⟩:=aplace_some hi hp hx
         obtain ⟨w',r1,r2⟩:=aputMap_ok hS hb h1 h2 (instE_erase hi i) h
         refine ⟨σ,.tuple #[],w',?_,rfl,r2⟩
         have he : (es'.toArray.eraseIdxIfInBounds i) = (es'.eraseIdx i).toArray:=by
          apply Array.ext'
          simp [List.eraseIdx_toArray]
         simp [Builtin.delete_,h0,Sem.run_bind,zA hE ht,zrun_get h2,hck',e5,he,r1]
        ·cases h
       ·rename_i hp
        obtain ⟨w',r1,r2⟩:=aputMap_ok hS hb h1 h2 hi h
        refine ⟨σ,.tuple #[],w',?_,rfl,r2⟩
        have hn:=aplace_none hi hp w
        simp [Builtin.delete_,h0,Sem.run_bind,zA hE ht,zrun_get h2,hck',hn,r1]
       ·cases h
      ·cases h
     ·cases h
    ·cases h
   ·cases h
  ·cases h
 ·cases h
end
open Go
theorem post_move {P : Program} {σ : Sig} {S : ASt} {w w' : World} {Wr : Nat→Prop} (hS : S.rel P σ w Wr) (hn : S.next < zM) {id b κ : Nat} {blk₀ blk : ABlock} {o : Obj}
  (hid : S.heap.get id = some blk₀) (hl : S.limit id = true) (hs : σ id = some (b,κ)) (hm : id < zM) (hb : BRel P σ κ blk o) (he : w'.heap = w.heap.setIfInBounds b o) (ho : w'.os = w.os∧w'.output = w.output:=by exact ⟨rfl,rfl⟩) :
  Post P σ S w Wr (σ.add S.next (b,κ)) { heap:=Trie.put (some blk) depth (Trie.put none depth S.heap id) S.next,next:=S.next + 1,limit:=S.limit } w':=by
 have hp:=post_set hS hid hl hs hb hm he ho
 have hidn : id≠S.next:=fun e => by
  have:=(hS.fresh id (by omega)).2
  rw [hid] at this; cases this
 have hget : ∀ j,(Trie.put (some blk) depth (Trie.put none depth S.heap id) S.next).get j = if j = S.next then some blk else if j = id then none else S.heap.get j:=fun j => by
  rw [Trie.get_put _ _ _ _ (by simpa [zM] using hn),Trie.get_put _ _ _ _ (by simpa [zM] using hm)]
 have hget1 : ∀ j,(Trie.put (some blk) depth S.heap id).get j = if j = id then some blk else S.heap.get j:=fun j => Trie.get_put _ _ _ _ (by simpa [zM] using hm)
 have h1 : HRel P σ (Trie.put (some blk) depth S.heap id).get S.next S.limit w' Wr:=hp.rel
 have hle : σ.le (σ.add S.next (b,κ)):=(Sig.add_upto σ S.next _).le fun id hid => (hS.fresh id hid).1
 have hold : ∀ j,j≠S.next→(σ.add S.next (b,κ)) j = σ j:=fun j hj => by simp [Sig.add,hj]
 have hnx : (σ.add S.next (b,κ)) S.next = some (b,κ):=Sig.add_same _ _ _
 have hlive : ∀ j blkj,j≠id→S.heap.get j = some blkj→j≠S.next:=fun j blkj _ h e => by
  have:=(hS.fresh j (by omega)).2
  rw [h] at this; cases this
 refine ⟨⟨?_,?_,?_,?_,?_,?_⟩,Sig.add_upto _ _ _,Nat.le_succ _,rfl,hp.kept,fun j hj => by
  have h1 : j≠S.next:=fun e => by
   have:=hS.low j (by omega)
   rw [hj] at this; cases this
  have h2 : j≠id:=fun e => by rw [e,hl] at hj; cases hj
  show (Trie.put (some blk) depth (Trie.put none depth S.heap id) S.next).get j = _
  rw [hget,if_neg h1,if_neg h2]⟩
 ·intro j blkj h
  rw [hget] at h
  split at h
  ·rename_i hj
   subst hj
   cases h
   obtain ⟨b',κ',o',e1,e2,e3⟩:=h1.at_ id blk (by rw [hget1,if_pos rfl])
   rw [hs] at e1; cases e1
   exact ⟨b,κ,o',hnx,e2,e3.le hle⟩
  ·split at h
   ·cases h
   ·rename_i hj hji
    obtain ⟨b',κ',o',e1,e2,e3⟩:=h1.at_ j blkj (by rw [hget1,if_neg hji]; exact h)
    exact ⟨b',κ',o',by rw [hold j hj]; exact e1,e2,e3.le hle⟩
 ·intro i j bi bj x y hi hj hx hy hxy
  rw [hget] at hi hj
  have key : ∀ j bj y,j≠S.next→j≠id→S.heap.get j = some bj→σ j = some y→y.1 = b→False:=fun j bj y hjn hji hj hy e => by
   have:=h1.inj j id bj blk y (b,κ) (by rw [hget1,if_neg hji]; exact hj) (by rw [hget1,if_pos rfl]) hy hs e
   exact this.elim hji fun hq => by rw [show S.limit id = true from hl] at hq; cases hq.2
  split at hi <;> split at hj
  ·omega
  ·rename_i hi1 hj1
   split at hj
   ·cases hj
   ·rename_i hj2
    rw [hi1,hnx] at hx; cases hx
    rw [hold j hj1] at hy
    exact (key j bj y hj1 hj2 hj hy hxy.symm).elim
  ·rename_i hi1 hj1
   split at hi
   ·cases hi
   ·rename_i hi2
    rw [hj1,hnx] at hy; cases hy
    rw [hold i hi1] at hx
    exact (key i bi x hi1 hi2 hi hx hxy).elim
  ·rename_i hi1 hj1
   split at hi
   ·cases hi
   ·rename_i hi2
    split at hj
    ·cases hj
    ·rename_i hj2
     rw [hold i hi1] at hx
     rw [hold j hj1] at hy
     exact hS.inj i j bi bj x y hi hj hx hy hxy
 ·intro j blkj x h hlj hx
  rw [hget] at h
  split at h
  ·rename_i hj
   rw [hj,hnx] at hx; cases hx
   exact hS.wr id blk₀ _ hid hl hs
  ·split at h
   ·cases h
   ·rename_i hj hji
    rw [hold j hj] at hx
    exact hS.wr j blkj x h hlj hx
 ·exact h1.wrNew
 ·intro j hj
  have hj' : S.next + 1≤j:=hj
  have:=hS.fresh j (by omega)
  show _∧(Trie.put (some blk) depth (Trie.put none depth S.heap id) S.next).get j = none
  rw [hget,if_neg (by omega),hold j (by omega)]
  refine ⟨this.1,?_⟩
  split
  ·rfl
  ·exact this.2
 ·intro j hj
  have hj' : S.next + 1≤j:=hj
  exact hS.low j (by omega)
theorem rel_kill {P : Program} {σ : Sig} {S : ASt} {w : World} {Wr : Nat→Prop} (hS : S.rel P σ w Wr) {id : Nat} (hl : S.limit id = true) (hm : id < zM) :
  Post P σ S w Wr σ { heap:=Trie.put none depth S.heap id,next:=S.next,limit:=S.limit } w:=by
 have hget : ∀ j,(Trie.put none depth S.heap id).get j = if j = id then none else S.heap.get j:=fun j => Trie.get_put _ _ _ _ (by simpa [zM] using hm)
 refine ⟨⟨?_,?_,?_,hS.wrNew,?_,hS.low⟩,Sig.upto_refl _ _,Nat.le_refl _,rfl,Kept.refl _ _,fun j hj => by
  have h2 : j≠id:=fun e => by rw [e,hl] at hj; cases hj
  show (Trie.put none depth S.heap id).get j = _
  rw [hget,if_neg h2]⟩
 ·intro j blk h
  rw [hget] at h
  split at h
  ·cases h
  ·exact hS.at_ j blk h
 ·intro i j bi bj x y hi hj
  rw [hget] at hi hj
  split at hi
  ·cases hi
  ·split at hj
   ·cases hj
   ·exact hS.inj i j bi bj x y hi hj
 ·intro j blk x h
  rw [hget] at h
  split at h
  ·cases h
  ·exact hS.wr j blk x h
 ·intro j hj
  have:=hS.fresh j hj
  refine ⟨this.1,?_⟩
  show (Trie.put none depth S.heap id).get j = none
  rw [hget]
  split
  ·rfl
  ·exact this.2
section
variable {E : Env} {σ : Sig} {S S' : ASt} {w : World} {Wr : Nat→Prop}
noncomputable def alen (x : AV) : Option Nat:=
 match x with
 | .nilslice => some 0
 | .slice _ _ len _ _ => some len
 | .stail .. => some 0
 | .str s => some s.length
 | _ => none
theorem alen_ok {x : AV} {n : Nat} {u : Value} (hx : x.inst σ = some u) (h : alen x = some n) (P : Program) (w : World) : (Builtin.lenOf u).run P w = .ok n w:=by
 unfold alen at h
 split at h
 ·cases h
  simp only [AV.inst,Option.some.injEq] at hx
  subst hx; rfl
 ·cases h
  obtain ⟨b,κ,_,_,rfl⟩:=yT hx
  rfl
 ·cases h
  obtain ⟨_,_,rfl⟩:=inst_stail hx
  rfl
 ·cases h
  simp only [AV.inst,Option.some.injEq] at hx
  subst hx
  simp [Builtin.lenOf,bytesOf_size]
 ·cases h
noncomputable def asrc (S : ASt) (size n : Nat) (x : AV) : Option (List AV):=
 match x with
 | .nilslice => match Nat.beq n 0 with
   | true => some []
   | false => none
 | .slice id off len _ _ => match S.heap.get id with
   | some (.cells l _) => match Nat.ble (off + n * size) l.length with
     | true => some ((l.drop off).take (n * size))
     | false => none
   | _ => none
 | .stail .. => match Nat.beq n 0 with
   | true => some []
   | false => none
 | .str s => match Nat.beq size 1 && (Nat.ble n s.length && s.all (fun c => Nat.blt c 256)) with
   | true => some ((s.take n).map fun c => .int .u8 (.ofNat c))
   | false => none
 | _ => none
theorem bytes_ins : ∀ (s : List Nat),s.all (fun c => Nat.blt c 256) = true→Ins σ (s.map fun c => AV.int .u8 (.ofNat c)) ((s.map UInt8.ofNat).map fun b => Value.int .u8 b.toNat)
 | [],_ => .nil
 | c :: s,h => by
   simp only [List.all_cons,Bool.and_eq_true] at h
   refine .cons ?_ (bytes_ins s h.2)
   have : c < 256:=zo h.1
   simp [AV.inst,Nat.mod_eq_of_lt this]
theorem asrc_ok (hS : S.rel E.P σ w Wr) {size n : Nat} {x : AV} {m : List AV} {u : Value} (hx : x.inst σ = some u) (h : asrc S size n x = some m) :
  m.length = n * size∧∃ ms,Ins σ m ms∧∀ w₁ : World,w₁.heap = w.heap→(Builtin.firstCells size n u).run E.P w₁ = .ok ms.toArray w₁:=by
 unfold asrc at h
 split at h
 ·split at h
  ·rename_i hn
   cases h
   obtain rfl:=Nat.eq_of_beq_eq_true hn
   simp only [AV.inst,Option.some.injEq] at hx
   subst hx
   exact ⟨by simp,[],.nil,fun w₁ _ => rfl⟩
  ·cases h
 ·rename_i id off len cap ex
  obtain ⟨b,κ,hs,_,rfl⟩:=yT hx
  split at h
  ·rename_i l t hb
   split at h
   ·rename_i hle
    cases h
    have hle':=Nat.le_of_ble_eq_true hle
    obtain ⟨b',κ',vs,rest,fr,h1,h2,hi,hk,hfr⟩:=get_cells hS hb
    rw [hs] at h1; cases h1
    have hlen:=hi.length
    refine ⟨by simp; omega,_,(hi.drop off).take (n * size),fun w₁ hw => ?_⟩
    exact load_cells (w:=w₁) (P:=E.P) (by rw [hw]; exact h2) (by omega)
   ·cases h
  ·cases h
 ·split at h
  ·rename_i hn
   cases h
   obtain rfl:=Nat.eq_of_beq_eq_true hn
   obtain ⟨a,c,rfl⟩:=inst_stail hx
   exact ⟨by simp,[],.nil,fun w₁ _ => by simp [Builtin.firstCells,loadCells,loadCellsFrom]⟩
  ·cases h
 ·rename_i s
  split at h
  ·rename_i hc
   simp only [Bool.and_eq_true] at hc
   obtain ⟨c1,c2,c3⟩:=hc
   cases h
   obtain rfl:=Nat.eq_of_beq_eq_true c1
   have c2':=Nat.le_of_ble_eq_true c2
   simp only [AV.inst,Option.some.injEq] at hx
   subst hx
   refine ⟨by simp; omega,_,bytes_ins (s.take n) ?_,fun w₁ _ => ?_⟩
   ·rw [List.all_eq_true] at c3 ⊢
    exact fun c hc => c3 c (List.mem_of_mem_take hc)
   ·simp only [Builtin.firstCells,Sem.run_pure]
    congr 1
    apply Array.ext'
    simp [z7,ByteArray.extract,ByteArray.copySlice,List.map_take]
  ·cases h
 ·cases h
noncomputable def notIntT (E : Env) (t : Option TypeId) : Bool:=
 match t with
 | none => true
 | some t => match E.und t with
   | some (.int _) => false
   | some _ => true
   | none => false
theorem append_types (hE : E.Ok) {argTypes : Array TypeId} {ty t : TypeId} {args : Array Value} (h0 : argTypes[0]? = some t) (hi1 : notIntT E argTypes[1]? = true) (w : World) :
  (Builtin.append_ argTypes ty args).run E.P w = (Builtin.append_ #[t] ty args).run E.P w:=by
 cases ha : argTypes[1]? with
 | none => simp only [Builtin.append_,h0,ha,List.getElem?_toArray,List.getElem?_cons_zero,List.getElem?_cons_succ,List.getElem?_nil]
 | some t1 =>
   unfold notIntT at hi1
   rw [ha] at hi1
   simp only at hi1
   cases hu : E.und t1 with
   | none => rw [hu] at hi1; cases hi1
   | some d =>
     rw [hu] at hi1
     simp only [Builtin.append_,h0,ha,List.getElem?_toArray,List.getElem?_cons_zero,List.getElem?_cons_succ,List.getElem?_nil]
     split
     ·simp only [Sem.run_bind]
      congr 1
      funext d0 w0
      split
      ·split
       ·simp only [Sem.run_bind]
        congr 1
        funext sz w1
        simp only [zA hE hu w1,Result.andThen_ok]
        cases d <;> first
         | (cases hi1; done)
         | rfl
       ·rfl
      ·rfl
     ·rfl
noncomputable def agrow (E : Env) (S : ASt) (elem : TypeId) (i : TypeInfo) (need : Nat) (m : List AV) : Option (AV×ASt):=
 match i.zero with
 | some z => match Nat.beq z.cells.size i.size && (Nat.ble (need * i.bytes) 140737488355328 && Nat.ble need 1000000000) with
   | true => match anew S (.cells m elem) with
     | some S' => some (.slice S.next 0 need 0 false,S')
     | none => none
   | false => none
 | none => none
theorem agrow_ok (hE : E.Ok) (hS : S.rel E.P σ w Wr) {argTypes : Array TypeId} {ty t elem : TypeId} {i : TypeInfo} (h0 : argTypes[0]? = some t) (hi1 : notIntT E argTypes[1]? = true)
  (ht : E.und t = some (.slice elem)) (hi : E.inf elem = some i) {base : Option Addr} {sLen sCap n : Nat} {x : Value} {olds news : List Value} {m : List AV} (hneed : sCap < sLen + n)
  (hlen : (Builtin.lenOf x).run E.P w = .ok n w)
  (hold : ∀ w₁ : World,w₁.heap = w.heap→(Builtin.firstCells i.size sLen (.slice base sLen sCap)).run E.P w₁ = .ok olds.toArray w₁)
  (hnew : ∀ w₁ : World,w₁.heap = w.heap→(Builtin.firstCells i.size n x).run E.P w₁ = .ok news.toArray w₁)
  (hm : Ins σ m (olds ++ news)) (hml : m.length = (sLen + n) * i.size) {v : AV} (h : agrow E S elem i (sLen + n) m = some (v,S')) :
  VPost E σ S w Wr ((Builtin.append_ argTypes ty #[.slice base sLen sCap,x]).run E.P w) v S':=by
 unfold agrow at h
 split at h
 ·rename_i z hz
  split at h
  ·rename_i hc
   simp only [Bool.and_eq_true] at hc
   obtain ⟨c1,c2,c3⟩:=hc
   have c1':=Nat.eq_of_beq_eq_true c1
   have c2':=Nat.le_of_ble_eq_true c2
   have c3':=Nat.le_of_ble_eq_true c3
   split at h
   ·rename_i S₁ hn
    cases h
    have hP:=hE.inf elem i hi
    let newCap:=(Question.appendCap (sLen + n) sCap elem).cut (w.tape w.drawn (.appendCap (sLen + n) sCap elem))
    have hcap : sLen + n≤newCap:=by
     simp only [newCap,Question.cut]
     omega
    let rest:=Builtin.zeroCells z.cells (newCap - (sLen + n))
    have hrl : rest.toList.length = (newCap - (sLen + n)) * i.size:=by simp [rest,Builtin.zeroCells,c1']
    let w' : World:={ w.drew with heap:=w.heap.push (.cells (olds.toArray ++ news.toArray ++ rest) elem) }
    have hblk : BRel E.P σ newCap (.cells m elem) (.cells (olds.toArray ++ news.toArray ++ rest) elem (0,0)):=by
     have hm2 : (newCap - (sLen + n)) * i.size + (sLen + n) * i.size = newCap * i.size:=by
      rw [← Nat.add_mul]
      congr 1
      omega
     refine ⟨olds ++ news,rest.toList,(0,0),hm,?_,?_,.inl (Nat.le_refl _),.inr ?_⟩
     ·congr 1
      apply Array.ext'
      simp
     ·have:=hm.length
      simp only [List.length_append] at this ⊢
      rw [hrl]
      have e : yo E.P elem = i.size:=by simp [yo,hP]
      rw [e]
      omega
     ·have:=hm.length
      have e : yo E.P elem = i.size:=by simp [yo,hP]
      rw [e]
      omega
    obtain ⟨hp,hs⟩:=anew_ok hS hn hblk (w':=w') rfl
    refine ⟨_,.slice (some ⟨w.heap.size,0,none⟩) (sLen + n) newCap,w',?_,?_,hp⟩
    ·have n1 : ¬ (sLen + n≤sCap):=by omega
     have n2 : ¬ (9223372036854775807 < ((sLen : Int) + (n : Int))):=by omega
     have n3 : ¬ (281474976710656 < Builtin.nextslicecap (sLen + n) sCap * i.bytes):=by
      have:=growslice_fits hneed c2'
      omega
     have hdrew : w.drew.heap = w.heap:=rfl
     have hold':=hold w.drew hdrew
     have hnew':=hnew w.drew hdrew
     rw [append_types hE h0 hi1]
     simp [Builtin.append_,zA hE ht,z8 hE (show E.size elem = some i.size by simp [Env.size,hi]),hlen,n1,n2,n3,run_inf hE hi,zeroValue,hz,Question.forced,hold',hnew',newRow,w',newCap,rest]
     rw [show (olds ++ news).toArray = olds.toArray ++ news.toArray from (by simp),Array.append_assoc]
     rfl
    ·have:=slice_inst (σ:=σ.add S.next (w.heap.size,newCap)) (id:=S.next) (off:=0) (len:=sLen + n) (cap:=0) (ex:=false) hs (.inr ⟨by omega,by omega⟩)
     simpa using this
   ·cases h
  ·cases h
 ·cases h
end
end Go.Proofs.YtfddkbbjnghefaaGreatDoor.Zs
