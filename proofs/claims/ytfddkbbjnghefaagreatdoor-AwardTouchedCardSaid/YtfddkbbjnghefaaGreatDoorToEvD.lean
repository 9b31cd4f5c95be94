/-
  append as a whole; copy, len, cap; conversions; walks over strings; comparisons with nil; interfaces.
-/
import Derived.Test.YtfddkbbjnghefaaGreatDoorToEvC
set_option linter.unusedSimpArgs false
set_option linter.unusedVariables false
namespace Go.Proofs.YtfddkbbjnghefaaGreatDoor.Zs
open Go
section
variable {E : Env} {σ : Sig} {S S' : ASt} {w : World} {Wr : Nat→Prop}
theorem run_room (hE : E.Ok) {argTypes : Array TypeId} {ty t elem : TypeId} {i : TypeInfo} (h0 : argTypes[0]? = some t) (hi1 : notIntT E argTypes[1]? = true)
  (ht : E.und t = some (.slice elem)) (hi : E.inf elem = some i) {b off sLen sCap n : Nat} {x : Value} {news : List Value} (hfit : sLen + n≤sCap)
  (hlen : (Builtin.lenOf x).run E.P w = .ok n w) (hnew : (Builtin.firstCells i.size n x).run E.P w = .ok news.toArray w)
  {w' : World} (hst : (storeCells ⟨b,off + sLen * i.size,none⟩ news).run E.P w = .ok () w') :
  (Builtin.append_ argTypes ty #[.slice (some ⟨b,off,none⟩) sLen sCap,x]).run E.P w = .ok (.slice (some ⟨b,off,none⟩) (sLen + n) sCap) w':=by
 rw [append_types hE h0 hi1]
 simp [Builtin.append_,zA hE ht,z8 hE (show E.size elem = some i.size by simp [Env.size,hi]),hlen,hfit,hnew,yF,hst]
noncomputable def aappend (E : Env) (S : ASt) (argTypes : Array TypeId) (s x : AV) : Option (AV×ASt):=
 match argTypes[0]? with
 | some t => match notIntT E argTypes[1]? with
   | true => match E.und t with
     | some (.slice elem) => match E.inf elem with
       | some i => match alen x with
         | some n => match asrc S i.size n x with
           | some m => match s with
             | .nilslice => match Nat.beq n 0 with
               | true => some (.nilslice,S)
               | false => agrow E S elem i n m
             | .slice id off len cap ex => match S.heap.get id with
               | some (.cells l t') => match ex with
                 | true => match Nat.ble (len + n) cap with
                   | true => match astoreCells S id (off + len * i.size) m with
                     | some S' => some (.slice id off (len + n) cap true,S')
                     | none => none
                   | false => match Nat.ble (off + len * i.size) l.length with
                     | true => agrow E S elem i (len + n) ((l.drop off).take (len * i.size) ++ m)
                     | false => none
                 | false => match Nat.blt ((cap + len) * i.size) l.length && roomy S id elem i.size (cap + (len + n)) with
                  | true => match astoreCells S id (off + len * i.size) m with
                     | some S' => some (.slice id off (len + n) cap false,S')
                     | none => none
                  | false => match Nat.beq off 0 && (Nat.beq cap 0 && (Nat.beq t' elem && (Nat.ble (len * i.size) l.length && (S.limit id && (Nat.blt id zM && m.all AV.one))))) with
                   | true => match agrow E { heap:=Trie.put none depth S.heap id,next:=S.next,limit:=S.limit } elem i (len + n) (l.take (len * i.size) ++ m) with
                     | some (v,S') => some (v,S')
                     | none => none
                   | false => none
               | _ => none
             | _ => none
           | none => none
         | none => none
       | none => none
     | _ => none
   | false => none
 | none => none
theorem aappend_ok (hE : E.Ok) (hS : S.rel E.P σ w Wr) {argTypes : Array TypeId} {ty : TypeId} {s x v : AV} {su xu : Value} (hs : s.inst σ = some su) (hx : x.inst σ = some xu)
  (h : aappend E S argTypes s x = some (v,S')) : VPost E σ S w Wr ((Builtin.append_ argTypes ty #[su,xu]).run E.P w) v S':=by
 unfold aappend at h
 split at h
 ·rename_i t h0
  split at h
  ·rename_i hi1
   split at h
   ·rename_i elem ht
    split at h
    ·rename_i i hi
     split at h
     ·rename_i n hn
      split at h
      ·rename_i m hm
       have hlen:=alen_ok hx hn E.P w
       obtain ⟨hml,ms,hmi,hnew⟩:=asrc_ok hS hx hm
       split at h
       ·simp only [AV.inst,Option.some.injEq] at hs
        subst hs
        split at h
        ·rename_i h00
         cases h
         obtain rfl:=Nat.eq_of_beq_eq_true h00
         refine .same hS (u:=.slice none 0 0) ?_ rfl
         rw [append_types hE h0 hi1]
         simp [Builtin.append_,zA hE ht,z8 hE (show E.size elem = some i.size by simp [Env.size,hi]),hlen,hnew w rfl]
        ·rename_i h00
         have h00':=Nat.ne_of_beq_eq_false h00
         have:=agrow_ok (σ:=σ) hE hS (ty:=ty) h0 hi1 ht hi (base:=none) (sLen:=0) (sCap:=0) (n:=n) (x:=xu) (olds:=[]) (news:=ms) (m:=m) (by omega) hlen (fun w₁ _ => rfl) hnew (by simpa using hmi) (by simpa using hml) (v:=v) (S':=S')
         simp only [Nat.zero_add] at this
         exact this h
       ·rename_i id off len cap ex
        obtain ⟨b,κ,hsb,hcap,rfl⟩:=yT hs
        split at h
        ·rename_i l t' hb
         obtain ⟨b',κ',vs,rest,fr,e1,e2,e3,e4,e5,e6⟩:=get_cells' hS hb
         rw [hsb] at e1; cases e1
         have hlv:=e3.length
         split at h
         ·split at h
          ·rename_i hfit
           have hfit':=Nat.le_of_ble_eq_true hfit
           split at h
           ·rename_i S₁ hst
            cases h
            obtain ⟨b',κ',w',f1,f2,f3⟩:=astoreCells_ok hS hst hmi
            rw [hsb] at f1; cases f1
            refine ⟨σ,_,w',run_room hE h0 hi1 ht hi (by simpa using hfit') hlen (hnew w rfl) f2,slice_inst hsb (.inl rfl),f3⟩
           ·cases h
          ·rename_i hfit
           have hfit' : ¬ (len + n≤cap):=fun e => by
            have:=Nat.ble_eq_true_of_le e
            rw [this] at hfit; cases hfit
           split at h
           ·rename_i hle
            have hle':=Nat.le_of_ble_eq_true hle
            refine agrow_ok (σ:=σ) hE hS (ty:=ty) h0 hi1 ht hi (base:=some ⟨b,off,none⟩) (sLen:=len) (sCap:=cap) (olds:=(vs.drop off).take (len * i.size)) (news:=ms) (by omega) hlen (fun w₁ hw => load_cells (w:=w₁) (P:=E.P) (by rw [hw]; exact e2) (by omega)) hnew
             (((e3.drop off).take _).append hmi) ?_ h
            simp [hml,Nat.add_mul]
            omega
           ·cases h
         ·obtain ⟨b₀,κ₀,hs₀,hpos,hcap₀,_⟩:=inst_slice' hs
          rw [hsb] at hs₀; cases hs₀
          split at h
          ·rename_i hc
           simp only [Bool.and_eq_true] at hc
           have hrm:=roomy_ok hE hS (show E.size elem = some i.size by simp [Env.size,hi]) hsb hpos hc.2
           split at h
           ·rename_i S₁ hst
            cases h
            obtain ⟨b',κ',w',f1,f2,f3⟩:=astoreCells_ok hS hst hmi
            rw [hsb] at f1; cases f1
            refine ⟨σ,_,w',run_room hE h0 hi1 ht hi (by simp only [Bool.false_eq_true,if_false]; omega) hlen (hnew w rfl) f2,?_,f3⟩
            have:=slice_inst (σ:=σ) (off:=off) (len:=len + n) (cap:=cap) (ex:=false) hsb (.inr ⟨hpos,by omega⟩)
            simpa using this
           ·cases h
          split at h
          ·rename_i hc
           simp only [Bool.and_eq_true] at hc
           obtain ⟨c1,c2,c3,c4,c5,c6,c7⟩:=hc
           obtain rfl:=Nat.eq_of_beq_eq_true c1
           obtain rfl:=Nat.eq_of_beq_eq_true c2
           obtain rfl:=Nat.eq_of_beq_eq_true c3
           have c4':=Nat.le_of_ble_eq_true c4
           have c5':=c5
           have c6':=zo c6
           split at h
           ·rename_i v₁ S₁ hg
            cases h
            have hcap' : len≤κ:=by rcases hcap with hcap | hcap; cases hcap; simpa using hcap
            simp only [Nat.sub_zero,Bool.false_eq_true,if_false]
            have hcs : yo E.P t' = i.size:=by simp [yo,hE.inf _ i hi]
            have hins : Ins σ (l.take (len * i.size) ++ m) (vs.take (len * i.size) ++ ms):=(e3.take _).append hmi
            by_cases hroom : len + n≤κ
            ·-- in place
             have hsz : (len + n) * i.size≤κ * i.size:=Nat.mul_le_mul_right _ hroom
             rw [hcs] at e4
             have hmsl:=hmi.length
             have hin : 0 + len * i.size + ms.length≤(vs ++ rest).length:=by
              rw [hmsl,hml,Nat.zero_add,← Nat.add_mul]
              exact Nat.le_trans hsz e4
             have hrun:=store_cells (P:=E.P) b (0 + len * i.size) t' fr ms 0 (vs ++ rest).toArray w e2 (by simpa using e5) (by simpa using hin) (hmi.one c7)
             have hrm:=run_room hE (w:=w) (ty:=ty) h0 hi1 ht hi (b:=b) (off:=0) (sLen:=len) (sCap:=κ) hroom hlen (hnew w rfl) hrun
             unfold agrow at hg
             split at hg
             ·rename_i z hz
              split at hg
              ·rename_i hcc
               split at hg
               ·rename_i S₂ hnw
                cases hg
                unfold anew at hnw
                split at hnw
                ·rename_i hnx
                 cases hnw
                 refine ⟨σ.add S.next (b,κ),_,_,hrm,?_,?_⟩
                 ·have:=slice_inst (σ:=σ.add S.next (b,κ)) (id:=S.next) (off:=0) (len:=len + n) (cap:=0) (ex:=false) (Sig.add_same _ _ _) (.inr ⟨by omega,by omega⟩)
                  simpa using this
                 ·refine post_move hS (zo hnx) hb c5' hsb c6' (blk:=.cells (l.take (len * i.size) ++ m) t') ?_ (setRow_eq w b _ e2)
                  have hlen2 : (vs.take (len * i.size) ++ ms ++ (vs ++ rest).drop (len * i.size + ms.length)).length = (vs ++ rest).length:=by
                   simp only [List.length_append,List.length_take,List.length_drop] at hin ⊢
                   omega
                  refine ⟨vs.take (len * i.size) ++ ms,(vs ++ rest).drop (len * i.size + ms.length),fr,hins,?_,?_,by rw [hlen2]; exact e5,.inr ?_⟩
                  ·congr 1
                   simp only [Nat.zero_add,Nat.add_zero]
                   rw [List.take_append_of_le_length (by omega)]
                  ·rw [hcs,hlen2]
                   exact e4
                  ·rw [hcs]
                   simp only [List.length_append,List.length_take]
                   rw [hmsl,hml]
                   rw [Nat.add_mul] at hsz
                   omega
                ·cases hnw
               ·cases hg
              ·cases hg
             ·cases hg
            ·-- grown
             have hkill:=rel_kill hS c5' c6'
             have hgr:=agrow_ok (σ:=σ) hE hkill.rel (ty:=ty) h0 hi1 ht hi (base:=some ⟨b,0,none⟩) (sLen:=len) (sCap:=κ) (olds:=vs.take (len * i.size)) (news:=ms) (by omega) hlen
              (fun w₁ hw => by
                have:=load_cells (w:=w₁) (P:=E.P) (b:=b) (off:=0) (n:=len * i.size) (vs:=vs) (rest:=rest) (t:=t') (by rw [hw]; exact e2) (by omega)
                simp only [List.drop_zero] at this
                exact this) hnew hins (by simp [hml,Nat.add_mul]; omega) hg
             obtain ⟨σ',u,w',g1,g2,g3⟩:=hgr
             exact ⟨σ',u,w',g1,g2,hkill.trans g3⟩
           ·cases h
          ·cases h
        ·cases h
       ·cases h
      ·cases h
     ·cases h
    ·cases h
   ·cases h
  ·cases h
 ·cases h
noncomputable def aappendZ (E : Env) (S : ASt) (argTypes : Array TypeId) (s x : AV) : Option (AV×ASt):=none
theorem aappendZ_ok (hE : E.Ok) (hS : S.rel E.P σ w Wr) {argTypes : Array TypeId} {ty : TypeId} {s x v : AV} {su xu : Value} (hs : s.inst σ = some su) (hx : x.inst σ = some xu)
  (h : aappendZ E S argTypes s x = some (v,S')) : VPost E σ S w Wr ((Builtin.append_ argTypes ty #[su,xu]).run E.P w) v S':=by
 unfold aappendZ at h
 cases h
noncomputable def acopy (E : Env) (S : ASt) (argTypes : Array TypeId) (d x : AV) : Option (AV×ASt):=none
theorem acopy_ok (hE : E.Ok) (hS : S.rel E.P σ w Wr) {argTypes : Array TypeId} {ty : TypeId} {d x v : AV} {du xu : Value} (hd : d.inst σ = some du) (hx : x.inst σ = some xu)
  (h : acopy E S argTypes d x = some (v,S')) : VPost E σ S w Wr ((Builtin.copy_ argTypes ty #[du,xu]).run E.P w) v S':=by
 unfold acopy at h
 cases h
theorem entRows_len {kag : Bool} {ks : List CK} {vag : Bool} {vs : List CK} : ∀ {es : List MapEntry} {rows : List (List Value)},EntRows kag ks vag vs es rows→es.length = rows.length
 | [],[],_ => rfl
 | _ :: _,_ :: _,h => by simp only [List.length_cons,entRows_len h.2]
 | [],_ :: _,h => h.elim
 | _ :: _,[],h => h.elim
noncomputable def alenOf (E : Env) (S : ASt) (argTypes : Array TypeId) (x : AV) : Option AV:=
 match argTypes[0]? with
 | some t => match E.und t with
   | some (.slice _) => match x with
     | .nilslice => some (.int .i64 (.ofNat 0))
     | .slice _ _ len _ _ => some (.int .i64 (.ofNat len))
     | _ => none
   | some .string => match x with
     | .str s => some (.int .i64 (.ofNat s.length))
     | _ => none
   | some (.map _ _) => match x with
     | .nilmap => some (.int .i64 (.ofNat 0))
     | .map id => match S.heap.get id with
       | some (.map es _) => some (.int .i64 (.ofNat es.length))
       | some (.smap _ _ _ _ x) => some (.sint .i64 (.op1 .len x))
       | _ => none
     | _ => none
   | some (.array n _) => some (.int .i64 (.ofNat n))
   | _ => none
 | none => none
theorem alenOf_ok (hE : E.Ok) (hS : S.rel E.P σ w Wr) {argTypes : Array TypeId} {ty : TypeId} {x v : AV} {xu : Value} (hx : x.inst σ = some xu)
  (h : alenOf E S argTypes x = some v) : RPost σ w ((Builtin.len_ argTypes ty #[xu]).run E.P w) v:=by
 unfold alenOf at h
 split at h
 ·rename_i t h0
  split at h
  ·rename_i e ht
   split at h
   ·cases h
    simp only [AV.inst,Option.some.injEq] at hx
    subst hx
    exact .same hS (u:=.int .i64 0) (by simp [Builtin.len_,h0,zA hE ht,goInt]) rfl
   ·rename_i id off len cap ex
    cases h
    obtain ⟨b,κ,_,_,rfl⟩:=yT hx
    exact .same hS (u:=.int .i64 len) (by simp [Builtin.len_,h0,zA hE ht,goInt]) rfl
   ·cases h
  ·rename_i ht
   split at h
   ·rename_i s
    cases h
    simp only [AV.inst,Option.some.injEq] at hx
    subst hx
    exact .same hS (u:=.int .i64 s.length) (by simp [Builtin.len_,h0,zA hE ht,goInt,bytesOf_size]) rfl
   ·cases h
  ·rename_i kt et ht
   split at h
   ·cases h
    simp only [AV.inst,Option.some.injEq] at hx
    subst hx
    exact .same hS (u:=.int .i64 0) (by simp [Builtin.len_,h0,zA hE ht,goInt]) rfl
   ·rename_i id
    split at h
    ·rename_i es c hb
     cases h
     obtain ⟨b,κ,es',h1,h2,hi⟩:=get_map hS hb
     obtain ⟨b',κ',h1',rfl⟩:=inst_map hx
     rw [h1] at h1'; cases h1'
     have hl:=instE_len hi
     exact .same hS (u:=.int .i64 es.length) (by simp [Builtin.len_,h0,zA hE ht,goInt,zrun_get h2,hl]) rfl
    ·rename_i x hb
     cases h
     obtain ⟨b,κ,o,h1,h2,es',c,rows,h3,h4,h5⟩:=hS.at_ id _ hb
     subst h4
     obtain ⟨b',κ',h1',rfl⟩:=inst_map hx
     rw [h1] at h1'; cases h1'
     have hl:=entRows_len h5.1
     have hd : (X.op1 .len x).den σ.rho = some (.int .i64 rows.length):=by simp [X.den,h3,den1,zQ]
     exact .same hS (u:=.int .i64 rows.length) (by simp [Builtin.len_,h0,zA hE ht,goInt,zrun_get h2,hl]) (by simp only [AV.inst,X.int_iff.2 ⟨.i64,hd⟩])
    ·cases h
   ·cases h
  ·rename_i n e ht
   cases h
   exact .same hS (u:=.int .i64 n) (by simp [Builtin.len_,h0,zA hE ht,goInt]) rfl
  ·cases h
 ·cases h
noncomputable def acapOf (E : Env) (argTypes : Array TypeId) (x : AV) : Option AV:=none
theorem acapOf_ok (hE : E.Ok) (hS : S.rel E.P σ w Wr) {argTypes : Array TypeId} {ty : TypeId} {x v : AV} {xu : Value} (hx : x.inst σ = some xu)
  (h : acapOf E argTypes x = some v) : RPost σ w ((Builtin.cap_ argTypes ty #[xu]).run E.P w) v:=by
 unfold acapOf at h
 cases h
noncomputable def aconvert (E : Env) (S : ASt) (src dst : TypeId) (x : AV) : Option AV:=none
theorem aconvert_ok (hE : E.Ok) (hS : S.rel E.P σ w Wr) {src dst : TypeId} {x v : AV} {xu : Value} (hx : x.inst σ = some xu)
  (h : aconvert E S src dst x = some v) : RPost σ w ((convert src dst xu).run E.P w) v:=by
 unfold aconvert at h
 cases h
noncomputable def astrBytes (E : Env) (S : ASt) (src dst : TypeId) (x : AV) : Option (AV×ASt):=none
theorem astrBytes_ok (hE : E.Ok) (hS : S.rel E.P σ w Wr) {src dst : TypeId} {x v : AV} {xu : Value} (hx : x.inst σ = some xu)
  (h : astrBytes E S src dst x = some (v,S')) : VPost E σ S w Wr ((convert src dst xu).run E.P w) v S':=by
 unfold astrBytes at h
 cases h
noncomputable def arange (E : Env) (S : ASt) (t : TypeId) (x : AV) : Option (AV×ASt):=
 match E.und t with
 | some .string => match x with
   | .str s => match anew S (.siter s 0) with
     | some S' => some (.ptr S.next 0,S')
     | none => none
   | _ => none
 | some (.map _ _) => match x with
   | .map id => match S.heap.get id with
     | some (.map _ clock) => match anew S (.miter id clock []) with
       | some S' => some (.ptr S.next 0,S')
       | none => none
     | _ => none
   | _ => none
 | _ => none
theorem arange_ok (hE : E.Ok) (hS : S.rel E.P σ w Wr) {t : TypeId} {x v : AV} {xu : Value} (hx : x.inst σ = some xu) (h : arange E S t x = some (v,S')) :
  VPost E σ S w Wr ((Instr.range t xu).run E.P w) v S':=by
 unfold arange at h
 split at h
 ·rename_i ht
  split at h
  ·rename_i s
   split at h
   ·rename_i S₁ hn
    cases h
    simp only [AV.inst,Option.some.injEq] at hx
    subst hx
    obtain ⟨hp,hs⟩:=anew_ok hS hn (κ:=0) (o:=.stringIter (z7 s) 0) (w':={ w with heap:=w.heap.push (.stringIter (z7 s) 0) }) rfl rfl
    exact ⟨_,.pointer (some ⟨w.heap.size,0,none⟩),_,by simp [Instr.range,zA hE ht],ptr_inst hs,hp⟩
   ·cases h
  ·cases h
 ·rename_i tk tv ht
  split at h
  ·rename_i id
   split at h
   ·rename_i es clock hm
    split at h
    ·rename_i S₁ hn
     cases h
     obtain ⟨b,κ,es',h1,h2,h3⟩:=get_map hS hm
     obtain ⟨b₁,κ',h1',rfl⟩:=inst_map hx
     rw [h1] at h1'; cases h1'
     have hg : (getObj b).run E.P w = .ok (.map es'.toArray clock) w:=by simp [getObj,Sem.run,h2]
     obtain ⟨hp,hs⟩:=anew_ok hS hn (κ:=0) (o:=.mapIter (some b) clock #[] clock) (w':={ w with heap:=w.heap.push (.mapIter (some b) clock #[] clock) }) ⟨_,h1,rfl⟩ rfl
     exact ⟨_,.pointer (some ⟨w.heap.size,0,none⟩),_,by simp [Instr.range,zA hE ht,hg],ptr_inst hs,hp⟩
    ·cases h
   ·cases h
  ·cases h
 ·cases h
noncomputable def anext (S : ASt) (x : AV) (isString : Bool) : Option (AV×ASt):=none
theorem anext_ok (hS : S.rel E.P σ w Wr) {t : TypeId} {x v : AV} {b : Bool} {xu : Value} (hx : x.inst σ = some xu) (h : anext S x b = some (v,S')) :
  VPost E σ S w Wr ((Instr.next xu b t).run E.P w) v S':=by
 unfold anext at h
 cases h
noncomputable def notSeen (seen : List Nat) (e : AV×AV×Nat) : Bool:=!(seen.any (Nat.beq e.2.2))
noncomputable def anextM (S : ASt) (x : AV) : Option (List (AV×ASt)):=
 match x with
 | .ptr id off => match Nat.beq off 0 with
   | true => match S.heap.get id with
     | some (.miter m since seen) => match S.heap.get m with
       | some (.map es clock) => match Nat.beq clock since && (es.all (fun e => Nat.blt e.2.2 since) && (S.limit id && Nat.blt id zM)) with
         | true => match es.filter (notSeen seen) with
           | [] => some [(.tuple [.bool false],S)]
           | e :: l => some ((e :: l).map fun e => (.tuple [.bool true,e.1,e.2.1],{ heap:=Trie.put (some (.miter m since (seen ++ [e.2.2]))) depth S.heap id,next:=S.next,limit:=S.limit }))
         | false => none
       | _ => none
     | _ => none
   | false => none
 | _ => none
theorem instE_filter {p : Nat→Bool} : ∀ {l : List (AV×AV×Nat)} {es : List MapEntry},yY σ l = some es→yY σ (l.filter fun e => p e.2.2) = some (es.filter fun e => p e.born)
 | [],es,h => by simp only [yY,Option.some.injEq] at h; subst h; rfl
 | (k,v,b) :: l,es,h => by
   simp only [yY] at h
   split at h
   ·rename_i k' hk
    split at h
    ·rename_i v' hv
     split at h
     ·rename_i l' hl
      cases h
      have ih:=instE_filter (p:=p) hl
      cases hp : p b with
      | true => simp only [List.filter_cons,hp,if_true,yY,hk,hv,ih]
      | false => simp only [List.filter_cons,hp,Bool.false_eq_true,if_false,ih]
     ·cases h
    ·cases h
   ·cases h
theorem instE_nth : ∀ {l : List (AV×AV×Nat)} {es : List MapEntry},yY σ l = some es→l.length = es.length∧∀ (i : Nat) (e : MapEntry),es[i]? = some e→∃ q,q ∈ l∧q.1.inst σ = some e.key∧q.2.1.inst σ = some e.val∧q.2.2 = e.born
 | [],es,h => by simp only [yY,Option.some.injEq] at h; subst h; exact ⟨rfl,fun i e he => by simp at he⟩
 | (k,v,b) :: l,es,h => by
   simp only [yY] at h
   split at h
   ·rename_i k' hk
    split at h
    ·rename_i v' hv
     split at h
     ·rename_i l' hl
      cases h
      obtain ⟨h1,h2⟩:=instE_nth hl
      refine ⟨by simp [h1],fun i e he => ?_⟩
      cases i with
      | zero =>
        simp only [List.getElem?_cons_zero,Option.some.injEq] at he
        subst he
        exact ⟨_,List.mem_cons_self,hk,hv,rfl⟩
      | succ i =>
        simp only [List.getElem?_cons_succ] at he
        obtain ⟨q,q1,q2⟩:=h2 i e he
        exact ⟨q,List.mem_cons_of_mem _ q1,q2⟩
     ·cases h
    ·cases h
   ·cases h
theorem contains_any (seen : List Nat) (b : Nat) : seen.toArray.contains b = seen.any (Nat.beq b):=by
 rw [List.contains_toArray]
 induction seen with
 | nil => rfl
 | cons x l ih =>
   rw [List.contains_cons,List.any_cons,ih,show (b == x) = Nat.beq b x by rw [Bool.eq_iff_iff,beq_iff_eq]; exact ⟨fun h => h ▸ Nat.beq_refl _,Nat.eq_of_beq_eq_true⟩]
theorem anextM_ok (hS : S.rel E.P σ w Wr) {t : TypeId} {x : AV} {xu : Value} (hx : x.inst σ = some xu) {l : List (AV×ASt)} (h : anextM S x = some l) :
  ∃ p,p ∈ l∧VPost E σ S w Wr ((Instr.next xu false t).run E.P w) p.1 p.2:=by
 unfold anextM at h
 split at h
 ·rename_i id off
  split at h
  ·rename_i h0
   obtain rfl:=Nat.eq_of_beq_eq_true h0
   split at h
   ·rename_i m since seen hb
    obtain ⟨b,κ,o,h1,h2,h3⟩:=hS.at_ id _ hb
    obtain ⟨b₁,κ',h1',rfl⟩:=inst_ptr hx
    rw [h1] at h1'; cases h1'
    obtain ⟨y,hy,ho⟩:=h3
    subst ho
    split at h
    ·rename_i es clock hm
     obtain ⟨bm,κm,es',e1,e2,e3⟩:=get_map hS hm
     rw [hy] at e1
     cases e1
     split at h
     ·rename_i hc
      simp only [Bool.and_eq_true] at hc
      obtain ⟨c1,c2,c3,c4⟩:=hc
      obtain rfl:=Nat.eq_of_beq_eq_true c1
      have hg : ∀ w₁ : World,w₁.heap = w.heap→(getObj b).run E.P w₁ = .ok (.mapIter (some bm) clock seen.toArray clock) w₁:=fun w₁ hw => by simp [getObj,Sem.run,hw,h2]
      have hgm : ∀ w₁ : World,w₁.heap = w.heap→(getObj bm).run E.P w₁ = .ok (.map es'.toArray clock) w₁:=fun w₁ hw => by simp [getObj,Sem.run,hw,e2]
      have hset : ∀ (w₁ : World),w₁.heap = w.heap→∀ o' : Obj,(setObj b o').run E.P w₁ = .ok () { w₁ with heap:=w.heap.setIfInBounds b o' }:=fun w₁ hw o' => by simp [setObj,Sem.run,hw,h2]
      have hborn : ∀ e ∈ es',e.born < clock:=by
       intro e he
       obtain ⟨i,hi⟩:=List.mem_iff_getElem?.1 he
       obtain ⟨q,q1,_,_,q4⟩:=(instE_nth e3).2 i e hi
       have:=zo (List.all_eq_true.1 c2 q q1)
       omega
      have hn0 : ¬ ((!seen.toArray.isEmpty && !es'.toArray.isEmpty && es'.toArray.all fun x => decide (x.born ≥ clock)) = true):=by
       cases es' with
       | nil => simp
       | cons e l =>
         have:=hborn e List.mem_cons_self
         simp
         intro _ h
         omega
      have hleft : (es'.toArray.filter fun e => !seen.toArray.contains e.born) = (es'.filter fun e => !(seen.any (Nat.beq e.born))).toArray:=by
       simp only [contains_any]
       simp
      have hF:=instE_filter (p:=fun b => !(seen.any (Nat.beq b))) e3
      have hfil : (es.filter fun e => !(seen.any (Nat.beq e.2.2))) = es.filter (notSeen seen):=rfl
      rw [hfil] at hF
      generalize hL : es.filter (notSeen seen) = L at h hF
      generalize hL' : (es'.filter fun e => !(seen.any (Nat.beq e.born))) = L' at hF hleft
      have hborn' : ∀ e ∈ L',e.born < clock:=fun e he => hborn e (by rw [← hL'] at he; exact (List.mem_filter.1 he).1)
      have hold : (L'.toArray.filter fun e => decide (e.born < clock)) = L'.toArray:=by
       apply Array.filter_eq_self.2
       intro e he
       exact decide_eq_true (hborn' e (by simpa using he))
      have hnew : (L'.toArray.filter fun e => decide (e.born ≥ clock)) = #[]:=by
       apply Array.filter_eq_empty_iff.2
       intro e he
       have:=hborn' e (by simpa using he)
       simp
       omega
      obtain ⟨hlen,hget⟩:=instE_nth hF
      split at h
      ·cases h
       obtain rfl : L' = []:=List.length_eq_zero_iff.1 (by simpa using hlen.symm)
       refine ⟨_,List.mem_singleton.2 rfl,.same hS (u:=.tuple #[.bool false]) ?_ (by simp [AV.inst,instL])⟩
       simp only [Instr.next,Sem.run_bind,hg w rfl,hgm w rfl,Result.andThen_ok,hleft,hold,hnew]
       rw [if_neg hn0]
       simp [Question.forced]
      ·rename_i e0 L0
       cases h
       have hpos : 0 < L'.length:=by rw [← hlen]; simp
       have hemp : L'.toArray.isEmpty = false:=by
        cases L' with
        | nil => simp at hpos
        | cons => rfl
       -- what is drawn
       have fin : ∀ (i : Nat) (w₁ : World),w₁.heap = w.heap→(w₁.os = w.os∧w₁.output = w.output)→i < L'.length→(choose (.mapNext L'.length)).run E.P w = .ok i w₁ →
         ∃ p,p ∈ ((e0 :: L0).map fun e => ((AV.tuple [.bool true,e.1,e.2.1],{ heap:=Trie.put (some (.miter m clock (seen ++ [e.2.2]))) depth S.heap id,next:=S.next,limit:=S.limit }) : AV×ASt)) ∧
           VPost E σ S w Wr ((Instr.next (.pointer (some ⟨b,0,none⟩)) false t).run E.P w) p.1 p.2:=by
        intro i w₁ hw ho hi hch
        obtain ⟨e,he⟩ : ∃ e,L'[i]? = some e:=⟨L'[i],List.getElem?_eq_getElem hi⟩
        obtain ⟨q,q1,q2,q3,q4⟩:=hget i e he
        refine ⟨_,List.mem_map.2 ⟨q,q1,rfl⟩,σ,.tuple #[.bool true,e.key,e.val],{ w₁ with heap:=w.heap.setIfInBounds b (.mapIter (some bm) clock (seen ++ [e.born]).toArray clock) },?_,by simp [AV.inst,instL,q2,q3],
         post_set hS hb c3 h1 (o:=.mapIter (some bm) clock (seen ++ [e.born]).toArray clock) ⟨_,hy,by rw [q4]⟩ (zo c4) rfl ?_⟩
        ·simp only [Instr.next,Sem.run_bind,hg w rfl,hgm w rfl,Result.andThen_ok,hleft,hold,hnew]
         rw [if_neg hn0]
         simp only [hemp,Bool.false_eq_true,if_false,Array.append_empty,Array.empty_append,Array.size_map,List.size_toArray,Sem.run_bind,Sem.run_pure,Result.andThen_ok,hch]
         have : (L'.toArray.map some)[i]? = some (some e):=by simp [he]
         simp only [this,Sem.run_bind,hset w₁ hw,Result.andThen_ok,Sem.run_pure]
         congr 3
         simp
        ·exact ho
       by_cases h1' : L'.length≤1
       ·refine fin 0 w rfl ⟨rfl,rfl⟩ hpos ?_
        simp [choose,Sem.run,Question.forced,h1']
       ·refine fin (w.tape w.drawn (.mapNext L'.length) % L'.length) w.drew rfl ⟨rfl,rfl⟩ (Nat.mod_lt _ hpos) ?_
        simp [choose,Sem.run,Question.forced,Question.cut,h1']
     ·cases h
    ·cases h
   ·cases h
  ·cases h
 ·cases h
noncomputable def bornAt (b : Nat) : List (AV×AV×Nat)→Option (AV×AV)
 | [] => none
 | (k,v,c) :: l => match Nat.beq c b with
   | true => some (k,v)
   | false => bornAt b l
noncomputable def aentry (S : ASt) (x : AV) : Option (AV×ASt):=
 match x with
 | .ptr id off => match Nat.beq off 0 with
   | true => match S.heap.get id with
     | some (.miter m since seen) => match S.heap.get m with
       | some (.map es clock) => match Nat.beq clock since with
         | true => match seen.getLast? with
           | some b => match bornAt b es with
             | some (k,v) => some (.tuple [k,v],S)
             | none => none
           | none => none
         | false => none
       | _ => none
     | _ => none
   | false => none
 | _ => none
theorem bornAt_ok {b : Nat} {k v : AV} : ∀ {l : List (AV×AV×Nat)} {es : List MapEntry},yY σ l = some es→bornAt b l = some (k,v)→∃ e,es.find? (fun e => e.born == b) = some e∧k.inst σ = some e.key∧v.inst σ = some e.val
 | [],es,_,h => by cases h
 | (k1,v1,c) :: l,es,h,hb => by
   simp only [yY] at h
   split at h
   ·rename_i k' hk
    split at h
    ·rename_i v' hv
     split at h
     ·rename_i l' hl
      cases h
      simp only [bornAt] at hb
      split at hb
      ·rename_i hc
       cases hb
       obtain rfl:=Nat.eq_of_beq_eq_true hc
       exact ⟨{ key:=k',val:=v',born:=c },by simp,hk,hv⟩
      ·rename_i hc
       have hc':=Nat.ne_of_beq_eq_false hc
       obtain ⟨e,h1,h2⟩:=bornAt_ok hl hb
       exact ⟨e,by simp [hc',h1],h2⟩
     ·cases h
    ·cases h
   ·cases h
theorem aentry_ok (hS : S.rel E.P σ w Wr) {x v : AV} {xu : Value} (hx : x.inst σ = some xu) (h : aentry S x = some (v,S')) :
  VPost E σ S w Wr ((Instr.entry xu).run E.P w) v S':=by
 unfold aentry at h
 split at h
 ·rename_i id off
  split at h
  ·rename_i h0
   obtain rfl:=Nat.eq_of_beq_eq_true h0
   split at h
   ·rename_i m since seen hb
    obtain ⟨b,κ,o,h1,h2,h3⟩:=hS.at_ id _ hb
    obtain ⟨b₁,κ',h1',rfl⟩:=inst_ptr hx
    rw [h1] at h1'; cases h1'
    obtain ⟨y,hy,ho⟩:=h3
    subst ho
    split at h
    ·rename_i es clock hm
     obtain ⟨bm,κm,es',e1,e2,e3⟩:=get_map hS hm
     rw [hy] at e1
     cases e1
     split at h
     ·rename_i hc
      obtain rfl:=Nat.eq_of_beq_eq_true hc
      split at h
      ·rename_i bb hl
       split at h
       ·rename_i k v hbo
        cases h
        obtain ⟨e,f1,f2,f3⟩:=bornAt_ok e3 hbo
        have hg : (getObj b).run E.P w = .ok (.mapIter (some bm) clock seen.toArray clock) w:=by simp [getObj,Sem.run,h2]
        have hgm : (getObj bm).run E.P w = .ok (.map es'.toArray clock) w:=by simp [getObj,Sem.run,e2]
        refine .same hS (u:=.tuple #[e.key,e.val]) ?_ (by simp [AV.inst,instL,f2,f3])
        simp [Instr.entry,hg,hgm,hl,f1]
       ·cases h
      ·cases h
     ·cases h
    ·cases h
   ·cases h
  ·cases h
 ·cases h
noncomputable def aeqNil (E : Env) (t : TypeId) (x y : AV) : Option Bool:=
 match E.und t with
 | some (.slice _) => match x,y with
   | .slice ..,.nilslice | .nilslice,.slice .. => some false
   | .nilslice,.nilslice => some true
   | _,_ => none
 | some (.map _ _) => match x,y with
   | .map _,.nilmap | .nilmap,.map _ => some false
   | .nilmap,.nilmap => some true
   | _,_ => none
 | some (.func _ _ _) => match x,y with
   | .func ..,.nilFunc | .nilFunc,.func .. | .yield _,.nilFunc | .nilFunc,.yield _ => some false
   | .nilFunc,.nilFunc => some true
   | _,_ => none
 | some (.pointer _) => match x,y with
   | .ptr ..,.nilptr | .nilptr,.ptr .. => some false
   | .nilptr,.nilptr => some true
   | _,_ => none
 | some (.interface _) => match x,y with
   | .iface ..,.nilIface | .nilIface,.iface .. => some false
   | _,_ => none
 | _ => none
theorem inst_func {fn : Fn} {f c : List AV} {u : Value} (h : (AV.func fn f c).inst σ = some u) : ∃ fs cs,Ins σ f fs∧Ins σ c cs∧u = .func fn fs.toArray cs.toArray:=by
 simp only [AV.inst] at h
 split at h
 ·rename_i fs hf
  split at h
  ·rename_i cs hc
   simp only [Option.some.injEq] at h
   exact ⟨fs,cs,instL_iff.1 hf,instL_iff.1 hc,h.symm⟩
  ·cases h
 ·cases h
theorem inst_yield {id : Nat} {u : Value} (h : (AV.yield id).inst σ = some u) : ∃ b κ,σ id = some (b,κ)∧u = .func (.yield b) #[] #[]:=by
 simp only [AV.inst] at h
 split at h
 ·rename_i x hx
  simp only [Option.some.injEq] at h
  exact ⟨x.1,x.2,hx,h.symm⟩
 ·cases h
theorem inst_iface {t : TypeId} {v : AV} {u : Value} (h : (AV.iface t v).inst σ = some u) : ∃ x,v.inst σ = some x∧u = .iface t x:=by
 simp only [AV.inst] at h
 split at h
 ·rename_i x hx
  simp only [Option.some.injEq] at h
  exact ⟨x,hx,h.symm⟩
 ·cases h
theorem equal_def (t : TypeId) (x y : Value) : Op.equal t x y = Op.equalIn (9999 + 1) t x y:=rfl
theorem aeqNil_ok (hE : E.Ok) {t : TypeId} {x y : AV} {xu yu : Value} (hx : x.inst σ = some xu) (hy : y.inst σ = some yu) {b : Bool} (h : aeqNil E t x y = some b) (w : World) :
  (Op.equal t xu yu).run E.P w = .ok b w∧(∀ (op : BinOp) (o1 o2 : Operand),(eqGuard op t o1 o2 xu yu).run E.P w = .ok () w) ∧
  (binOp .eql t xu yu = (do pure (.bool (← Op.equal t xu yu)))∧binOp .neq t xu yu = (do pure (.bool (!(← Op.equal t xu yu))))):=by
 unfold aeqNil at h
 split at h
 all_goals first
  | (cases h; done)
  | (rename_i ht
     split at h
     all_goals first
      | (cases h; done)
      | (cases h
         first
          | (obtain ⟨_,_,_,_,rfl⟩:=yT hx)
          | (obtain ⟨_,_,_,rfl⟩:=inst_map hx)
          | (obtain ⟨_,_,_,_,rfl⟩:=inst_func hx)
          | (obtain ⟨_,_,_,rfl⟩:=inst_yield hx)
          | (obtain ⟨_,_,_,rfl⟩:=inst_ptr hx)
          | (obtain ⟨_,_,rfl⟩:=inst_iface hx)
          | (simp only [AV.inst,Option.some.injEq] at hx; subst hx)
         first
          | (obtain ⟨_,_,_,_,rfl⟩:=yT hy)
          | (obtain ⟨_,_,_,rfl⟩:=inst_map hy)
          | (obtain ⟨_,_,_,_,rfl⟩:=inst_func hy)
          | (obtain ⟨_,_,_,rfl⟩:=inst_yield hy)
          | (obtain ⟨_,_,_,rfl⟩:=inst_ptr hy)
          | (obtain ⟨_,_,rfl⟩:=inst_iface hy)
          | (simp only [AV.inst,Option.some.injEq] at hy; subst hy)
         refine ⟨?_,fun op o1 o2 => by cases op <;> simp [eqGuard],rfl,rfl⟩
         rw [equal_def]
         generalize 9999 = d
         simp [Op.equalIn,zA hE ht]))
end
open Go
inductive AOut where
 | val (v : AV) (S : ASt)
 | skip (S : ASt)
 | enter (f : FuncId) (args : List AV)
 | yield (id : Nat) (args : List AV)
 | defer (d : ADef)
 | panic (v : AV)
 | recover
def OutOk (E : Env) (σ : Sig) (S : ASt) (w : World) (Wr : Nat→Prop) (r : Result Next) : AOut→Prop
 | .val v S' => ∃ σ' u w',r = .ok (.value u) w'∧v.inst σ' = some u∧Post E.P σ S w Wr σ' S' w'
 | .skip S' => ∃ σ' w',r = .ok .skip w'∧Post E.P σ S w Wr σ' S' w'
 | .enter f args => ∃ us : List Value,r = .ok (.enter f us.toArray) w∧Ins σ args us
 | .yield id args => ∃ b κ,∃ us : List Value,σ id = some (b,κ)∧r = (Instr.yield b us.toArray).run E.P w∧Ins σ args us
 | .defer d => ∃ d',r = .ok (.defer d') w∧d.inst σ = some d'
 | .panic v => ∃ u,r = .halt (.panic u) w∧v.inst σ = some u
 | .recover => r = .ok .recover w
noncomputable def outV (S : ASt) : Option AV→Option AOut
 | some v => some (.val v S)
 | none => none
noncomputable def outP : Option (AV×ASt)→Option AOut
 | some (v,S) => some (.val v S)
 | none => none
noncomputable def outU : Option ASt→Option AOut
 | some S => some (.skip S)
 | none => none
noncomputable def aevalO (E : Env) (T : Trie AV) : Option Operand→Option (Option AV)
 | none => some none
 | some x => match zB E T x with
   | some v => some (some v)
   | none => none
noncomputable def aevalP (E : Env) (T : Trie AV) : List (Nat×Operand)→Option (List (Nat×AV))
 | [] => some []
 | (i,x) :: l => match zB E T x with
   | some v => match aevalP E T l with
     | some m => some ((i,v) :: m)
     | none => none
   | none => none
noncomputable def aplain (E : Env) (T : Trie AV) (S : ASt) (o : Oper) : Option AOut:=outV S (plainOp E T o)
noncomputable def areadBuiltin (E : Env) (T : Trie AV) (S : ASt) (o : Oper) (b : Builtin) (argTypes : Array TypeId) (args : List AV) : Option AV:=
 match b with
 | .len => match args with
   | [x] => alenOf E S argTypes x
   | _ => none
 | .cap => match args with
   | [x] => acapOf E argTypes x
   | _ => none
 | .max => plainOp E T o
 | .min => plainOp E T o
 | _ => none
noncomputable def abuiltin (E : Env) (S : ASt) (b : Builtin) (argTypes : Array TypeId) (args : List AV) : Option AOut:=
 match b with
 | .append => match args with
   | [s,x] => match notIntT E argTypes[1]? with
     | true => outP (aappend E S argTypes s x)
     | false => outP (aappendZ E S argTypes s x)
   | _ => none
 | .copy => match args with
   | [d,x] => outP (acopy E S argTypes d x)
   | _ => none
 | .clear => match args with
   | [x] => match aclear E S argTypes x with
     | some S' => outP (some (.tuple [],S'))
     | none => none
   | _ => none
 | .delete => match args with
   | [m,k] => match adelete E S argTypes m k with
     | some S' => outP (some (.tuple [],S'))
     | none => none
   | _ => none
 | .recover => some .recover
 | .panic => match args with
   | [.iface t v] => some (.panic (.iface t v))
   | _ => none
 | _ => none
noncomputable def acall (E : Env) (T : Trie AV) (S : ASt) (o : Oper) (c : Call) : Option AOut:=
 match c.callee with
 | .value f => match zB E T f with
   | some fv => match aevalL E T c.args.toList with
     | some args => match fv with
       | .func (.func g) first cap => match E.fn g with
         | some fn => match fn.body with
           | some _ => some (.enter g (first ++ args ++ cap))
           | none => aplain E T S o
         | none => none
       | .yield id => some (.yield id args)
       | _ => none
     | none => none
   | none => none
 | .builtin b => match aevalL E T c.args.toList with
   | some args => abuiltin E S b c.argTypes args
   | none => none
 | .invoke _ _ => none
noncomputable def adefer (E : Env) (T : Trie AV) (c : Call) : Option AOut:=
 match c.callee with
 | .value f => match zB E T f with
   | some (.func fn first cap) => match aevalL E T c.args.toList with
     | some args => some (.defer { target:=.code fn cap,args:=first ++ args })
     | none => none
   | _ => none
 | _ => none
noncomputable def atypeAssert (E : Env) (x : AV) (asserted : TypeId) (ok : Bool) : Option AV:=none
noncomputable def asliceMO (E : Env) (T : Trie AV) (S : ASt) (t : TypeId) (x : Operand) (lo hi : Option Operand) (m : Operand) : Option AV:=
 match hi with
 | some h => match E.und t with
   | some (.slice elem) => match zB E T x,aevalO E T lo with
     | some xv,some lv => match zB E T h,zB E T m with
       | some hv,some mv => asliceM E S elem xv lv hv mv
       | _,_ => none
     | _,_ => none
   | _ => none
 | none => none
noncomputable def areadOp (E : Env) (T : Trie AV) (S : ASt) (o : Oper) : Option AV:=
 match o.op with
 | .move x => zB E T x
 | .assign x => zB E T x
 | .pick c a b => match zB E T c with
   | some (.bool true) => zB E T a
   | some (.bool false) => zB E T b
   | _ => none
 | .build t ps => match aevalP E T ps.toList with
   | some qs => abuild' E t qs
   | none => none
 | .load t a => match zB E T a with
   | some v => aload E S t v
   | none => none
 | .waits g => match E.glob g with
   | some id => match S.heap.get id with
     | some (.cells _ _) => some (.bool false)
     | _ => none
   | none => none
 | .nilCheck x => match zB E T x with
   | some (.ptr id off) => some (.ptr id off)
   | some (.func (.func f) a b) => some (.func (.func f) a b)
   | some (.yield id) => some (.yield id)
   | _ => none
 | .binOp op t x y _ => match op with
   | .eql => match zB E T x with
     | some a => match zB E T y with
       | some b => match aeqNil E t a b with
         | some r => some (.bool r)
         | none => plainOp E T o
       | none => none
     | none => none
   | .neq => match zB E T x with
     | some a => match zB E T y with
       | some b => match aeqNil E t a b with
         | some r => some (.bool (!r))
         | none => plainOp E T o
       | none => none
     | none => none
   | _ => plainOp E T o
 | .unOp _ _ _ => plainOp E T o
 | .convert s d x => match zB E T x with
   | some v => match aconvert E S s d v with
     | some r => some r
     | none => plainOp E T o
   | none => none
 | .makeInterface t x => match zB E T x with
   | some v => match E.und t with
     | some (.interface _) => none
     | some _ => some (.iface t v)
     | none => none
   | none => none
 | .makeFunc fn f c => match aevalL E T f.toList with
   | some fs => match aevalL E T c.toList with
     | some cs => some (.func fn fs cs)
     | none => none
   | none => none
 | .slice t x lo hi mx => match mx with
   | some m => asliceMO E T S t x lo hi m
   | none => match E.und t with
     | some (.slice elem) => match E.size elem with
       | some _ => match zB E T x with
         | some xv => match aevalO E T lo with
           | some lv => match aevalO E T hi with
             | some hv => asliceS E S elem xv lv hv
             | none => none
           | none => none
         | none => none
       | none => none
     | some (.array n elem) => match zB E T x with
       | some xv => match aevalO E T lo with
         | some lv => match aevalO E T hi with
           | some hv => asliceA E n elem xv lv hv
           | none => none
         | none => none
       | none => none
     | _ => plainOp E T o
 | .fieldAddr s x f => match zB E T x with
   | some v => afieldAddr E s v f
   | none => none
 | .field t x f => match zB E T x with
   | some v => afield E t v f
   | none => none
 | .indexAddr t x i => match zB E T x with
   | some v => match zB E T i with
     | some iv => aindexAddr E t v iv
     | none => none
   | none => none
 | .index t x i => match zB E T x with
   | some v => match zB E T i with
     | some iv => aindex E t v iv
     | none => none
   | none => none
 | .lookup t m k ok => match zB E T m with
   | some mv => match zB E T k with
     | some kv => alookup E S t mv kv ok
     | none => none
   | none => none
 | .typeAssert x _ asserted ok => match zB E T x with
   | some v => atypeAssert E v asserted ok
   | none => none
 | .extract t i => match zB E T t with
   | some v => aextract v i
   | none => none
 | .call c => match c.callee with
   | .builtin b => match aevalL E T c.args.toList with
     | some args => areadBuiltin E T S o b c.argTypes args
     | none => none
   | _ => none
 | _ => none
noncomputable def aactOp (E : Env) (T : Trie AV) (S : ASt) (o : Oper) : Option AOut:=
 match o.op with
 | .alloc t => outP (aalloc E S t)
 | .box t x => match zB E T x with
   | some v => outP (aboxed S t v)
   | none => none
 | .buildSlice t n ps => match aevalP E T ps.toList with
   | some qs => outP (abuildSlice E S t n qs)
   | none => none
 | .store t a x => match zB E T a with
   | some v => match zB E T x with
     | some u => outU (astore E S t v u)
     | none => none
   | none => none
 | .convert s d x => match zB E T x with
   | some v => outP (astrBytes E S s d v)
   | none => none
 | .makeMap t r => match r with
   | none => outP (amakeMap S)
   | some x => match zB E T x with
     | some (.int _ _) => match E.und t with
       | some (.map _ _) => outP (amakeMap S)
       | _ => none
     | _ => none
 | .makeSlice t l c => match zB E T l with
   | some lv => match zB E T c with
     | some cv => outP (amakeSlice E S t lv cv)
     | none => none
   | none => none
 | .mapUpdate t m k x => match zB E T m with
   | some mv => match zB E T k with
     | some kv => match zB E T x with
       | some xv => outU (amapUpdate E S t mv kv xv)
       | none => none
     | none => none
   | none => none
 | .insert t m k x => match zB E T m with
   | some mv => match zB E T k with
     | some kv => match zB E T x with
       | some xv => outU (amapUpdate E S t mv kv xv)
       | none => none
     | none => none
   | none => none
 | .mapEntry t m k => match zB E T m with
   | some mv => match zB E T k with
     | some kv => outP (amapEntry E S t mv kv)
     | none => none
   | none => none
 | .entryStore _ m s x => match zB E T m with
   | some mv => match zB E T s with
     | some sv => match zB E T x with
       | some xv => outU (aentryStore S mv sv xv)
       | none => none
     | none => none
   | none => none
 | .range t x => match zB E T x with
   | some v => outP (arange E S t v)
   | none => none
 | .next it b => match zB E T it with
   | some v => outP (anext S v b)
   | none => none
 | .entry it => match zB E T it with
   | some v => outP (aentry S v)
   | none => none
 | .panic x => match zB E T x with
   | some (.iface t v) => some (.panic (.iface t v))
   | _ => none
 | .call c => acall E T S o c
 | .defer c => adefer E T c
 | _ => none
section
variable {E : Env} {σ : Sig} {S S' : ASt} {w : World} {Wr : Nat→Prop}
theorem Ins.single {x : AV} {us : List Value} (h : Ins σ [x] us) : ∃ u,us = [u]∧x.inst σ = some u:=by
 cases h with
 | cons h1 h2 => cases h2; exact ⟨_,rfl,h1⟩
theorem Ins.two {x y : AV} {us : List Value} (h : Ins σ [x,y] us) : ∃ u v,us = [u,v]∧x.inst σ = some u∧y.inst σ = some v:=by
 cases h with
 | cons h1 h2 => obtain ⟨v,rfl,h3⟩:=h2.single; exact ⟨_,v,rfl,h1,h3⟩
theorem out_val {s : Sem Value} {v : AV} (h : VPost E σ S w Wr (s.run E.P w) v S') : OutOk E σ S w Wr ((do pure (.value (← s)) : Sem Next).run E.P w) (.val v S'):=by
 obtain ⟨σ',u,w',h1,h2,h3⟩:=h
 exact ⟨σ',u,w',by simp [h1],h2,h3⟩
theorem yx {s : Sem Value} {v : AV} (h : RPost σ w (s.run E.P w) v) : ∃ u,(do pure (.value (← s)) : Sem Next).run E.P w = .ok (.value u) w∧v.inst σ = some u:=by
 obtain ⟨u,h1,h2⟩:=h
 exact ⟨u,by simp [h1],h2⟩
theorem out_unit {s : Sem Unit} (h : UPost E σ S w Wr (s.run E.P w) S') : OutOk E σ S w Wr ((do s; pure .skip : Sem Next).run E.P w) (.skip S'):=by
 obtain ⟨σ',w',h1,h3⟩:=h
 exact ⟨σ',w',by simp [h1],h3⟩
theorem outV_some {x : Option AV} {out : AOut} (h : outV S x = some out) : ∃ v,x = some v∧out = .val v S:=by
 cases x with
 | none => cases h
 | some v => cases h; exact ⟨v,rfl,rfl⟩
theorem yp {x : Option (AV×ASt)} {out : AOut} (h : outP x = some out) : ∃ v S',x = some (v,S')∧out = .val v S':=by
 cases x with
 | none => cases h
 | some v => cases h; exact ⟨v.1,v.2,rfl,rfl⟩
theorem outU_some {x : Option ASt} {out : AOut} (h : outU x = some out) : ∃ S',x = some S'∧out = .skip S':=by
 cases x with
 | none => cases h
 | some v => cases h; exact ⟨v,rfl,rfl⟩
variable {T : Trie AV} {a : Act} {o : Oper}
theorem aplain_ok (hS : S.rel E.P σ w Wr) (hT : TRel σ T a.tmps) {out : AOut} (h : aplain E T S o = some out) : OutOk E σ S w Wr ((execOp a.eval o).run E.P w) out:=by
 obtain ⟨v,hv,rfl⟩:=outV_some h
 obtain ⟨u,h1,h2⟩:=plainOp_ok (E:=E) (σ:=σ) hT hv
 exact ⟨σ,u,w,h2 w,h1,Post.refl hS⟩
theorem aevalO_ok (hE : E.At σ) (hT : TRel σ T a.tmps) {x : Option Operand} {v : Option AV} (h : aevalO E T x = some v) : instO σ v (x.map a.eval):=by
 cases x with
 | none => cases h; exact trivial
 | some x =>
   simp only [aevalO] at h
   split at h
   ·rename_i u hu
    cases h
    exact zW hE hT hu
   ·cases h
theorem aevalP_ok (hE : E.At σ) (hT : TRel σ T a.tmps) : ∀ {l : List (Nat×Operand)} {m : List (Nat×AV)},aevalP E T l = some m →
  m.map (·.1) = (l.map fun (i,x) => (i,a.eval x)).map (·.1)∧Ins σ (m.map (·.2)) ((l.map fun (i,x) => (i,a.eval x)).map (·.2))
 | [],m,h => by cases h; exact ⟨rfl,.nil⟩
 | (i,x) :: l,m,h => by
   simp only [aevalP] at h
   split at h
   ·rename_i v hv
    split at h
    ·rename_i m' hm
     cases h
     obtain ⟨h1,h2⟩:=aevalP_ok hE hT hm
     exact ⟨by simpa using h1,.cons (zW hE hT hv) h2⟩
    ·cases h
   ·cases h
theorem args_toArray (xs : Array Operand) : xs.map a.eval = (xs.toList.map a.eval).toArray:=by
 apply Array.ext'
 simp
theorem atypeAssert_ok (hE : E.Ok) (hS : S.rel E.P σ w Wr) {x v : AV} {xu : Value} {xt t : TypeId} {ok : Bool} (hx : x.inst σ = some xu) (h : atypeAssert E x t ok = some v) :
  RPost σ w ((Instr.typeAssert xu xt t ok).run E.P w) v:=by
 unfold atypeAssert at h
 cases h
theorem builtin_run {c : Call} {b : Builtin} (hop : o.op = .call c) (hc : c.callee = .builtin b) (P : Program) (w : World) :
  ∃ ks,(execOp a.eval o).run P w = (builtin b c.argTypes o.type ks (c.args.toList.map a.eval).toArray).run P w:=
 ⟨_,by simp only [execOp,hop,resolve,hc,args_toArray,Sem.run_bind,Sem.run_pure,Result.andThen_ok,invoke]; rfl⟩
theorem abuiltin_ok (hE : E.Ok) (hA : E.At σ) (hS : S.rel E.P σ w Wr) (hT : TRel σ T a.tmps) {c : Call} {b : Builtin} (hop : o.op = .call c) (hc : c.callee = .builtin b) {args : List AV}
  (ha : aevalL E T c.args.toList = some args) {out : AOut} (h : abuiltin E S b c.argTypes args = some out) : OutOk E σ S w Wr ((execOp a.eval o).run E.P w) out:=by
 have hi:=aevalL_ok hA hT ha
 obtain ⟨ks,hex⟩:=builtin_run (a:=a) hop hc E.P w
 unfold abuiltin at h
 split at h
 ·split at h
  ·rename_i s x
   split at h
   ·obtain ⟨v,S₁,hv,rfl⟩:=yp h
    rw [hex]
    generalize c.args.toList.map a.eval = us at hi ⊢
    obtain ⟨su,xu,rfl,h1,h2⟩:=hi.two
    exact out_val (aappend_ok hE hS h1 h2 hv)
   ·obtain ⟨v,S₁,hv,rfl⟩:=yp h
    rw [hex]
    generalize c.args.toList.map a.eval = us at hi ⊢
    obtain ⟨su,xu,rfl,h1,h2⟩:=hi.two
    exact out_val (aappendZ_ok hE hS h1 h2 hv)
  ·cases h
 ·split at h
  ·rename_i s x
   obtain ⟨v,S₁,hv,rfl⟩:=yp h
   rw [hex]
   generalize c.args.toList.map a.eval = us at hi ⊢
   obtain ⟨su,xu,rfl,h1,h2⟩:=hi.two
   exact out_val (acopy_ok hE hS h1 h2 hv)
  ·cases h
 ·split at h
  ·rename_i x
   split at h
   ·rename_i S₁ hcl
    obtain ⟨v,S₂,hv,rfl⟩:=yp h
    cases hv
    rw [hex]
    generalize c.args.toList.map a.eval = us at hi ⊢
    obtain ⟨xu,rfl,h1⟩:=hi.single
    exact out_val (aclear_ok hE hS h1 hcl)
   ·cases h
  ·cases h
 ·split at h
  ·rename_i m k
   split at h
   ·rename_i S₁ hcl
    obtain ⟨v,S₂,hv,rfl⟩:=yp h
    cases hv
    rw [hex]
    generalize c.args.toList.map a.eval = us at hi ⊢
    obtain ⟨mu,ku,rfl,h1,h2⟩:=hi.two
    exact out_val (adelete_ok hE hS h1 h2 hcl)
   ·cases h
  ·cases h
 ·cases h
  rw [hex]
  rfl
 ·split at h
  ·rename_i t v
   cases h
   rw [hex]
   generalize c.args.toList.map a.eval = us at hi ⊢
   obtain ⟨xu,rfl,h1⟩:=hi.single
   obtain ⟨y,hy,rfl⟩:=inst_iface h1
   exact ⟨.iface t y,by simp [builtin,Instr.panic],h1⟩
  ·cases h
 ·cases h
theorem acall_ok (hE : E.Ok) (hA : E.At σ) (hS : S.rel E.P σ w Wr) (hT : TRel σ T a.tmps) {c : Call} (hop : o.op = .call c) {out : AOut} (h : acall E T S o c = some out) :
  OutOk E σ S w Wr ((execOp a.eval o).run E.P w) out:=by
 unfold acall at h
 split at h
 ·rename_i f hc
  split at h
  ·rename_i fv hf
   have hfi:=zW hA hT hf
   split at h
   ·rename_i args ha
    have hi:=aevalL_ok hA hT ha
    split at h
    ·rename_i g first cap
     split at h
     ·rename_i fn hfn
      split at h
      ·rename_i body hbody
       cases h
       obtain ⟨fs,cs,h1,h2,h3⟩:=inst_func hfi
       refine ⟨fs ++ c.args.toList.map a.eval ++ cs,?_,(h1.append hi).append h2⟩
       have hP:=hE.fn g fn hfn
       have hnm:=hE.name g fn hfn
       simp only [execOp,hop,resolve,hc,args_toArray,h3,Deferred.ofValue,Sem.run_bind,Sem.run_pure,Result.andThen_ok,invoke,callFunc,run_program,hP,hnm,hbody]
       simp
      ·exact aplain_ok hS hT h
     ·cases h
    ·rename_i id
     cases h
     obtain ⟨b,κ,h1,h2⟩:=inst_yield hfi
     refine ⟨b,κ,c.args.toList.map a.eval,h1,?_,hi⟩
     simp only [execOp,hop,resolve,hc,args_toArray,h2,Deferred.ofValue,Sem.run_bind,Sem.run_pure,Result.andThen_ok,invoke]
     simp
    ·cases h
   ·cases h
  ·cases h
 ·rename_i b hc
  split at h
  ·rename_i args ha
   exact abuiltin_ok hE hA hS hT hop hc ha h
  ·cases h
 ·cases h
theorem adefer_ok (hA : E.At σ) (hT : TRel σ T a.tmps) {c : Call} (hop : o.op = .defer c) {out : AOut} (h : adefer E T c = some out) : OutOk E σ S w Wr ((execOp a.eval o).run E.P w) out:=by
 unfold adefer at h
 split at h
 ·rename_i f hc
  split at h
  ·rename_i fn first cap hf
   have hfi:=zW hA hT hf
   split at h
   ·rename_i args ha
    have hi:=aevalL_ok hA hT ha
    cases h
    obtain ⟨fs,cs,h1,h2,h3⟩:=inst_func hfi
    refine ⟨{ target:=.fn fn cs.toArray,args:=(fs ++ c.args.toList.map a.eval).toArray },?_,?_⟩
    ·simp only [execOp,hop,resolve,hc,args_toArray,h3,Deferred.ofValue,Sem.run_bind,Sem.run_pure,Result.andThen_ok]
     simp
    ·simp only [ADef.inst,ATarget.inst,instL_iff.2 h2,instL_iff.2 (h1.append hi)]
   ·cases h
  ·cases h
 ·cases h
theorem areadOp_ok (hE : E.Ok) (hA : E.At σ) (hS : S.rel E.P σ w Wr) (hT : TRel σ T a.tmps) {v : AV} (h : areadOp E T S o = some v) :
  ∃ u,(execOp a.eval o).run E.P w = .ok (.value u) w∧v.inst σ = some u:=by
 have ev : ∀ {x : Operand} {v : AV},zB E T x = some v→v.inst σ = some (a.eval x):=fun hx => zW hA hT hx
 have pl : plainOp E T o = some v→∃ u,(execOp a.eval o).run E.P w = .ok (.value u) w∧v.inst σ = some u:=fun hv => by
  obtain ⟨u,h1,h2⟩:=plainOp_ok (E:=E) (σ:=σ) hT hv
  exact ⟨u,h2 w,h1⟩
 unfold areadOp at h
 split at h
 ·rename_i x hop
  exact ⟨_,by simp [execOp,hop],ev h⟩
 ·rename_i x hop
  exact ⟨_,by simp [execOp,hop],ev h⟩
 ·rename_i c x y hop
  split at h
  ·rename_i hc
   have hcv:=ev hc
   simp only [AV.inst,Option.some.injEq] at hcv
   exact ⟨_,by simp [execOp,hop,← hcv,asBool],ev h⟩
  ·rename_i hc
   have hcv:=ev hc
   simp only [AV.inst,Option.some.injEq] at hcv
   exact ⟨_,by simp [execOp,hop,← hcv,asBool],ev h⟩
  ·cases h
 ·rename_i t ps hop
  split at h
  ·rename_i qs hq
   obtain ⟨h1,h2⟩:=aevalP_ok hA hT hq
   simp only [execOp,hop]
   exact yx (abuild_ok hE hS (by simpa using h1) (by simpa using h2) h)
  ·cases h
 ·rename_i t x hop
  split at h
  ·rename_i xv hx
   simp only [execOp,hop]
   exact yx (aload_ok hE hS (ev hx) h)
  ·cases h
 ·rename_i g hop
  split at h
  ·rename_i id hg
   split at h
   ·rename_i l t hb
    cases h
    obtain ⟨κ,hs⟩:=hA g id hg
    obtain ⟨b,κ',vs,rest,fr,e1,e2,e3,e4,e5⟩:=get_cells hS hb
    rw [hs] at e1; cases e1
    refine ⟨.bool false,?_,rfl⟩
    simp [execOp,hop,Instr.waits,World.shape?,e2]
   ·cases h
  ·cases h
 ·rename_i x hop
  split at h
  ·rename_i id off hx
   cases h
   obtain ⟨b,κ,h1,h2⟩:=inst_ptr (ev hx)
   exact ⟨a.eval x,by simp [execOp,hop,h2],ev hx⟩
  ·rename_i f fs cs hx
   cases h
   obtain ⟨us,vs,h1,h2,h3⟩:=inst_func (ev hx)
   exact ⟨a.eval x,by simp [execOp,hop,h3],ev hx⟩
  ·rename_i id hx
   cases h
   obtain ⟨b,κ,h1,h2⟩:=inst_yield (ev hx)
   exact ⟨a.eval x,by simp [execOp,hop,h2],ev hx⟩
  ·cases h
 ·rename_i op t x y yt hop
  split at h
  ·split at h
   ·rename_i xv hx
    split at h
    ·rename_i yv hy
     split at h
     ·rename_i r hr
      cases h
      obtain ⟨h1,h2,h3,h4⟩:=aeqNil_ok hE (ev hx) (ev hy) hr w
      refine ⟨.bool r,?_,rfl⟩
      simp only [execOp,hop,Sem.run_bind,h2,Result.andThen_ok,h3,h1,Sem.run_pure]
     ·exact pl h
    ·cases h
   ·cases h
  ·split at h
   ·rename_i xv hx
    split at h
    ·rename_i yv hy
     split at h
     ·rename_i r hr
      cases h
      obtain ⟨h1,h2,h3,h4⟩:=aeqNil_ok hE (ev hx) (ev hy) hr w
      refine ⟨.bool (!r),?_,rfl⟩
      simp only [execOp,hop,Sem.run_bind,h2,Result.andThen_ok,h4,h1,Sem.run_pure]
     ·exact pl h
    ·cases h
   ·cases h
  ·exact pl h
 ·exact pl h
 ·rename_i s d x hop
  split at h
  ·rename_i xv hx
   split at h
   ·rename_i r hr
    cases h
    simp only [execOp,hop]
    exact yx (aconvert_ok hE hS (ev hx) hr)
   ·exact pl h
  ·cases h
 ·rename_i t x hop
  split at h
  ·rename_i xv hx
   split at h
   ·cases h
   ·rename_i d hni hd
    cases h
    refine ⟨.iface t (a.eval x),?_,by simp [AV.inst,ev hx]⟩
    cases d <;> first
     | exact absurd rfl (hni _)
     | simp [execOp,hop,Instr.makeInterface,zA hE hd]
   ·cases h
  ·cases h
 ·rename_i fn f c hop
  split at h
  ·rename_i fs hf
   split at h
   ·rename_i cs hc
    cases h
    have h1:=aevalL_ok hA hT hf
    have h2:=aevalL_ok hA hT hc
    refine ⟨.func fn (f.map a.eval) (c.map a.eval),by simp [execOp,hop,Instr.makeFunc],?_⟩
    rw [args_toArray,args_toArray]
    simp only [AV.inst,instL_iff.2 h1,instL_iff.2 h2]
   ·cases h
  ·cases h
 ·rename_i t x lo hi mx hop
  split at h
  ·unfold asliceMO at h
   split at h
   ·rename_i hq
    split at h
    ·rename_i elem ht
     split at h
     ·rename_i xv lv hx hl
      split at h
      ·rename_i hv mv hh hm
       simp only [execOp,hop]
       exact yx (asliceM_ok hE hS ht (ev hx) (aevalO_ok hA hT hl) (ev hh) (ev hm) h)
      ·cases h
     ·cases h
    ·cases h
   ·cases h
  ·split at h
   ·rename_i elem ht
    split at h
    ·rename_i sz hsz
     split at h
     ·rename_i xv hx
      split at h
      ·rename_i lv hl
       split at h
       ·rename_i hv hh
        simp only [execOp,hop]
        exact yx (asliceS_ok hE hS ht (ev hx) (aevalO_ok hA hT hl) (aevalO_ok hA hT hh) ⟨sz,hsz⟩ h)
       ·cases h
      ·cases h
     ·cases h
    ·cases h
   ·rename_i n elem ht
    split at h
    ·rename_i xv hx
     split at h
     ·rename_i lv hl
      split at h
      ·rename_i hv hh
       simp only [execOp,hop]
       exact yx (asliceA_ok hE hS ht (ev hx) (aevalO_ok hA hT hl) (aevalO_ok hA hT hh) h)
      ·cases h
     ·cases h
    ·cases h
   ·exact pl h
 ·rename_i s x f hop
  split at h
  ·rename_i xv hx
   simp only [execOp,hop]
   exact yx (afieldAddr_ok hE hS (ev hx) h)
  ·cases h
 ·rename_i s x f hop
  split at h
  ·rename_i xv hx
   simp only [execOp,hop]
   exact yx (afield_ok hE hS (ev hx) h)
  ·cases h
 ·rename_i t x i hop
  split at h
  ·rename_i xv hx
   split at h
   ·rename_i iv hi
    simp only [execOp,hop]
    exact yx (aindexAddr_ok hE hS (ev hx) (ev hi) h)
   ·cases h
  ·cases h
 ·rename_i t x i hop
  split at h
  ·rename_i xv hx
   split at h
   ·rename_i iv hi
    simp only [execOp,hop]
    exact yx (aindex_ok hE hS (ev hx) (ev hi) h)
   ·cases h
  ·cases h
 ·rename_i t m k ok hop
  split at h
  ·rename_i mv hm
   split at h
   ·rename_i kv hk
    simp only [execOp,hop]
    exact yx (alookup_ok hE hS (ev hm) (ev hk) h)
   ·cases h
  ·cases h
 ·rename_i x xt t ok hop
  split at h
  ·rename_i xv hx
   simp only [execOp,hop]
   exact yx (atypeAssert_ok hE hS (ev hx) h)
  ·cases h
 ·rename_i t i hop
  split at h
  ·rename_i xv hx
   simp only [execOp,hop]
   exact yx (aextract_ok hS (ev hx) h)
  ·cases h
 ·rename_i c hop
  split at h
  ·rename_i b hc
   split at h
   ·rename_i args ha
    have hi:=aevalL_ok hA hT ha
    obtain ⟨ks,hex⟩:=builtin_run (a:=a) hop hc E.P w
    unfold areadBuiltin at h
    split at h
    ·split at h
     ·rename_i x
      rw [hex]
      generalize c.args.toList.map a.eval = us at hi ⊢
      obtain ⟨xu,rfl,h1⟩:=hi.single
      exact yx (alenOf_ok hE hS h1 h)
     ·cases h
    ·split at h
     ·rename_i x
      rw [hex]
      generalize c.args.toList.map a.eval = us at hi ⊢
      obtain ⟨xu,rfl,h1⟩:=hi.single
      exact yx (acapOf_ok hE hS h1 h)
     ·cases h
    ·exact pl h
    ·exact pl h
    ·cases h
   ·cases h
  ·cases h
 ·cases h
theorem aactOp_ok (hE : E.Ok) (hA : E.At σ) (hS : S.rel E.P σ w Wr) (hT : TRel σ T a.tmps) {out : AOut} (h : aactOp E T S o = some out) :
  OutOk E σ S w Wr ((execOp a.eval o).run E.P w) out:=by
 have ev : ∀ {x : Operand} {v : AV},zB E T x = some v→v.inst σ = some (a.eval x):=fun hx => zW hA hT hx
 unfold aactOp at h
 split at h
 ·rename_i t hop
  obtain ⟨v,S₁,hv,rfl⟩:=yp h
  simp only [execOp,hop]
  exact out_val (aalloc_ok hE hS hv)
 ·rename_i t x hop
  split at h
  ·rename_i xv hx
   obtain ⟨v,S₁,hv,rfl⟩:=yp h
   simp only [execOp,hop]
   exact out_val (abox_ok hS (ev hx) hv)
  ·cases h
 ·rename_i t n ps hop
  split at h
  ·rename_i qs hq
   obtain ⟨v,S₁,hv,rfl⟩:=yp h
   obtain ⟨h1,h2⟩:=aevalP_ok hA hT hq
   simp only [execOp,hop]
   exact out_val (abuildSlice_ok hE hS (by simpa using h1) (by simpa using h2) hv)
  ·cases h
 ·rename_i t x y hop
  split at h
  ·rename_i xv hx
   split at h
   ·rename_i yv hy
    obtain ⟨S₁,hv,rfl⟩:=outU_some h
    simp only [execOp,hop]
    exact out_unit (astore_ok hE hS (ev hx) (ev hy) hv)
   ·cases h
  ·cases h
 ·rename_i s d x hop
  split at h
  ·rename_i xv hx
   obtain ⟨v,S₁,hv,rfl⟩:=yp h
   simp only [execOp,hop]
   exact out_val (astrBytes_ok hE hS (ev hx) hv)
  ·cases h
 ·rename_i t r hop
  split at h
  ·obtain ⟨v,S₁,hv,rfl⟩:=yp h
   obtain ⟨σ',h2,h3⟩:=amakeMap_ok hS hv
   exact ⟨σ',_,_,by simp [execOp,hop,Instr.makeMap],h2,h3⟩
  ·rename_i x
   split at h
   ·rename_i k n hx
    split at h
    ·rename_i kt et ht
     obtain ⟨v,S₁,hv,rfl⟩:=yp h
     obtain ⟨σ',h2,h3⟩:=amakeMap_ok hS hv
     have hxe:=inst_int (ev hx)
     exact ⟨σ',_,_,by simp [execOp,hop,Instr.makeMap,hxe,zA hE ht,asInt,asIntOf],h2,h3⟩
    ·cases h
   ·cases h
 ·rename_i t l c hop
  split at h
  ·rename_i lv hl
   split at h
   ·rename_i cv hc
    obtain ⟨v,S₁,hv,rfl⟩:=yp h
    simp only [execOp,hop]
    exact out_val (amakeSlice_ok hE hS (ev hl) (ev hc) hv)
   ·cases h
  ·cases h
 ·rename_i t m k x hop
  split at h
  ·rename_i mv hm
   split at h
   ·rename_i kv hk
    split at h
    ·rename_i xv hx
     obtain ⟨S₁,hv,rfl⟩:=outU_some h
     simp only [execOp,hop]
     exact out_unit (amapUpdate_ok hE hS (ev hm) (ev hk) (ev hx) hv)
    ·cases h
   ·cases h
  ·cases h
 ·rename_i t m k x hop
  split at h
  ·rename_i mv hm
   split at h
   ·rename_i kv hk
    split at h
    ·rename_i xv hx
     obtain ⟨S₁,hv,rfl⟩:=outU_some h
     simp only [execOp,hop]
     exact out_unit (amapUpdate_ok hE hS (ev hm) (ev hk) (ev hx) hv)
    ·cases h
   ·cases h
  ·cases h
 ·rename_i t m k hop
  split at h
  ·rename_i mv hm
   split at h
   ·rename_i kv hk
    obtain ⟨v,S₁,hv,rfl⟩:=yp h
    simp only [execOp,hop]
    exact out_val (amapEntry_ok hE hS (ev hm) (ev hk) hv)
   ·cases h
  ·cases h
 ·rename_i t m s x hop
  split at h
  ·rename_i mv hm
   split at h
   ·rename_i sv hs
    split at h
    ·rename_i xv hx
     obtain ⟨S₁,hv,rfl⟩:=outU_some h
     simp only [execOp,hop]
     exact out_unit (aentryStore_ok hS (ev hm) (ev hs) (ev hx) hv)
    ·cases h
   ·cases h
  ·cases h
 ·rename_i t x hop
  split at h
  ·rename_i xv hx
   obtain ⟨v,S₁,hv,rfl⟩:=yp h
   simp only [execOp,hop]
   exact out_val (arange_ok hE hS (ev hx) hv)
  ·cases h
 ·rename_i it b hop
  split at h
  ·rename_i xv hx
   obtain ⟨v,S₁,hv,rfl⟩:=yp h
   simp only [execOp,hop]
   exact out_val (anext_ok hS (ev hx) hv)
  ·cases h
 ·rename_i it hop
  split at h
  ·rename_i xv hx
   obtain ⟨v,S₁,hv,rfl⟩:=yp h
   simp only [execOp,hop]
   exact out_val (aentry_ok hS (ev hx) hv)
  ·cases h
 ·rename_i x hop
  split at h
  ·rename_i t v hx
   cases h
   obtain ⟨y,hy,hxe⟩:=inst_iface (ev hx)
   exact ⟨.iface t y,by simp [execOp,hop,hxe,Instr.panic],by simp [AV.inst,hy]⟩
  ·cases h
 ·rename_i c hop
  exact acall_ok hE hA hS hT hop h
 ·rename_i c hop
  exact adefer_ok hA hT hop h
 ·cases h
end
end Go.Proofs.YtfddkbbjnghefaaGreatDoor.Zs
