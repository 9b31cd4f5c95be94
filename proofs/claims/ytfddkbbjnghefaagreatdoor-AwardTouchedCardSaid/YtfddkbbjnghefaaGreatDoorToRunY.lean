/-
  The program is one that the runs speak of.
-/
import Derived.Test.YtfddkbbjnghefaaGreatDoorToRunA
import Derived.KernelRfl
set_option linter.unusedSimpArgs false
set_option linter.unusedVariables false
namespace Go.Proofs.YtfddkbbjnghefaaGreatDoor.Zs
open Go
noncomputable def envG (P : Program) (glob : Nat→Option Nat) (pure : FuncId→Bool) (n sp : Bool) (skip : FuncId→Bool:=fun _ => false) : Env:={
 P:=P,
 und:=fun t => P.underlying t,
 inf:=fun t => P.info? t,
 fn:=fun f => P.funcs[f]?,
 glob:=glob,
 pure:=pure,
 names:=n,
 spare:=sp,
 skip:=skip }
theorem envG_ok {P : Program} (h : (envOf P).Ok) {glob : Nat→Option Nat} {pure : FuncId→Bool} {n sp : Bool} {skip : FuncId→Bool} : (envG P glob pure n sp skip).Ok:=⟨h.und,h.inf,h.fn,h.name,h.mixed⟩
theorem Em_is : Em = envG Tryz.prog (fun g => match Nat.blt g 50 with | true => some g | false => none) (fun f => match memN f impureL with | true => false | false => true) false true (fun f => match memN f skipL with | true => true | false => false):=by unfold Em envG; rfl
theorem EB_ok : (envOf Tryz.prog).Ok:=envOf_ok names0 mixed0
theorem Em_ok : Em.Ok:=by rw [Em_is]; exact envG_ok EB_ok
theorem Em_facts : Em.facts = []:=by rw [Em_is]; rfl
theorem Em_rho : Em.rho = none:=by rw [Em_is]; rfl
theorem baseM_ok : zu Em baseL:=fun f args S r S' h => nomatch (show (none : Option (AE×ASt)) = some (r,S') from h)
theorem low_root : lowIds hRoot = true:=by kernel_rfl
theorem ids_root : (hRoot.all fun p => Nat.blt p.1 100) = true:=by kernel_rfl
theorem plain_root : plainH hRoot = true:=by kernel_rfl
theorem cov_root : covers (yf hRoot) hRoot = true:=by kernel_rfl
theorem Em_glob {g id : Nat} (h : Em.glob g = some id) : Em.glob g = some id∧id < 100:=by
 refine ⟨h,?_⟩
 rw [Em_is] at h
 have h : (match Nat.blt g 50 with | true => some g | false => none) = some id:=h
 split at h
 ·rename_i hb
  cases h
  have:=zo hb
  omega
 ·cases h
theorem plainM {f : Nat} {args : List AV} {v : AV} (hL : zu Em (memoLib f args hRoot 100 v [] 100)) (hv : v.plain.isSome = true) (ha : (args.all fun a => a.plain.isSome) = true) : zu Em (plainLib f args hRoot v):=by
 obtain ⟨u,hu⟩:=Option.isSome_iff_exists.1 hv
 exact plainLib_ok (E0:=Em) (E:=Em) hL rfl (fun g id h => Em_glob h) Em_facts Em_rho hu low_root ids_root plain_root cov_root ha
end Go.Proofs.YtfddkbbjnghefaaGreatDoor.Zs
