import Derived.Test.YtcboiapggnmpfaaGreatDoorQar
import Derived.Test.YtcboiapggnmpfaaGreatDoorQao
namespace Go.Proofs.YtcboiapggnmpfaaGreatDoor
set_option maxRecDepth 100000
set_option maxHeartbeats 1000000
set_option linter.unusedSimpArgs false
set_option linter.unusedVariables false
open Go.RowKit
open Value (int)
def Nt.long:Nt→Int
 | .one _=>1
 | .two _ l r=>l.long+r.long
 | .rnd _ hi b=>if hi = -1 then b.long else b.long*hi
def Nt.Reps:Nt→Prop
 | .one _=>True
 | .two _ l r=>l.Reps∧r.Reps
 | .rnd _ hi b=>(hi = -1∨(1≤hi∧hi≤9))∧b.Reps
theorem Nt.long_pos:∀t:Nt,t.Reps→1≤t.long:=by
 intro t
 induction t with
 | one s=>intro _;exact Int.le_refl _
 | two op l r hl hr=>intro h;have:=hl h.1;have:=hr h.2;simp only [Nt.long];omega
 | rnd lo hi b hb =>
  intro h
  have h1:=hb h.2
  simp only [Nt.long]
  split
  ·exact h1
  ·rcases h.1 with h2|⟨h2,_⟩
   ·omega
   ·have:=Int.mul_le_mul h1 h2 (by omega) (by omega)
    omega
theorem Nt.subs_reps:∀(t:Nt) (n st i:Nat) (u:Nt) (m k:Nat),t.Reps→(t.subs n st)[i]? = some (u,m,k)→u.Reps:=by
 intro t
 induction t with
 | one s =>
  intro n st i u m k h hi
  have:=List.mem_of_getElem? hi
  simp [Nt.subs] at this
  obtain ⟨rfl,_⟩:=this;exact h
 | two op l r hl hr =>
  intro n st i u m k h hi
  have:=List.mem_of_getElem? hi
  simp only [Nt.subs,List.mem_append,List.mem_singleton] at this
  rcases this with h1|h1|h1
  ·obtain ⟨j,hj⟩:=List.mem_iff_getElem?.1 h1;exact hl _ _ j u m k h.1 hj
  ·obtain ⟨j,hj⟩:=List.mem_iff_getElem?.1 h1;exact hr _ _ j u m k h.2 hj
  ·simp only [Prod.mk.injEq] at h1;obtain ⟨rfl,_⟩:=h1;exact h
 | rnd lo hi b hb =>
  intro n st i u m k h hi
  have:=List.mem_of_getElem? hi
  simp only [Nt.subs,List.mem_append,List.mem_singleton] at this
  rcases this with h1|h1
  ·obtain ⟨j,hj⟩:=List.mem_iff_getElem?.1 h1;exact hb _ _ j u m k h.2 hj
  ·simp only [Prod.mk.injEq] at h1;obtain ⟨rfl,_⟩:=h1;exact h
def capP (z:Int):Int:=if 24<z then 25 else z
theorem capP_bounds {z:Int} (h:1≤z):1≤capP z∧capP z≤25:=by unfold capP;split <;> omega
theorem capP_add {a b:Int} (ha:1≤a) (hb:1≤b):capP (capP a+capP b)=capP (a+b):=by unfold capP;split <;> split <;> split <;> (try split) <;> omega
theorem capP_cap (a:Int):capP (capP a)=capP a:=by unfold capP;split <;> simp_all
theorem capP_mul {a h:Int} (ha:1≤a) (h1:1≤h):capP (capP a*h)=capP (a*h):=by
 by_cases c:24<a
 ·have e:capP a=25:=by unfold capP;rw [if_pos c]
  have m1:=Int.mul_le_mul (show (25:Int)≤25 by omega) h1 (by omega) (by omega)
  have m2:=Int.mul_le_mul (show (25:Int)≤a by omega) h1 (by omega) (by omega)
  rw [e]
  unfold capP
  rw [if_pos (by omega),if_pos (by omega)]
 ·have e:capP a=a:=by unfold capP;rw [if_neg c]
  rw [e]
structure CntIs (t:Nt) (i:Nat) (ps:List Int) (c:Int):Prop where
 len:ps.length=t.size
 ok:∀(j:Nat) (u:Nt) (m k:Nat),j<i→(t.subs 0 0)[j]? = some (u,m,k)→ps[j]? = some (capP u.long)
 last:0<i→∀(u:Nt) (m k:Nat),(t.subs 0 0)[i - 1]? = some (u,m,k)→c=capP u.long
theorem CntIs.start (t:Nt):CntIs t 0 (List.replicate t.size 0) 0:=⟨by simp,fun _ _ _ _ h=>by omega,fun h=>by omega⟩
theorem CntIs.set {t:Nt} {i:Nat} {ps:List Int} {c:Int} (h:CntIs t i ps c) {u:Nt} {m k:Nat} (hu:(t.subs 0 0)[i]? = some (u,m,k)) {z:Int} (hz:z=capP u.long):CntIs t (i+1) (ps.set i z) z:=by
 have hi:i<t.size:=by have:=(List.getElem?_eq_some_iff.1 hu).1;rwa [Nt.subs_length] at this
 refine ⟨by simp [h.len],?_,?_⟩
 ·intro j u' m' k' hj hs
  by_cases e:j=i
  ·subst e
   rw [hu] at hs
   simp only [Option.some.injEq,Prod.mk.injEq] at hs
   obtain ⟨rfl,rfl,rfl⟩:=hs
   rw [List.getElem?_set_self (by rw [h.len];exact hi),hz]
  ·rw [List.getElem?_set_ne (by omega)]
   exact h.ok j u' m' k' (by omega) hs
 ·intro _ u' m' k' hs
  have e:i+1 - 1=i:=by omega
  rw [e,hu] at hs
  simp only [Option.some.injEq,Prod.mk.injEq] at hs
  obtain ⟨rfl,rfl,rfl⟩:=hs
  exact hz
def intsI (l:List Int):List Value:=l.map (int .i64)
theorem intsI_get (l:List Int) (i:Nat) (x:Int) (h:l[i]? = some x):(intsI l)[i]? = some (.int .i64 x):=by simp [intsI,h]
theorem intsI_set (l:List Int) (i:Nat) (x:Int):(intsI l).set i (.int .i64 x)=intsI (l.set i x):=by simp [intsI]
theorem made_intsI (n:Nat):(madeCells #[int .i64 0] n).toList=intsI (List.replicate n 0):=by
 have hx:∀x:Nat,(#[int .i64 0]:Array Value)[x % (#[int .i64 0]:Array Value).size]! = int .i64 0:=by
  intro x
  have:x % (#[int .i64 0]:Array Value).size=0:=by simp;omega
  rw [this];rfl
 simp only [madeCells,hx]
 apply List.ext_getElem?
 intro k
 simp [intsI,List.getElem?_replicate]
 by_cases h:k<n
 ·simp [h]
 ·simp [h]
theorem countPlaces_any (t:Nt) (nv:Value) (w:World) (h:w.ownsRow 0 186 6 nv (t.nd 0 0).length (ndsC (t.nd 0 0))) (hsz:t.size≤10000) (hops:t.Ops) (hreps:t.Reps) :
  Calls Tryz.prog 69 #[nv] w fun e w'=>e=.returned (.int .i64 (capP t.long))∧Nw w w':=by
 have hpos:=t.size_pos
 obtain ⟨gn,cn,hnv⟩:=owns_someX h (by rw [Nt.nd_length];exact hpos)
 subst hnv
 have hbn:=h.lt gn rfl
 have hnl:=t.nd_length 0 0
 have HP:Hid (∀W,Nw w W→PatM W (.slice (some ⟨gn,0,none⟩) (t.nd 0 0).length cn) (.slice none 0 0) (t.nd 0 0) []):=fun W kW=>⟨ownsKpX h kW (fun _ _ h=>h),World.ownsRow_nil _ _ _ _,fun x hx=>by cases hx⟩
 clear h
 rw [hnl]
 clear hnl
 obtain ⟨i0,hi0,hz0,hz1,hz2⟩:=info_parts Tryz.info3
 go_enter Tryz.func69,Tryz.ntmps69
 go_wp2_with (first|(at_make;refine wpList_make_full _ rfl _ _ 22 rfl w.heap.size 3 i0 (.int .i64 0) 1 Tryz.underlying22 hi0 hz0 hz1 _ _ _ _ t.size rfl rfl ?a1 ?a2 ?b1 ?b2 ?b3 ?_)|fail)
 case a1=>omega
 case a2=>omega
 case b1=>first|omega|(rw [hz2];omega)
 case b2=>unfold maxLen;omega
 case b3=>simp
 intro w1 hown1 hgrow1
 have kg:Nw w w1:=(Kp.refl _ _).grown hgrow1 (by intro k hk;cases hk)
 have R1:Hid (Row w1 w.heap.size 3 (intsI (List.replicate t.size 0))):=by
  have:=Row.of_full hown1
  rw [made_intsI] at this
  exact this
 have K1:Hid (Nw w w1):=kg
 clear hown1 hgrow1 kg
 go_wp2
 go_loopg [4,5] t.size (fun m v4 v5 wr=>∃(i:Nat) (ps:List Int) (c:Int),v4=.int .i64 c∧v5=.int .i64 i∧m=t.size - i∧i≤t.size∧CntIs t i ps c∧Row wr w.heap.size 3 (intsI ps)∧Nw w wr)
 case atStart=>exact ⟨0,_,0,rfl,rfl,rfl,by omega,CntIs.start t,R1.out,K1.out⟩
 case round =>
  obtain ⟨i,ps,c,rfl,rfl,hm,hi,hcnt,hrow,hk⟩:=hrel
  have HC:Hid (CntIs t i ps c):=hcnt
  have HR:Hid (Row wr w.heap.size 3 (intsI ps)):=hrow
  have HK:Hid (Nw w wr):=hk
  have HM:Hid (_=t.size - i):=hm
  have hrl:=hrow.lt
  have HPW:=HP.out wr hk
  have y3:gn<wr.heap.size:=by omega
  by_cases hil:i<t.size
  ·obtain ⟨u,m,k,hu⟩:∃u m k,(t.subs 0 0)[i]? = some (u,m,k):=⟨_,_,_,List.getElem?_eq_getElem (by rw [Nt.subs_length];exact hil)⟩
   have hnd:(t.nd 0 0)[i]? = some (u.root m k):=by rw [Nt.nd_subs,List.getElem?_map,hu];rfl
   obtain ⟨n0,n1,n2,n3,n4,n5⟩:=HPW.node hnd
   have hok:=t.subs_ok 0 0 i u m k hu
   have huo:=t.subs_ops 0 0 i u m k hops hu
   have hur:=t.subs_reps 0 0 i u m k hreps hu
   have HU:Hid ((t.subs 0 0)[i]? = some (u,m,k)):=hu
   obtain ⟨pz,hpz⟩:∃pz,ps[i]? = some pz:=⟨_,List.getElem?_eq_getElem (by rw [HC.out.len];exact hil)⟩
   have ci:wr.cell? ⟨w.heap.size,i,none⟩=some (.int .i64 pz):=by rw [hrow.cell];exact intsI_get _ _ _ hpz
   have cz:∀o,wr.frozen? ⟨w.heap.size,o,none⟩=false:=hrow.froz
   have HW:Hid (∀(z:Int) (o:Obj),Row ((wr.setCell ⟨w.heap.size,i,none⟩ (.int .i64 z)).alloc o) w.heap.size 3 (intsI (ps.set i z))∧Nw w ((wr.setCell ⟨w.heap.size,i,none⟩ (.int .i64 z)).alloc o)):=by
    intro z o
    refine ⟨by rw [←intsI_set];exact (HR.out.set _ _).alloc _,?_⟩
    exact (HK.out.setCell (p:=⟨w.heap.size,i,none⟩) (Or.inl (Nat.le_refl _)) _).alloc o
   have HW2:Hid (∀(z:Int) (o:Obj) (n:Nat),Row (((wr.alloc o).drewN n).setCell ⟨w.heap.size,i,none⟩ (.int .i64 z)) w.heap.size 3 (intsI (ps.set i z))∧Nw w (((wr.alloc o).drewN n).setCell ⟨w.heap.size,i,none⟩ (.int .i64 z))):=by
    intro z o n
    refine ⟨by rw [←intsI_set];exact ((HR.out.kp (((Kp.refl (fun _=>False) wr).alloc o).drewN n) (fun h=>h)).set _ _),?_⟩
    exact ((HK.out.alloc o).drewN n).setCell (p:=⟨w.heap.size,i,none⟩) (Or.inl (Nat.le_refl _)) _
   clear hcnt hrow hk hm hnd hu HPW hpz
   have hne:¬w.heap.size=wr.heap.size:=by omega
   have hne':¬wr.heap.size=w.heap.size:=by omega
   cases u with
   | one s =>
    simp only [Nt.root] at n0 n1 n2 n3 n4 n5
    clear hok huo hur
    go_wp2
    go_roundg (t.size - (i+1))
    case measure=>rw [HM.out];omega
    case rel=>exact ⟨i+1,ps.set i 1,1,rfl,by simp,rfl,by omega,HC.out.set HU.out (by simp [Nt.long,capP]),(HW.out 1 _).1,(HW.out 1 _).2⟩
   | two op l r =>
    obtain ⟨sl,sr⟩:=hok.two op l r rfl
    have hidx:=hok.idx
    simp only [Nt.size] at hidx
    have hl1:=l.size_pos
    have hr1:=r.size_pos
    obtain ⟨jl,hjl⟩:∃jl,jl=m+l.size - 1:=⟨_,rfl⟩
    obtain ⟨jr,hjr⟩:∃jr,jr=m+l.size+r.size - 1:=⟨_,rfl⟩
    simp only [Nat.sub_zero] at sl sr
    rw [←hjl] at sl
    rw [←hjr] at sr
    simp only [Nt.root] at n0 n1 n2 n3 n4 n5
    have el:((m+l.size:Nat):Int) - 1=jl:=by omega
    have er:((m+l.size+r.size:Nat):Int) - 1=jr:=by omega
    rw [el] at n2
    rw [er] at n3
    have e2:wr.cell? ⟨w.heap.size,jl,none⟩=some (.int .i64 (capP l.long)):=by rw [HR.out.cell];exact intsI_get _ _ _ (HC.out.ok jl l m k (by omega) sl)
    have e4:wr.cell? ⟨w.heap.size,jr,none⟩=some (.int .i64 (capP r.long)):=by rw [HR.out.cell];exact intsI_get _ _ _ (HC.out.ok jr r _ _ (by omega) sr)
    have bl:=capP_bounds (l.long_pos hur.1)
    have br:=capP_bounds (r.long_pos hur.2)
    have HA:Hid (capP (capP l.long+capP r.long)=capP (Nt.two op l r).long):=capP_add (l.long_pos hur.1) (r.long_pos hur.2)
    have hjl10:jl<t.size:=by omega
    have hjr10:jr<t.size:=by omega
    simp only [Nt.Ops] at huo
    have hop:=huo.1
    generalize capP l.long=a at *
    generalize capP r.long=b at *
    clear hok huo sl sr hjl hjr el er hidx hl1 hr1 hur
    by_cases h24:24<a+b
    ·have HA2:Hid ((25:Int)=capP (Nt.two op l r).long):=by show _=_;rw [←HA.out,capP,if_pos h24]
     rcases hop with rfl|rfl
     all_goals
      go_wp2
      go_quiet (fail)
      go_wp2
      go_roundg (t.size - (i+1))
      case measure=>rw [HM.out];omega
      case rel=>exact ⟨i+1,ps.set i 25,25,rfl,by simp,rfl,by omega,HC.out.set HU.out HA2.out,(HW2.out 25 _ _).1,(HW2.out 25 _ _).2⟩
    ·have HA2:Hid (a+b=capP (Nt.two op l r).long):=by show _=_;rw [←HA.out,capP,if_neg h24]
     rcases hop with rfl|rfl
     all_goals
      go_wp2
      go_quiet (fail)
      go_wp2
      go_roundg (t.size - (i+1))
      case measure=>rw [HM.out];omega
      case rel=>exact ⟨i+1,ps.set i (a+b),a+b,rfl,by simp,rfl,by omega,HC.out.set HU.out HA2.out,(HW2.out _ _ _).1,(HW2.out _ _ _).2⟩
   | rnd lo hi' b =>
    have sl:=hok.rnd lo hi' b rfl
    have hidx:=hok.idx
    simp only [Nt.size] at hidx
    have hl1:=b.size_pos
    obtain ⟨jl,hjl⟩:∃jl,jl=m+b.size - 1:=⟨_,rfl⟩
    simp only [Nat.sub_zero] at sl
    rw [←hjl] at sl
    simp only [Nt.root] at n0 n1 n2 n3 n4 n5
    have el:((m+b.size:Nat):Int) - 1=jl:=by omega
    rw [el] at n2
    have e2:wr.cell? ⟨w.heap.size,jl,none⟩=some (.int .i64 (capP b.long)):=by rw [HR.out.cell];exact intsI_get _ _ _ (HC.out.ok jl b m k (by omega) sl)
    have hb1:=b.long_pos hur.2
    have bl:=capP_bounds hb1
    have hjl10:jl<t.size:=by omega
    rcases hur.1 with hh|⟨hh1,hh9⟩
    ·have g1:(hi' != -1)=false:=by simp [hh]
     have HA:Hid (capP (capP b.long)=capP (Nt.rnd lo hi' b).long):=by show _=_;rw [capP_cap];simp [Nt.long,hh]
     generalize capP b.long=a at *
     clear hok huo sl hjl el hidx hl1 hur hh hb1
     by_cases h24:24<a
     ·have HA2:Hid ((25:Int)=capP (Nt.rnd lo hi' b).long):=by show _=_;rw [←HA.out,capP,if_pos h24]
      go_wp2
      go_roundg (t.size - (i+1))
      case measure=>rw [HM.out];omega
      case rel=>exact ⟨i+1,ps.set i 25,25,rfl,by simp,rfl,by omega,HC.out.set HU.out HA2.out,(HW.out 25 _).1,(HW.out 25 _).2⟩
     ·have HA2:Hid (a=capP (Nt.rnd lo hi' b).long):=by show _=_;rw [←HA.out,capP,if_neg h24]
      go_wp2
      go_roundg (t.size - (i+1))
      case measure=>rw [HM.out];omega
      case rel=>exact ⟨i+1,ps.set i a,a,rfl,by simp,rfl,by omega,HC.out.set HU.out HA2.out,(HW.out _ _).1,(HW.out _ _).2⟩
    ·have g1:(hi' != -1)=true:=by simp;omega
     have HA:Hid (capP (capP b.long*hi')=capP (Nt.rnd lo hi' b).long):=by show _=_;rw [capP_mul hb1 hh1];simp [Nt.long,show ¬hi' = -1 by omega]
     generalize capP b.long=a at *
     have hm0:=Int.mul_le_mul bl.1 hh1 (by omega) (by omega)
     have hm1:=Int.mul_le_mul bl.2 hh9 (by omega) (by omega)
     clear hok huo sl hjl el hidx hl1 hur hb1
     generalize hp:a*hi'=pr at *
     by_cases h24:24<pr
     ·have HA2:Hid ((25:Int)=capP (Nt.rnd lo hi' b).long):=by show _=_;rw [←HA.out,capP,if_pos h24]
      go_wp2
      go_roundg (t.size - (i+1))
      case measure=>rw [HM.out];omega
      case rel=>exact ⟨i+1,ps.set i 25,25,rfl,by simp,rfl,by omega,HC.out.set HU.out HA2.out,(HW.out 25 _).1,(HW.out 25 _).2⟩
     ·have HA2:Hid (pr=capP (Nt.rnd lo hi' b).long):=by show _=_;rw [←HA.out,capP,if_neg h24]
      go_wp2
      go_roundg (t.size - (i+1))
      case measure=>rw [HM.out];omega
      case rel=>exact ⟨i+1,ps.set i pr,pr,rfl,by simp,rfl,by omega,HC.out.set HU.out HA2.out,(HW.out _ _).1,(HW.out _ _).2⟩
  ·have hie:i=t.size:=by omega
   subst hie
   have HE:Hid (c=capP t.long):=HC.out.last hpos t 0 0 (t.subs_last 0 0)
   clear HPW
   go_wp2
   go_ret
   exact ⟨by rw [HE.out];rfl,HK.out⟩
abbrev WSt:=List Nat×List Nat
def eitherS (p q:Pp):Pp:=⟨p.first ||| q.first,p.last ||| q.last,p.nothing||q.nothing⟩
def rounds (f:WSt→Pp×WSt):Nat→WSt→List Pp×WSt
 | 0,W=>([],W)
 | n+1,W=>((rounds f n W).1++[(f (rounds f n W).2).1],(f (rounds f n W).2).2)
def backS (ps:List Pp) (lo:Int):Nat→Pp→List Nat→Pp×List Nat
 | 0,whole,F=>(whole,F)
 | i+1,whole,F =>
  match ps[i]? with
  | none=>(whole,F)
  | some p=>backS ps lo i ⟨(joinS p whole).first,(joinS p whole).last,(joinS p whole).nothing||decide (lo≤(i:Int))⟩ (followS F p.last whole.first)
def wrS:Nt→Nat→WSt→Pp×WSt
 | .one _,st,W=>(⟨onlyS W.1.length,onlyS W.1.length,false⟩,(W.1++[st],W.2++[0]))
 | .two op l r,st,W =>
  if op=1 then (joinS (wrS l st W).1 (wrS r (st+l.steps.length) (wrS l st W).2).1,((wrS r (st+l.steps.length) (wrS l st W).2).2.1,followS (wrS r (st+l.steps.length) (wrS l st W).2).2.2 (wrS l st W).1.last (wrS r (st+l.steps.length) (wrS l st W).2).1.first))
  else (eitherS (wrS l st W).1 (wrS r (st+l.steps.length) (wrS l st W).2).1,(wrS r (st+l.steps.length) (wrS l st W).2).2)
 | .rnd lo hi b,st,W =>
  if hi = -1 then (⟨(wrS b st W).1.first,(wrS b st W).1.last,(wrS b st W).1.nothing||decide (lo=0)⟩,((wrS b st W).2.1,followS (wrS b st W).2.2 (wrS b st W).1.last (wrS b st W).1.first))
  else ((backS (rounds (wrS b st) hi.toNat W).1 lo hi.toNat ⟨0,0,true⟩ (rounds (wrS b st) hi.toNat W).2.2).1,((rounds (wrS b st) hi.toNat W).2.1,(backS (rounds (wrS b st) hi.toNat W).1 lo hi.toNat ⟨0,0,true⟩ (rounds (wrS b st) hi.toNat W).2.2).2))
def Nt.lenN:Nt→Nat
 | .one _=>1
 | .two _ l r=>l.lenN+r.lenN
 | .rnd _ hi b=>if hi = -1 then b.lenN else b.lenN*hi.toNat
structure WOk (W:WSt) (n:Nat):Prop where
 s:W.1.length=n
 f:W.2.length=n
 sets:Sets W.2
structure WrOk (f:WSt→Pp×WSt) (d:Nat):Prop where
 part:∀W n,WOk W n→(f W).1.ok
 more:∀W n,WOk W n→WOk (f W).2 (n+d)
theorem Pp.zero_ok:(⟨0,0,true⟩:Pp).ok:=⟨by decide,by decide⟩
theorem eitherS_ok {p q:Pp} (hp:p.ok) (hq:q.ok):(eitherS p q).ok:=⟨Nat.or_lt_two_pow hp.1 hq.1,Nat.or_lt_two_pow hp.2 hq.2⟩
theorem rounds_ok {f:WSt→Pp×WSt} {d:Nat} (h:WrOk f d):∀(k:Nat) (W:WSt) (n:Nat),WOk W n→(∀p∈(rounds f k W).1,p.ok)∧(rounds f k W).1.length=k∧WOk (rounds f k W).2 (n+d*k):=by
 intro k
 induction k with
 | zero=>intro W n hW;exact ⟨(fun p hp=>by cases hp),rfl,hW⟩
 | succ k ih =>
  intro W n hW
  obtain ⟨h1,h2,h3⟩:=ih W n hW
  refine ⟨?_,by simp [rounds,h2],?_⟩
  ·intro p hp
   simp only [rounds,List.mem_append,List.mem_singleton] at hp
   rcases hp with e|e
   ·exact h1 p e
   ·rw [e];exact h.part _ _ h3
  ·have:=h.more _ _ h3
   have e:n+d*(k+1)=n+d*k+d:=by rw [Nat.mul_add];omega
   rw [e];exact this
theorem backS_ok {ps:List Pp} {lo:Int} (hps:∀p∈ps,p.ok):∀(i:Nat) (whole:Pp) (F:List Nat),whole.ok→Sets F→(backS ps lo i whole F).1.ok∧Sets (backS ps lo i whole F).2∧(backS ps lo i whole F).2.length=F.length:=by
 intro i
 induction i with
 | zero=>intro whole F hw hF;exact ⟨hw,hF,rfl⟩
 | succ i ih =>
  intro whole F hw hF
  simp only [backS]
  split
  ·exact ⟨hw,hF,rfl⟩
  ·rename_i p hp
   have hpo:=hps p (List.mem_of_getElem? hp)
   obtain ⟨a,b,c⟩:=ih ⟨(joinS p whole).first,(joinS p whole).last,(joinS p whole).nothing||decide (lo≤(i:Int))⟩ (followS F p.last whole.first) (joinS_ok hpo hw) (followS_sets hF hw.1)
   exact ⟨a,b,by rw [c,followS_len]⟩
theorem wrS_ok:∀(u:Nt) (st:Nat),WrOk (wrS u st) u.lenN:=by
 intro u
 induction u with
 | one s =>
  intro st
  refine ⟨fun W n h=>⟨onlyS_lt _,onlyS_lt _⟩,fun W n h=>⟨by simp [wrS,Nt.lenN,h.s],by simp [wrS,Nt.lenN,h.f],?_⟩⟩
  intro x hx
  simp only [wrS,List.mem_append,List.mem_singleton] at hx
  rcases hx with e|e
  ·exact h.sets x e
  ·rw [e];decide
 | two op l r hl hr =>
  intro st
  have h1:=hl st
  have h2:=hr (st+l.steps.length)
  have key:∀W n,WOk W n→((wrS (.two op l r) st W).1.ok∧WOk (wrS (.two op l r) st W).2 (n+(l.lenN+r.lenN))):=by
   intro W n hW
   have a1:=h1.part W n hW
   have a2:=h1.more W n hW
   have b1:=h2.part _ _ a2
   have b2:=h2.more _ _ a2
   have e:n+(l.lenN+r.lenN)=n+l.lenN+r.lenN:=by omega
   rw [e]
   simp only [wrS]
   split
   ·exact ⟨joinS_ok a1 b1,⟨b2.s,by rw [followS_len];exact b2.f,followS_sets b2.sets b1.1⟩⟩
   ·exact ⟨eitherS_ok a1 b1,b2⟩
  exact ⟨fun W n h=>(key W n h).1,fun W n h=>(key W n h).2⟩
 | rnd lo hi b hb =>
  intro st
  have h1:=hb st
  have key:∀W n,WOk W n→((wrS (.rnd lo hi b) st W).1.ok∧WOk (wrS (.rnd lo hi b) st W).2 (n+(Nt.rnd lo hi b).lenN)):=by
   intro W n hW
   simp only [wrS,Nt.lenN]
   split
   ·have a1:=h1.part W n hW
    have a2:=h1.more W n hW
    exact ⟨a1,⟨a2.s,by rw [followS_len];exact a2.f,followS_sets a2.sets a1.1⟩⟩
   ·obtain ⟨r1,r2,r3⟩:=rounds_ok h1 hi.toNat W n hW
    obtain ⟨a,c,d⟩:=backS_ok (lo:=lo) r1 hi.toNat ⟨0,0,true⟩ (rounds (wrS b st) hi.toNat W).2.2 Pp.zero_ok r3.sets
    exact ⟨a,⟨r3.s,by rw [d];exact r3.f,c⟩⟩
  exact ⟨fun W n h=>(key W n h).1,fun W n h=>(key W n h).2⟩
theorem Nt.long_lenN:∀t:Nt,t.Reps→t.long=(t.lenN:Int):=by
 intro t
 induction t with
 | one s=>intro _;rfl
 | two op l r hl hr=>intro h;simp only [Nt.long,Nt.lenN,hl h.1,hr h.2];omega
 | rnd lo hi b hb =>
  intro h
  simp only [Nt.long,Nt.lenN,hb h.2]
  split
  ·rfl
  ·rcases h.1 with h2|⟨h2,_⟩
   ·omega
   ·have e:(hi.toNat:Int)=hi:=by omega
    rw [Int.natCast_mul,e]
theorem owns_types {w:World} {b b' s s' n n':Nat} {e e':TypeId} {v v':Value} {xs xs':List Value} (h:w.ownsRow b e s v n xs) (h':w.ownsRow b' e' s' v' n' xs') {g:Nat} (hg:v.ownBlock=some g) (hg':v'.ownBlock=some g):e=e':=by
 rcases h.2 with ⟨rfl,_⟩ | ⟨g1,c1,cur1,rfl,_,h3,_⟩
 ·simp [Value.ownBlock] at hg
 ·rcases h'.2 with ⟨rfl,_⟩ | ⟨g2,c2,cur2,rfl,_,h4,_⟩
  ·simp [Value.ownBlock] at hg'
  ·simp [Value.ownBlock] at hg hg'
   subst hg
   subst hg'
   rw [h3] at h4
   simp only [Option.some.injEq,Obj.cells.injEq] at h4
   exact h4.2.1
structure WrN (w:World) (R:Nat) (nv sv fv:Value) (M:List Nd) (W:WSt):Prop where
 wr:WrM w R nv sv fv W.1 W.2
 nd:w.ownsRow 0 186 6 nv M.length (ndsC M)
 nR:¬nv.ownBlock=some R
theorem WrN.nS {w:World} {R:Nat} {nv sv fv:Value} {M:List Nd} {W:WSt} (h:WrN w R nv sv fv M W):∀g,nv.ownBlock=some g→¬WSp R sv fv g:=by
 rintro g hg (e|e|e)
 ·subst e;exact h.nR hg
 ·exact absurd (owns_types h.nd h.wr.so hg e) (by decide)
 ·exact absurd (owns_types h.nd h.wr.fo hg e) (by decide)
theorem WrN.next {w w':World} {R:Nat} {nv sv fv sv' fv':Value} {M:List Nd} {W W':WSt} (h:WrN w R nv sv fv M W) (k:Kp (WSp R sv fv) w w') (hw:WrM w' R nv sv' fv' W'.1 W'.2):WrN w' R nv sv' fv' M W':=⟨hw,ownsKpX h.nd k h.nS,h.nR⟩
theorem WrN.nw {w w':World} {R:Nat} {nv sv fv:Value} {M:List Nd} {W:WSt} (h:WrN w R nv sv fv M W) (k:Nw w w'):WrN w' R nv sv fv M W:=⟨h.wr.nw k,ownsKpX h.nd k (fun _ _ h=>h),h.nR⟩
theorem WrN.node {w:World} {R gn cn:Nat} {sv fv:Value} {M:List Nd} {W:WSt} (h:WrN w R (.slice (some ⟨gn,0,none⟩) M.length cn) sv fv M W) {i:Nat} {x:Nd} (hi:M[i]? = some x) :
  w.cell? ⟨gn,i*6,none⟩=some (.int .i64 x.op)∧w.cell? ⟨gn,i*6+1,none⟩=some (.int .i64 x.step)∧w.cell? ⟨gn,i*6+2,none⟩=some (.int .i64 x.left)∧w.cell? ⟨gn,i*6+3,none⟩=some (.int .i64 x.right)∧w.cell? ⟨gn,i*6+4,none⟩=some (.int .i64 x.low)∧w.cell? ⟨gn,i*6+5,none⟩=some (.int .i64 x.high) :=
 (show PatM w (.slice (some ⟨gn,0,none⟩) M.length cn) (.slice none 0 0) M [] from ⟨h.nd,World.ownsRow_nil _ _ _ _,fun x hx=>by cases hx⟩).node hi
def WriteOk (M:List Nd) (nv:Value) (u:Nt) (i k:Nat):Prop:=∀(R:Nat) (sv fv:Value) (W:WSt) (n:Nat) (w:World),WrN w R nv sv fv M W→WOk W n→n+u.lenN≤10000 →
 Calls Tryz.prog 70 #[.pointer (some ⟨R,0,none⟩),.int .i64 i] w (WrPost w R nv sv fv (wrS u k W).1 (wrS u k W).2.1 (wrS u k W).2.2)
theorem NewB.far {w:World} {v v':Value} {B d:Nat} (h:NewB w v v') (hv:∀b,v.ownBlock=some b→b<B) (hB:B<w.heap.size):¬v'.ownBlock=some B:=by
 intro e
 rcases h B e with h1|h1
 ·have:=hv B h1;omega
 ·omega
theorem NewB.of {w w0:World} {v v':Value} (h:NewB w v v') (hs:w0.heap.size≤w.heap.size):NewB w0 v v':=fun b hb=>(h b hb).imp id (fun h=>by omega)
theorem NewB.trans {w w1:World} {v v1 v2:Value} (h:NewB w v v1) (h2:NewB w1 v1 v2) (hs:w.heap.size≤w1.heap.size):NewB w v v2:=by
 intro b hb
 rcases h2 b hb with e|e
 ·exact h b e
 ·exact Or.inr (by omega)
theorem WSp.back {w w1:World} {R:Nat} {sv fv sv1 fv1:Value} (n1:NewB w sv sv1) (n2:NewB w fv fv1):∀b,b<w.heap.size→WSp R sv1 fv1 b→WSp R sv fv b:=by
 rintro b hb (e|e|e)
 ·exact Or.inl e
 ·rcases n1 b e with h|h
  ·exact Or.inr (Or.inl h)
  ·omega
 ·rcases n2 b e with h|h
  ·exact Or.inr (Or.inr h)
  ·omega
def setP (w:World) (B:Nat) (p:Pp):World:=((w.setCell ⟨B,0,none⟩ (.int .i64 p.first)).setCell ⟨B,1,none⟩ (.int .i64 p.last)).setCell ⟨B,2,none⟩ (.bool p.nothing)
theorem setP_kp (w:World) (B:Nat) (p:Pp):Kp (fun b=>b=B) w (setP w B p):=((((Kp.refl (fun b=>b=B) w).setCell (p:=⟨B,0,none⟩) (Or.inr rfl) _).setCell (p:=⟨B,1,none⟩) (Or.inr rfl) _).setCell (p:=⟨B,2,none⟩) (Or.inr rfl) _)
structure PtAt (w:World) (B:Nat) (p:Pp):Prop where
 c0:w.cell? ⟨B,0,none⟩=some (.int .i64 p.first)
 c1:w.cell? ⟨B,1,none⟩=some (.int .i64 p.last)
 c2:w.cell? ⟨B,2,none⟩=some (.bool p.nothing)
 z:∀o,w.frozen? ⟨B,o,none⟩=false
theorem PtAt.lt {w:World} {B:Nat} {p:Pp} (h:PtAt w B p):B<w.heap.size:=World.block_lt_of_cell? w ⟨B,0,none⟩ h.c0
theorem PtAt.kp {S:Nat→Prop} {w w':World} {B:Nat} {p:Pp} (h:PtAt w B p) (k:Kp S w w') (hs:¬S B):PtAt w' B p:=⟨(k.cell h.lt hs).trans h.c0,(k.cell h.lt hs).trans h.c1,(k.cell h.lt hs).trans h.c2,fun o=>(k.frozen (p:=⟨B,o,none⟩) h.lt hs).trans (h.z o)⟩
theorem PtAt.set {w:World} {B:Nat} {p:Pp} (h:PtAt w B p) (q:Pp):PtAt (setP w B q) B q:=by
 obtain ⟨c0,c1,c2,z⟩:=h
 unfold setP
 constructor <;> simp [go_sem,c0,c1,c2,z]
theorem PtAt.load {w:World} {B:Nat} {p:Pp} (h:PtAt w B p):(loadVar 159 ⟨B,0,none⟩).run Tryz.prog w=.ok (partV p) w:=load_part h.c0 h.c1 h.c2
theorem PtAt.new (w:World) (p:Pp) (t:TypeId) {B:Nat} (hB:B=w.heap.size):PtAt (w.alloc (.cells #[.int .i64 p.first,.int .i64 p.last,.bool p.nothing] t)) B p:=by
 subst hB
 constructor <;> simp [go_sem,World.cell?_alloc_at,World.frozen?_alloc_at]
theorem wr_fin {w w1:World} {R:Nat} {nv sv fv sv1 fv1:Value} {p:Pp} {S F:List Nat} (hR:R<w.heap.size) (hm:WrM w1 R nv sv1 fv1 S F) (k:Kp (WSp R sv fv) w w1) (n1:NewB w sv sv1) (n2:NewB w fv fv1) (h1:¬sv1.ownBlock=some w.heap.size) (h2:¬fv1.ownBlock=some w.heap.size) :
  WrPost w R nv sv fv p S F (.returned (partV p)) (setP w1 w.heap.size p) :=
 ⟨sv1,fv1,rfl,hm.off (setP_kp w1 w.heap.size p) (by omega) h1 h2,k.trans' (setP_kp w1 w.heap.size p) (by intro b hb e;omega),n1,n2⟩
theorem two_lt (w:World) (a b:Obj):w.heap.size<((w.alloc a).alloc b).heap.size:=by
 have h1:(w.alloc a).heap.size=w.heap.size+1:=by simp
 have h2:((w.alloc a).alloc b).heap.size=(w.alloc a).heap.size+1:=by simp
 omega
theorem write_one (M:List Nd) (gn cn i k:Nat) (s:St) (hi:M[i]? = some ⟨0,k,0,0,0,0⟩) (hM:M.length≤10000):WriteOk M (.slice (some ⟨gn,0,none⟩) M.length cn) (.one s) i k:=by
 intro R sv fv W n w h hW hn
 have hil:=(List.getElem?_eq_some_iff.1 hi).1
 have H:Hid (WrN w R (.slice (some ⟨gn,0,none⟩) M.length cn) sv fv M W):=h
 obtain ⟨m0,m1,m2,m3,m4,m5⟩:=h.node hi
 have c0:=h.wr.c0
 have hlt:=h.wr.lt
 have hgl:=h.nd.lt gn rfl
 have hsl:=h.wr.so.lt
 have hfl:=h.wr.fo.lt
 have HSB:Hid (∀b,sv.ownBlock=some b→b<w.heap.size):=fun b hb=>(hsl b hb).2
 have HFB:Hid (∀b,fv.ownBlock=some b→b<w.heap.size):=fun b hb=>(hfl b hb).2
 have e1:=hW.s
 have e2:=hW.f
 have HST:Hid (∀W',Nw w W'→Calls Tryz.prog 96 #[.pointer (some ⟨R,0,none⟩),.int .i64 k] W' (WrPost W' R (.slice (some ⟨gn,0,none⟩) M.length cn) sv fv (wrS (.one s) k W).1 (wrS (.one s) k W).2.1 (wrS (.one s) k W).2.2)):=fun W' kW=>writeStep_any R k _ sv fv W.1 W.2 W' (h.wr.nw kW) (by omega) (by omega)
 generalize (wrS (.one s) k W).1=pp at *
 generalize (wrS (.one s) k W).2.1=SS at *
 generalize (wrS (.one s) k W).2.2=FF at *
 have n0:¬R=w.heap.size:=by omega
 have n1:¬gn=w.heap.size:=by omega
 clear h hsl hfl hW e1 e2 hn
 simp only at m0 m1 m2 m3 m4 m5
 go_enter Tryz.func70,Tryz.ntmps70
 go_wp2_with fail
 refine (HST.out _ (((Kp.refl _ w).alloc _).alloc _)).mono ?_
 rintro e w1 ⟨sv1,fv1,rfl,hm1,k1,b1,b2⟩
 have P1:Hid (PtAt w1 w.heap.size ⟨0,0,false⟩):=by
  have p0:=PtAt.new w ⟨0,0,false⟩ 159 (B:=w.heap.size) rfl
  refine (p0.kp ((Kp.refl (fun _=>False) _).alloc _) (fun h=>h)).kp k1 ?_
  rintro (e|e|e)
  ·exact n0 e.symm
  ·have:=HSB.out _ e;omega
  ·have:=HFB.out _ e;omega
 have FIN:Hid (WrPost w R (.slice (some ⟨gn,0,none⟩) M.length cn) sv fv pp SS FF (.returned (partV pp)) (setP w1 w.heap.size pp)):=by
  refine wr_fin hlt hm1 ((((Kp.refl _ w).alloc _).alloc _).trans k1) (b1.of (Nat.le_of_lt (two_lt _ _ _))) (b2.of (Nat.le_of_lt (two_lt _ _ _))) (b1.far (d:=0) HSB.out (two_lt _ _ _)) (b2.far (d:=0) HFB.out (two_lt _ _ _))
 obtain ⟨q0,q1,q2,qz⟩:=P1.out
 clear hm1 k1 b1 b2 m0 m1 m2 m3 m4 m5 c0
 unfold partV
 go_wp2
 refine bodyPost_ret (results_cX Tryz.results70 _ _ _ ⟨w.heap.size,0,none⟩ rfl _ (P1.out.set pp).load) rfl ?_
 exact FIN.out
end Go.Proofs.YtcboiapggnmpfaaGreatDoor
