import Derived.Test.YtcboiapggnmpfabGreatQby
import Derived.Test.YtcboiapggnmpfabGreatQag
import Derived.Test.YtcboiapggnmpfabGreatQbr
import Derived.Test.YtcboiapggnmpfabGreatQbw
namespace Go.Proofs.YtcboiapggnmpfabGreat
set_option maxRecDepth 100000
set_option maxHeartbeats 8000000
set_option linter.unusedSimpArgs false
set_option linter.unusedVariables false
open Go.RowKit
theorem keep_now {ks:List Bool} {n i:Nat} (hi:i<n):nowAt (numTo ks n) i = -1↔¬ks[i]? = some true:=by
 have h:=nowAt_num (ks:=ks) (n:=n) (a:=(i:Int)) (by simpa using hi)
 rw [h]
 simp only [Int.toNat_natCast]
 split
 ·rename_i c;simp [c]
 ·rename_i c;simp [c]
def TrimPost (l:List In) (w:World) (e:Ending) (w':World):Prop :=
 ∃(v:Value) (f:Int) (out:List In),e=.returned (.tuple #[v,.int .i64 f])∧TrimIs l f out∧w'.ownsRow w.heap.size 62 14 v out.length (codeC out)∧Nw w w'
theorem trimP_any (p:Option Addr) (cap:Nat) (l:List In) (w:World) (hp:CodeP w p l) (hl:l.length≤maxLen) :
  Calls Tryz.prog 41 #[.slice p l.length cap] w (TrimPost l w):=by
 obtain ⟨i0,hi0,hz0,hz1,hz2⟩:=info_parts Tryz.info62
 go_enter Tryz.func41,Tryz.ntmps41
 go_wp2_with fail
 refine (validP_any p cap l w hp hl).mono ?_
 rintro e w1 ⟨a,b,rfl,hv,k1⟩
 have HV:Hid (ValidIs l a b):=hv
 have K1:Hid (Nw w w1):=k1
 have HP1:Hid (CodeP w1 p l):=hp.nw k1
 clear hv k1 hp
 by_cases ha:a=0
 ·subst ha
  obtain ⟨hn,hne,hA⟩:=HV.out.all
  have h0:0<l.length:=List.length_pos_iff.2 hne
  obtain ⟨g,rfl,C1⟩:=HP1.out hne
  obtain ⟨ks,hk⟩:=KeepIs.exists l
  have HA:Hid (AllIns l):=hA
  have HK:Hid (KeepIs l ks):=hk
  have HC1:Hid (Code' w1 g l):=C1
  clear hA hk C1 HP1 hne
  go_wp2_with fail
  refine (numberAnew_any g cap l ks w1 HC1.out HA.out h0 hn HK.out).mono ?_
  rintro e w2 ⟨nv,rfl,hN⟩
  have hnl:(numTo ks l.length).length=l.length:=numTo_length ks l.length
  obtain ⟨gn,cn,rfl⟩:=owns_some hN.own (by rw [hnl];exact h0)
  have HOF:Hid (∀(z:Int) (W:World),0≤z→Nw w2 W→Calls Tryz.prog 59 #[.slice (some ⟨gn,0,none⟩) l.length cn,.int .i64 z] W fun e w'=>e=.returned (.int .i64 (nowAt (numTo ks l.length) z))∧w'=W):=by
   intro z W hz k
   have:=of_any w1.heap.size gn cn (numTo ks l.length) z W (owns_kp hN.own k (fun _ _ h=>h)) hz (by omega)
   rwa [hnl] at this
  have HTG:Hid (∀(i:Nat) (x:In) (W:World),l[i]? = some x→Nw w2 W→Calls Tryz.prog 60 #[.slice (some ⟨gn,0,none⟩) l.length cn,insV x] W fun e w'=>e=.returned (insV (trimI (numTo ks l.length) x))∧Nw W w'):=by
   intro i x W hx k
   have:=targetsAnew_any w1.heap.size gn cn (numTo ks l.length) x W (owns_kp hN.own k (fun _ _ h=>h)) (by omega) (fun h4=>by obtain ⟨a1,_,a3,a4⟩:=ins_jump HA.out hx h4;exact ⟨a1,a3,a4⟩) (fun h5=>by obtain ⟨a1,_,a3,_⟩:=ins_split HA.out hx h5;exact ⟨a1,a3⟩)
   rwa [hnl] at this
  have HKN:Hid (∀i:Nat,i<l.length→(nowAt (numTo ks l.length) i = -1↔¬ks[i]? = some true)):=fun i hi=>keep_now hi
  have K2:Hid (Nw w w2):=K1.out.trans hN.nw
  have C2:Hid (Code' w2 g l):=HC1.out.kp hN.nw (fun h=>h)
  have HT9:Hid (¬ks[0]? = some true→TrimIs l 9 []):=fun h=>⟨0,b,HV.out,Or.inr ⟨rfl,ks,HK.out,Or.inl ⟨h,rfl,rfl⟩⟩⟩
  have HT0:Hid (ks[0]? = some true→TrimIs l 0 (trimTo (numTo ks l.length) ks l l.length)):=fun h=>⟨0,b,HV.out,Or.inr ⟨rfl,ks,HK.out,Or.inr ⟨h,rfl,rfl⟩⟩⟩
  have HN0:Hid (ks[0]? = some true→nowAt (numTo ks l.length) 0=0):=by
   intro h
   rw [nowAt_num (by simpa using h0)]
   simp [h,cntTo]
  rw [hnl]
  generalize numTo ks l.length=now at HOF HTG HKN HT0 HN0
  clear hN HC1 K1 HV HK HA hnl
  go_wp2_with fail
  refine (HOF.out 0 w2 (by omega) (Kp.refl _ _)).mono ?_
  rintro e w3 ⟨rfl,rfl⟩
  by_cases hk0:ks[0]? = some true
  ·rw [HN0.out hk0]
   have HT:Hid (TrimIs l 0 (trimTo now ks l l.length)):=HT0.out hk0
   clear HT9 HT0
   go_wp2
   go_loopg [7,8] l.length (fun m v7 v8 wr=>∃i:Nat,v8=.int .i64 i∧m=l.length - i∧i≤l.length∧Hb w3 wr w3.heap.size v7 (trimTo now ks l i))
   case atStart=>exact ⟨0,rfl,rfl,by omega,⟨World.ownsRow_nil _ _ _ _,Kp.refl _ _⟩⟩
   case round =>
    obtain ⟨i,rfl,hm,hil,hB⟩:=hrel
    have HM:Hid (_=l.length - i):=hm
    have HB:Hid (Hb w3 wr w3.heap.size u7 (trimTo now ks l i)):=hB
    clear hm
    by_cases hi':i<l.length
    ·obtain ⟨x,hx⟩:∃x,l[i]? = some x:=⟨l[i],by simp [hi']⟩
     have HX:Hid (l[i]? = some x):=hx
     have HLE:Hid ((trimTo now ks l i).length≤i):=trimTo_len now ks l i
     go_wp2_with fail
     refine (HOF.out i wr (by omega) hB.nw).mono ?_
     rintro e w4 ⟨rfl,rfl⟩
     by_cases hki:ks[i]? = some true
     ·have hne:¬nowAt now i = -1:=fun h=>(HKN.out i hi').1 h hki
      have HTK:Hid (trimTo now ks l (i+1)=trimTo now ks l i++[trimI now x]):=trimTo_keep hki hx
      generalize nowAt now i=ni at hne ⊢
      generalize trimTo now ks l i=lA at HB HLE HTK
      obtain ⟨d0,d1,d2,d3,d4,d5,d6,d7,d8,d9,d10,d11,d12,d13⟩:=((C2.out.kp hB.nw (fun h=>h)).ins i x hx).cells
      have HN4:Hid (Nw w3 w4):=hB.nw
      clear hx hki hB
      go_wp2_with fail
      refine (HTG.out i x w4 HX.out HN4.out).mono ?_
      rintro e w5 ⟨rfl,k5⟩
      have B5:Hid (Hb w3 w5 w3.heap.size u7 lA):=HB.out.next k5
      have h35:w3.heap.size≤w5.heap.size:=B5.out.nw.size
      clear k5 HB HN4 d0 d1 d2 d3 d4 d5 d6 d7 d8 d9 d10 d11 d12 d13
      generalize trimI now x=Y at HTK ⊢
      simp only [insV]
      go_wp2_with (at_builtin;refine wpList_append_lies _ rfl _ _ 53 rfl w3.heap.size 62 i0 (.agg #[.int .i64 0,.int .i64 0,.int .i64 0,.int .i64 0,.int .i64 0,.int .i64 0,.int .i64 0,.int .i64 0,.int .i64 0,.int .i64 0,.int .i64 0,.int .i64 0,.int .i64 0,.int .i64 0]) 14 112 Tryz.underlying53 hi0 hz0 hz1 hz2 rfl (by decide) _ _ _ rfl ((B5.out.own.alloc _).alloc _) ⟨w5.heap.size+1,0,none⟩ 1 1 (insC Y) rfl rfl (news_two3 w5 _ _ _) (oneCellsI _) (by decide) (by unfold maxLen;have:=HLE.out;omega) (by have:=HLE.out;omega) (by simp;omega) _ rfl ?_)
      intro g3 cap3 w6 hown3 hgrow3 hat3 hlt3
      have B6:Hid (Hb w3 w6 w3.heap.size (.slice (some ⟨g3,0,none⟩) (lA.length+1) cap3) (lA++[Y])):=(B5.out.next (((Kp.refl _ _).alloc _).alloc _)).more rfl hgrow3 hown3
      clear hown3 hgrow3 hat3
      go_wp2
      go_roundg (l.length - (i+1))
      case measure=>rw [HM.out];omega
      case rel=>exact ⟨i+1,by simp,rfl,by omega,by rw [HTK.out];exact B6.out⟩
     ·have he:nowAt now i = -1:=(HKN.out i hi').2 hki
      have HTK:Hid (trimTo now ks l (i+1)=trimTo now ks l i):=trimTo_skip hki
      rw [he]
      clear hB
      go_wp2
      go_roundg (l.length - (i+1))
      case measure=>rw [HM.out];omega
      case rel=>exact ⟨i+1,by simp,rfl,by omega,by rw [HTK.out];exact HB.out⟩
    ·have ei:i=l.length:=by omega
     subst ei
     go_wp2
     go_ret2
     exact ⟨_,0,_,rfl,HT.out,ownsBaseX HB.out.own K2.out.size,K2.out.trans HB.out.nw⟩
  ·have he:nowAt now 0 = -1:=(HKN.out 0 h0).2 hk0
   have HT:Hid (TrimIs l 9 []):=HT9.out hk0
   rw [he]
   go_wp2
   go_ret2
   exact ⟨_,9,[],rfl,HT.out,World.ownsRow_nil _ _ _ _,K2.out⟩
 ·have HB:Hid (TrimPost l w (.returned (.tuple #[.slice none 0 0,.int .i64 a])) w1):=⟨_,a,[],rfl,⟨a,b,HV.out,Or.inl ⟨ha,rfl,rfl⟩⟩,World.ownsRow_nil _ _ _ _,K1.out⟩
  go_wp2
  go_ret2
  exact HB.out
theorem trimS_any (p:Option Addr) (cap:Nat) (l:List In) (w:World) (hp:CodeP w p l) (hl:l.length≤maxLen) :
  Calls Tryz.prog 26 #[.slice p l.length cap] w (TrimPost l w):=by
 go_enter Tryz.func26,Tryz.ntmps26
 go_wp2_with fail
 refine (trimP_any p cap l w hp hl).mono ?_
 rintro e w2 ⟨v,f,out,rfl,hv⟩
 go_wp2
 go_ret2
 exact ⟨v,f,out,rfl,hv⟩
theorem size_insS (x:In):(Tryz.prog.info? 62).map (·.size)=some (insC x).toArray.size:=Tryz.sizeIn
theorem Tryz.rowIn2:(Tryz.prog.underlying 62).map TypeDesc.isRow=some true:=by kernel_rfl
theorem box_in (W:World) (m:In):Bx ((W.alloc (.cells #[.int .i64 0,.int .i64 0,.int .i64 0,.int .i64 0,.int .i64 0,.int .i64 0,.int .i64 0,.int .i64 0,.int .i64 0,.int .i64 0,.int .i64 0,.int .i64 0,.int .i64 0,.int .i64 0] 62)).setCells W.heap.size 0 (insC m)) W.heap.size (insC m)∧Nw W ((W.alloc (.cells #[.int .i64 0,.int .i64 0,.int .i64 0,.int .i64 0,.int .i64 0,.int .i64 0,.int .i64 0,.int .i64 0,.int .i64 0,.int .i64 0,.int .i64 0,.int .i64 0,.int .i64 0,.int .i64 0] 62)).setCells W.heap.size 0 (insC m)):=by
 refine ⟨(Bx.new W (insC ⟨0,0,0,tst0⟩) 62).put (by simp [insC]),((Kp.refl _ _).alloc _).trans' (kp_setCells _ 0 _) (by intro b hb e;omega)⟩
theorem box_inThere (W:World) (m:In):(W.alloc (.cells #[.int .i64 0,.int .i64 0,.int .i64 0,.int .i64 0,.int .i64 0,.int .i64 0,.int .i64 0,.int .i64 0,.int .i64 0,.int .i64 0,.int .i64 0,.int .i64 0,.int .i64 0,.int .i64 0] 62)).there W.heap.size 0 (insC m).toArray.size:=by
 exact (Bx.new W (insC ⟨0,0,0,tst0⟩) 62).there (n:=14) (by simp [insC])
def ShPost (w:World) (l:List In) (r:Ending) (w':World):Prop:=∃v,r=.returned v∧w'.ownsRow w.heap.size 62 14 v l.length (codeC l)∧Nw w w'
theorem shifted_any (g cap d:Nat) (l:List In) (w:World) (hc:Code' w g l) (hl:l.length≤1000) (hd:d≤100) (hv:∀x∈l,(x.op=4∨x.op=5 → -1000000≤x.a∧x.a≤1000000)∧(x.op=5 → -1000000≤x.b∧x.b≤1000000)) :
  Calls Tryz.prog 28 #[.slice (some ⟨g,0,none⟩) l.length cap,.int .i64 (d:Int)] w (ShPost w (l.map (shI d))):=by
 have HC:Hid (Code' w g l):=hc
 have HVV:Hid (∀x∈l,(x.op=4∨x.op=5 → -1000000≤x.a∧x.a≤1000000)∧(x.op=5 → -1000000≤x.b∧x.b≤1000000)):=hv
 obtain ⟨i0,hi0,hz0,hz1,hz2⟩:=info_parts Tryz.info62
 obtain ⟨dm,hmu,hmd⟩:=Option.map_eq_some_iff.1 Tryz.rowIn2
 have HMU:Hid (Tryz.prog.underlying 62=some dm):=hmu
 have HMD:Hid (dm.isRow=true):=hmd
 obtain ⟨ms,HMS⟩:∃ms,Hid (l.map (shI d)=ms):=⟨_,rfl⟩
 have HML:Hid (ms.length=l.length):=by show _=_;rw [←HMS.out];simp
 rw [HMS.out]
 clear hmu hmd hc hv
 go_enter Tryz.func28,Tryz.ntmps28
 go_wp2
 go_loopg [5,6] l.length (fun m v5 v6 wr=>∃i:Nat,v6=.int .i64 (i:Int)∧m=l.length - i∧i≤l.length∧wr.ownsRow w.heap.size 62 14 v5 i (codeC (ms.take i))∧Nw w wr)
 case atStart=>exact ⟨0,rfl,rfl,by omega,by simpa [codeC] using World.ownsRow_nil w w.heap.size 62 14,Kp.refl _ _⟩
 case round =>
  obtain ⟨i,rfl,hm,hil,hv,hk⟩:=hrel
  have HM:Hid (_=l.length - i):=hm
  obtain ⟨vp,vc,hve⟩:=ownsLenX hv
  subst hve
  have HV:Hid (wr.ownsRow w.heap.size 62 14 (.slice vp i vc) i (codeC (ms.take i))):=hv
  have HK:Hid (Nw w wr):=hk
  clear hm hv hk
  by_cases hi:i<l.length
  ·obtain ⟨x,hx⟩:∃x,l[i]? = some x:=⟨l[i],by simp [hi]⟩
   have HRX:Hid (wr.rangeAt g (i*14) (insC x)):=fun j v hv=>(HK.out.cell (p:=⟨g,i*14+j,none⟩) HC.out.lt (fun h=>h)).trans (HC.out.ins i x hx j v hv)
   have HX:Hid (ms[i]? = some (shI d x)):=by show _=_;rw [←HMS.out,List.getElem?_map,hx];rfl
   obtain ⟨hxa,hxb⟩:=HVV.out x (List.mem_of_getElem? hx)
   have HXA:Hid (x.op=4∨x.op=5 → -1000000≤x.a∧x.a≤1000000):=hxa
   have HXB:Hid (x.op=5 → -1000000≤x.b∧x.b≤1000000):=hxb
   have hii:(i:Int)<l.length:=by omega
   have HT0:Hid ((wr.alloc (.cells #[.int .i64 0,.int .i64 0,.int .i64 0,.int .i64 0,.int .i64 0,.int .i64 0,.int .i64 0,.int .i64 0,.int .i64 0,.int .i64 0,.int .i64 0,.int .i64 0,.int .i64 0,.int .i64 0] 62)).there wr.heap.size 0 (insC x).toArray.size):=box_inThere wr x
   obtain ⟨hb1,hb2⟩:=box_in wr x
   have HBX:Hid (Bx ((wr.alloc (.cells #[.int .i64 0,.int .i64 0,.int .i64 0,.int .i64 0,.int .i64 0,.int .i64 0,.int .i64 0,.int .i64 0,.int .i64 0,.int .i64 0,.int .i64 0,.int .i64 0,.int .i64 0,.int .i64 0] 62)).setCells wr.heap.size 0 (insC x)) wr.heap.size (insC x)):=hb1
   have HKX:Hid (Nw wr ((wr.alloc (.cells #[.int .i64 0,.int .i64 0,.int .i64 0,.int .i64 0,.int .i64 0,.int .i64 0,.int .i64 0,.int .i64 0,.int .i64 0,.int .i64 0,.int .i64 0,.int .i64 0,.int .i64 0,.int .i64 0] 62)).setCells wr.heap.size 0 (insC x))):=hb2
   have HSIZ:Hid ((Tryz.prog.info? 62).map (·.size)=some (insC x).length):=Tryz.sizeIn
   clear hb1 hb2 hx hxa hxb
   generalize hwx:(wr.alloc (.cells #[.int .i64 0,.int .i64 0,.int .i64 0,.int .i64 0,.int .i64 0,.int .i64 0,.int .i64 0,.int .i64 0,.int .i64 0,.int .i64 0,.int .i64 0,.int .i64 0,.int .i64 0,.int .i64 0] 62)).setCells wr.heap.size 0 (insC x)=wb at HBX HKX
   have HWX:Hid ((wr.alloc (.cells #[.int .i64 0,.int .i64 0,.int .i64 0,.int .i64 0,.int .i64 0,.int .i64 0,.int .i64 0,.int .i64 0,.int .i64 0,.int .i64 0,.int .i64 0,.int .i64 0,.int .i64 0,.int .i64 0] 62)).setCells wr.heap.size 0 (insC x)=wb):=hwx
   clear hwx
   have c0:=HBX.out.cell (k:=0) (v:=.int .i64 x.op) rfl
   have c1:=HBX.out.cell (k:=1) (v:=.int .i64 x.a) rfl
   have c2:=HBX.out.cell (k:=2) (v:=.int .i64 x.b) rfl
   have cz:=HBX.out.z
   have hsw:w.heap.size≤wr.heap.size:=HK.out.size
   generalize hBB:wr.heap.size=BB at *
   have HBB:Hid (wr.heap.size=BB):=hBB
   by_cases h4:x.op=4
   ·have hw1:IntKind.i64.wrap (x.a+(d:Int))=x.a+(d:Int):=IntWalk.i64_in _ (by have:=HXA.out (Or.inl h4);omega)
    have hd5:¬x.op=5:=by omega
    have HRY0:Hid ((wb.setCell ⟨BB,1,none⟩ (.int .i64 (x.a+(d:Int)))).rangeAt BB 0 (insC (shI d x))):=by
     have:=(HBX.out.set 1 (.int .i64 (x.a+(d:Int)))).r
     have e:(insC x).set 1 (.int .i64 (x.a+(d:Int)))=insC (shI d x):=by simp [insC,shI,h4]
     rw [e] at this
     exact this
    have HKY:Hid (Nw wr (wb.setCell ⟨BB,1,none⟩ (.int .i64 (x.a+(d:Int))))):=HKX.out.setCell (p:=⟨BB,1,none⟩) (Or.inl (by rw [HBB.out];exact Nat.le_refl _)) _
    have HV5:Hid ((wb.setCell ⟨BB,1,none⟩ (.int .i64 (x.a+(d:Int)))).ownsRow w.heap.size 62 14 (.slice vp i vc) i (codeC (ms.take i))):=owns_kp HV.out HKY.out (fun _ _ h=>h)
    obtain ⟨wz,hWE⟩:∃wz,(wb.setCell ⟨BB,1,none⟩ (.int .i64 (x.a+(d:Int))))=wz:=⟨_,rfl⟩
    rw [hWE] at HRY0 HKY HV5
    have HWE:Hid ((wb.setCell ⟨BB,1,none⟩ (.int .i64 (x.a+(d:Int))))=wz):=hWE
    clear hWE
    have HXO:Hid (codeC (ms.take (i+1))=codeC (ms.take i)++insC (shI d x)):=by
     show _=_
     rw [List.take_add_one,HX.out,Option.toList_some,codeC_append]
     simp [codeC]
    generalize hY:shI d x=Y at *
    clear hY
    obtain ⟨yo,ya,yb,⟨⟨l0,l1,l2⟩,yr,⟨r0,r1,r2⟩,yt,⟨m0,m1,m2⟩⟩⟩:=Y
    have HRY:Hid (wz.rangeAt BB 0 [.int .i64 yo,.int .i64 ya,.int .i64 yb,.int .i64 l0,.int .i64 l1,.int .i64 l2,.int .i64 yr,.int .i64 r0,.int .i64 r1,.int .i64 r2,.int .i64 yt,.int .i64 m0,.int .i64 m1,.int .i64 m2]):=HRY0.out
    have HSIY:Hid ((Tryz.prog.info? 62).map (·.size)=some ([.int .i64 yo,.int .i64 ya,.int .i64 yb,.int .i64 l0,.int .i64 l1,.int .i64 l2,.int .i64 yr,.int .i64 r0,.int .i64 r1,.int .i64 r2,.int .i64 yt,.int .i64 m0,.int .i64 m1,.int .i64 m2]:List Value).length):=Tryz.sizeIn
    clear HRY0
    have hszW:BB≤wz.heap.size:=by have:=HKY.out.size;have:=HBB.out;omega
    go_wp2_with (first|(with_reducible (show Go.wpList _ _ _ ({ dst:=_,op:=Op.load 62 _,type:=_,pos:=_,after:=_,guard:=_ }::_) _ _);refine wpList_load_mid rfl 62 _ rfl g (i*14) rfl (insC x) dm HRX.out HMU.out HMD.out HSIZ.out ?_)|(with_reducible (show Go.wpList _ _ _ ({ dst:=_,op:=Op.load 62 _,type:=_,pos:=_,after:=_,guard:=_ }::_) _ _);(try rw [HWE.out]);refine wpList_load_mid rfl 62 _ rfl BB (0) rfl [.int .i64 yo,.int .i64 ya,.int .i64 yb,.int .i64 l0,.int .i64 l1,.int .i64 l2,.int .i64 yr,.int .i64 r0,.int .i64 r1,.int .i64 r2,.int .i64 yt,.int .i64 m0,.int .i64 m1,.int .i64 m2] dm HRY.out HMU.out HMD.out HSIY.out ?_)|(with_reducible (show Go.wpList _ _ _ ({ dst:=_,op:=Op.store 62 _ _,type:=_,pos:=_,after:=_,guard:=_ }::_) _ _);refine wpList_store_mid rfl 62 _ _ rfl BB 0 (insC x).toArray rfl rfl HT0.out (size_insS x) (all_oneCell_toArray (oneCellsI x)) ?_;rw [HWX.out])|(at_builtin;refine wpList_append_lies _ rfl _ _ 53 rfl w.heap.size 62 i0 (.agg #[.int .i64 0,.int .i64 0,.int .i64 0,.int .i64 0,.int .i64 0,.int .i64 0,.int .i64 0,.int .i64 0,.int .i64 0,.int .i64 0,.int .i64 0,.int .i64 0,.int .i64 0,.int .i64 0]) 14 112 Tryz.underlying53 hi0 hz0 hz1 hz2 rfl (by decide) _ _ _ rfl (HV5.out.alloc _) ⟨wz.heap.size,0,none⟩ 1 1 [.int .i64 yo,.int .i64 ya,.int .i64 yb,.int .i64 l0,.int .i64 l1,.int .i64 l2,.int .i64 yr,.int .i64 r0,.int .i64 r1,.int .i64 r2,.int .i64 yt,.int .i64 m0,.int .i64 m1,.int .i64 m2] rfl rfl ?bb1 ?bb2 (by decide) ?bb3 ?bb4 ?bb5 _ rfl ?_)|fail)
    try (case bb1=>exact news_one _ rfl _ _)
    try (case bb2=>exact oneCellsI ⟨yo,ya,yb,⟨⟨l0,l1,l2⟩,yr,⟨r0,r1,r2⟩,yt,⟨m0,m1,m2⟩⟩⟩)
    try (case bb2=>exact ⟨rfl,rfl,rfl,rfl,rfl,rfl,rfl,rfl,rfl,rfl,rfl,rfl,rfl,rfl⟩)
    case bb3=>unfold maxLen;omega
    case bb4=>omega
    case bb5=>first|omega|(simp;omega)
    intro g3 cap3 w3' hown3 hgrow hat hlt
    have HV6:Hid (w3'.ownsRow w.heap.size 62 14 (.slice (some ⟨g3,0,none⟩) (i+1) cap3) (i+1) (codeC (ms.take (i+1)))):=by
     show World.ownsRow _ _ _ _ _ _ _
     rw [HXO.out]
     exact hown3
    have HK6:Hid (Nw w w3'):=((HK.out.trans HKY.out).alloc _).grown hgrow (fun b hb=>Or.inl (HV5.out.lt b hb).1)
    clear hown3 hgrow hat
    go_wp2
    go_roundg (l.length - (i+1))
    case measure=>rw [HM.out];omega
    case rel=>exact ⟨i+1,by simp,rfl,by omega,HV6.out,HK6.out⟩
   by_cases h5:x.op=5
   ·have hw1:IntKind.i64.wrap (x.a+(d:Int))=x.a+(d:Int):=IntWalk.i64_in _ (by have:=HXA.out (Or.inr h5);omega)
    have hw2:IntKind.i64.wrap (x.b+(d:Int))=x.b+(d:Int):=IntWalk.i64_in _ (by have:=HXB.out h5;omega)
    have HRY0:Hid (((wb.setCell ⟨BB,1,none⟩ (.int .i64 (x.a+(d:Int)))).setCell ⟨BB,2,none⟩ (.int .i64 (x.b+(d:Int)))).rangeAt BB 0 (insC (shI d x))):=by
     have:=((HBX.out.set 1 (.int .i64 (x.a+(d:Int)))).set 2 (.int .i64 (x.b+(d:Int)))).r
     have e:((insC x).set 1 (.int .i64 (x.a+(d:Int)))).set 2 (.int .i64 (x.b+(d:Int)))=insC (shI d x):=by simp [insC,shI,h5]
     rw [e] at this
     exact this
    have HKY:Hid (Nw wr ((wb.setCell ⟨BB,1,none⟩ (.int .i64 (x.a+(d:Int)))).setCell ⟨BB,2,none⟩ (.int .i64 (x.b+(d:Int))))):=(HKX.out.setCell (p:=⟨BB,1,none⟩) (Or.inl (by rw [HBB.out];exact Nat.le_refl _)) _).setCell (p:=⟨BB,2,none⟩) (Or.inl (by rw [HBB.out];exact Nat.le_refl _)) _
    have HV5:Hid (((wb.setCell ⟨BB,1,none⟩ (.int .i64 (x.a+(d:Int)))).setCell ⟨BB,2,none⟩ (.int .i64 (x.b+(d:Int)))).ownsRow w.heap.size 62 14 (.slice vp i vc) i (codeC (ms.take i))):=owns_kp HV.out HKY.out (fun _ _ h=>h)
    obtain ⟨wz,hWE⟩:∃wz,((wb.setCell ⟨BB,1,none⟩ (.int .i64 (x.a+(d:Int)))).setCell ⟨BB,2,none⟩ (.int .i64 (x.b+(d:Int))))=wz:=⟨_,rfl⟩
    rw [hWE] at HRY0 HKY HV5
    have HWE:Hid (((wb.setCell ⟨BB,1,none⟩ (.int .i64 (x.a+(d:Int)))).setCell ⟨BB,2,none⟩ (.int .i64 (x.b+(d:Int))))=wz):=hWE
    clear hWE
    have HXO:Hid (codeC (ms.take (i+1))=codeC (ms.take i)++insC (shI d x)):=by
     show _=_
     rw [List.take_add_one,HX.out,Option.toList_some,codeC_append]
     simp [codeC]
    generalize hY:shI d x=Y at *
    clear hY
    obtain ⟨yo,ya,yb,⟨⟨l0,l1,l2⟩,yr,⟨r0,r1,r2⟩,yt,⟨m0,m1,m2⟩⟩⟩:=Y
    have HRY:Hid (wz.rangeAt BB 0 [.int .i64 yo,.int .i64 ya,.int .i64 yb,.int .i64 l0,.int .i64 l1,.int .i64 l2,.int .i64 yr,.int .i64 r0,.int .i64 r1,.int .i64 r2,.int .i64 yt,.int .i64 m0,.int .i64 m1,.int .i64 m2]):=HRY0.out
    have HSIY:Hid ((Tryz.prog.info? 62).map (·.size)=some ([.int .i64 yo,.int .i64 ya,.int .i64 yb,.int .i64 l0,.int .i64 l1,.int .i64 l2,.int .i64 yr,.int .i64 r0,.int .i64 r1,.int .i64 r2,.int .i64 yt,.int .i64 m0,.int .i64 m1,.int .i64 m2]:List Value).length):=Tryz.sizeIn
    clear HRY0
    have hszW:BB≤wz.heap.size:=by have:=HKY.out.size;have:=HBB.out;omega
    go_wp2_with (first|(with_reducible (show Go.wpList _ _ _ ({ dst:=_,op:=Op.load 62 _,type:=_,pos:=_,after:=_,guard:=_ }::_) _ _);refine wpList_load_mid rfl 62 _ rfl g (i*14) rfl (insC x) dm HRX.out HMU.out HMD.out HSIZ.out ?_)|(with_reducible (show Go.wpList _ _ _ ({ dst:=_,op:=Op.load 62 _,type:=_,pos:=_,after:=_,guard:=_ }::_) _ _);(try rw [HWE.out]);refine wpList_load_mid rfl 62 _ rfl BB (0) rfl [.int .i64 yo,.int .i64 ya,.int .i64 yb,.int .i64 l0,.int .i64 l1,.int .i64 l2,.int .i64 yr,.int .i64 r0,.int .i64 r1,.int .i64 r2,.int .i64 yt,.int .i64 m0,.int .i64 m1,.int .i64 m2] dm HRY.out HMU.out HMD.out HSIY.out ?_)|(with_reducible (show Go.wpList _ _ _ ({ dst:=_,op:=Op.store 62 _ _,type:=_,pos:=_,after:=_,guard:=_ }::_) _ _);refine wpList_store_mid rfl 62 _ _ rfl BB 0 (insC x).toArray rfl rfl HT0.out (size_insS x) (all_oneCell_toArray (oneCellsI x)) ?_;rw [HWX.out])|(at_builtin;refine wpList_append_lies _ rfl _ _ 53 rfl w.heap.size 62 i0 (.agg #[.int .i64 0,.int .i64 0,.int .i64 0,.int .i64 0,.int .i64 0,.int .i64 0,.int .i64 0,.int .i64 0,.int .i64 0,.int .i64 0,.int .i64 0,.int .i64 0,.int .i64 0,.int .i64 0]) 14 112 Tryz.underlying53 hi0 hz0 hz1 hz2 rfl (by decide) _ _ _ rfl (HV5.out.alloc _) ⟨wz.heap.size,0,none⟩ 1 1 [.int .i64 yo,.int .i64 ya,.int .i64 yb,.int .i64 l0,.int .i64 l1,.int .i64 l2,.int .i64 yr,.int .i64 r0,.int .i64 r1,.int .i64 r2,.int .i64 yt,.int .i64 m0,.int .i64 m1,.int .i64 m2] rfl rfl ?cc1 ?cc2 (by decide) ?cc3 ?cc4 ?cc5 _ rfl ?_)|fail)
    try (case cc1=>exact news_one _ rfl _ _)
    try (case cc2=>exact oneCellsI ⟨yo,ya,yb,⟨⟨l0,l1,l2⟩,yr,⟨r0,r1,r2⟩,yt,⟨m0,m1,m2⟩⟩⟩)
    try (case cc2=>exact ⟨rfl,rfl,rfl,rfl,rfl,rfl,rfl,rfl,rfl,rfl,rfl,rfl,rfl,rfl⟩)
    case cc3=>unfold maxLen;omega
    case cc4=>omega
    case cc5=>first|omega|(simp;omega)
    intro g3 cap3 w3' hown3 hgrow hat hlt
    have HV6:Hid (w3'.ownsRow w.heap.size 62 14 (.slice (some ⟨g3,0,none⟩) (i+1) cap3) (i+1) (codeC (ms.take (i+1)))):=by
     show World.ownsRow _ _ _ _ _ _ _
     rw [HXO.out]
     exact hown3
    have HK6:Hid (Nw w w3'):=((HK.out.trans HKY.out).alloc _).grown hgrow (fun b hb=>Or.inl (HV5.out.lt b hb).1)
    clear hown3 hgrow hat
    go_wp2
    go_roundg (l.length - (i+1))
    case measure=>rw [HM.out];omega
    case rel=>exact ⟨i+1,by simp,rfl,by omega,HV6.out,HK6.out⟩
   have hb4:(x.op == 4)=false:=by simp [h4]
   have hb5:(x.op == 5)=false:=by simp [h5]
   have HRY0:Hid (wb.rangeAt BB 0 (insC (shI d x))):=by
    have:=HBX.out.r
    have e:insC x=insC (shI d x):=by simp [insC,shI,h4,h5]
    rw [e] at this
    exact this
   have HKY:Hid (Nw wr wb):=HKX.out
   have HV5:Hid (wb.ownsRow w.heap.size 62 14 (.slice vp i vc) i (codeC (ms.take i))):=owns_kp HV.out HKY.out (fun _ _ h=>h)
   have HXO:Hid (codeC (ms.take (i+1))=codeC (ms.take i)++insC (shI d x)):=by
    show _=_
    rw [List.take_add_one,HX.out,Option.toList_some,codeC_append]
    simp [codeC]
   generalize hY:shI d x=Y at *
   clear hY
   obtain ⟨yo,ya,yb,⟨⟨l0,l1,l2⟩,yr,⟨r0,r1,r2⟩,yt,⟨m0,m1,m2⟩⟩⟩:=Y
   have HRY:Hid (wb.rangeAt BB 0 [.int .i64 yo,.int .i64 ya,.int .i64 yb,.int .i64 l0,.int .i64 l1,.int .i64 l2,.int .i64 yr,.int .i64 r0,.int .i64 r1,.int .i64 r2,.int .i64 yt,.int .i64 m0,.int .i64 m1,.int .i64 m2]):=HRY0.out
   have HSIY:Hid ((Tryz.prog.info? 62).map (·.size)=some ([.int .i64 yo,.int .i64 ya,.int .i64 yb,.int .i64 l0,.int .i64 l1,.int .i64 l2,.int .i64 yr,.int .i64 r0,.int .i64 r1,.int .i64 r2,.int .i64 yt,.int .i64 m0,.int .i64 m1,.int .i64 m2]:List Value).length):=Tryz.sizeIn
   clear HRY0
   have hszW:BB≤wb.heap.size:=by have:=HKY.out.size;have:=HBB.out;omega
   go_wp2_with (first|(with_reducible (show Go.wpList _ _ _ ({ dst:=_,op:=Op.load 62 _,type:=_,pos:=_,after:=_,guard:=_ }::_) _ _);refine wpList_load_mid rfl 62 _ rfl g (i*14) rfl (insC x) dm HRX.out HMU.out HMD.out HSIZ.out ?_)|(with_reducible (show Go.wpList _ _ _ ({ dst:=_,op:=Op.load 62 _,type:=_,pos:=_,after:=_,guard:=_ }::_) _ _);(try rw [HWE.out]);refine wpList_load_mid rfl 62 _ rfl BB (0) rfl [.int .i64 yo,.int .i64 ya,.int .i64 yb,.int .i64 l0,.int .i64 l1,.int .i64 l2,.int .i64 yr,.int .i64 r0,.int .i64 r1,.int .i64 r2,.int .i64 yt,.int .i64 m0,.int .i64 m1,.int .i64 m2] dm HRY.out HMU.out HMD.out HSIY.out ?_)|(with_reducible (show Go.wpList _ _ _ ({ dst:=_,op:=Op.store 62 _ _,type:=_,pos:=_,after:=_,guard:=_ }::_) _ _);refine wpList_store_mid rfl 62 _ _ rfl BB 0 (insC x).toArray rfl rfl HT0.out (size_insS x) (all_oneCell_toArray (oneCellsI x)) ?_;rw [HWX.out])|(at_builtin;refine wpList_append_lies _ rfl _ _ 53 rfl w.heap.size 62 i0 (.agg #[.int .i64 0,.int .i64 0,.int .i64 0,.int .i64 0,.int .i64 0,.int .i64 0,.int .i64 0,.int .i64 0,.int .i64 0,.int .i64 0,.int .i64 0,.int .i64 0,.int .i64 0,.int .i64 0]) 14 112 Tryz.underlying53 hi0 hz0 hz1 hz2 rfl (by decide) _ _ _ rfl (HV5.out.alloc _) ⟨wb.heap.size,0,none⟩ 1 1 [.int .i64 yo,.int .i64 ya,.int .i64 yb,.int .i64 l0,.int .i64 l1,.int .i64 l2,.int .i64 yr,.int .i64 r0,.int .i64 r1,.int .i64 r2,.int .i64 yt,.int .i64 m0,.int .i64 m1,.int .i64 m2] rfl rfl ?dd1 ?dd2 (by decide) ?dd3 ?dd4 ?dd5 _ rfl ?_)|fail)
   try (case dd1=>exact news_one _ rfl _ _)
   try (case dd2=>exact oneCellsI ⟨yo,ya,yb,⟨⟨l0,l1,l2⟩,yr,⟨r0,r1,r2⟩,yt,⟨m0,m1,m2⟩⟩⟩)
   try (case dd2=>exact ⟨rfl,rfl,rfl,rfl,rfl,rfl,rfl,rfl,rfl,rfl,rfl,rfl,rfl,rfl⟩)
   case dd3=>unfold maxLen;omega
   case dd4=>omega
   case dd5=>first|omega|(simp;omega)
   intro g3 cap3 w3' hown3 hgrow hat hlt
   have HV6:Hid (w3'.ownsRow w.heap.size 62 14 (.slice (some ⟨g3,0,none⟩) (i+1) cap3) (i+1) (codeC (ms.take (i+1)))):=by
    show World.ownsRow _ _ _ _ _ _ _
    rw [HXO.out]
    exact hown3
   have HK6:Hid (Nw w w3'):=((HK.out.trans HKY.out).alloc _).grown hgrow (fun b hb=>Or.inl (HV5.out.lt b hb).1)
   clear hown3 hgrow hat
   go_wp2
   go_roundg (l.length - (i+1))
   case measure=>rw [HM.out];omega
   case rel=>exact ⟨i+1,by simp,rfl,by omega,HV6.out,HK6.out⟩
  ·have hii:¬(i:Int)<l.length:=by omega
   have ei:i=l.length:=by omega
   subst ei
   have HV7:Hid (wr.ownsRow w.heap.size 62 14 (.slice vp l.length vc) ms.length (codeC ms)):=by
    have:=HV.out
    have e2:ms.take l.length=ms:=List.take_of_length_le (by rw [HML.out];omega)
    rw [e2] at this
    show World.ownsRow _ _ _ _ _ _ _
    rw [HML.out];exact this
   clear HV
   go_wp2
   go_ret
   exact ⟨.slice vp l.length vc,rfl,HV7.out,HK.out⟩
theorem mtsC_get0 (l:List Mt):∀(i j:Nat) (x:Mt),l[i]? = some x→j<6→(mtsC l)[i*6+j]? = (mtC x)[j]?:=by
 induction l with
 | nil=>intro i j x h;simp at h
 | cons y r ih =>
  intro i j x h hj
  have e:mtsC (y::r)=mtC y++mtsC r:=by simp [mtsC]
  have hl:(mtC y).length=6:=rfl
  rw [e]
  cases i with
  | zero=>simp at h;subst h;rw [List.getElem?_append_left (by omega)];simp
  | succ i =>
   simp at h
   rw [List.getElem?_append_right (by omega),hl]
   have:(i+1)*6+j - 6=i*6+j:=by omega
   rw [this];exact ih i j x h hj
theorem mts_of0 {w:World} {base:Nat} {mp:Option Addr} {mc:Nat} {l:List Mt} (h:w.ownsRow base 36 6 (.slice mp l.length mc) l.length (mtsC l)):MtsP w mp l:=by
 intro hne
 obtain ⟨g,c',e⟩:=owns_some h (List.length_pos_iff.2 hne)
 simp only [Value.slice.injEq,true_and] at e
 obtain ⟨rfl,rfl⟩:=e
 refine ⟨g,rfl,(h.lt g rfl).2,?_⟩
 intro i x hx j v hv
 have hj:j<6:=by have:=(List.getElem?_eq_some_iff.1 hv).1;simpa [mtC] using this
 exact owns_cell h (i*6+j) (by rw [mtsC_get0 l i j x hx hj];exact hv)
theorem sameAll_same (p p':Option Addr) (cap cap' B B':Nat) (hs hs':List (Value×List Mt)) (w:World) (hm:Mds w B (.slice p hs.length cap) hs) (hm':Mds w B' (.slice p' hs.length cap') hs') (he:hs.map (·.2)=hs'.map (·.2)) (hL:hs.length≤1000) (hok:∀x∈hs,x.2.length≤1000∧∀m∈x.2,MtOk m) :
  Calls Tryz.prog 13 #[.slice p hs.length cap,.slice p' hs.length cap'] w fun e w'=>e=.returned (.bool true)∧Nw w w':=by
 have hll:hs.length=hs'.length:=by have:=congrArg List.length he;simpa using this
 have HM:Hid (Mds w B (.slice p hs.length cap) hs):=hm
 have HM':Hid (Mds w B' (.slice p' hs.length cap') hs'):=hm'
 have HE:Hid (hs.map (·.2)=hs'.map (·.2)):=he
 have HLL:Hid (hs.length=hs'.length):=hll
 have HOK:Hid (∀x∈hs,x.2.length≤1000∧∀m∈x.2,MtOk m):=hok
 clear hm hm' he hok hll
 go_enter Tryz.func13,Tryz.ntmps13
 go_wp2
 go_loopg [5] hs.length (fun m v5 wr=>∃i:Nat,v5=.int .i64 i∧m=hs.length - i∧i≤hs.length∧Nw w wr)
 case atStart=>exact ⟨0,rfl,rfl,by omega,Kp.refl _ _⟩
 case round =>
  obtain ⟨i,rfl,hmm,hil,hN⟩:=hrel
  have HMM:Hid (_=hs.length - i):=hmm
  have HN:Hid (Nw w wr):=hN
  clear hmm
  by_cases hi:i<hs.length
  ·obtain ⟨x,hx⟩:∃x,hs[i]? = some x:=⟨hs[i],by simp [hi]⟩
   obtain ⟨x',hx'⟩:∃x',hs'[i]? = some x':=⟨hs'[i]'(by rw [←HLL.out];exact hi),by simp [←HLL.out,hi]⟩
   obtain ⟨mv,ml⟩:=x
   obtain ⟨mv',ml'⟩:=x'
   have hml:ml'=ml:=by
    have h1:(hs.map (·.2))[i]? = some ml:=by simp [hx]
    rw [HE.out] at h1
    simp [hx'] at h1
    exact h1
   subst hml
   have hme:=HM.out.each _ (List.mem_of_getElem? hx)
   have hme':=HM'.out.each _ (List.mem_of_getElem? hx')
   simp only at hme hme'
   obtain ⟨mp,mc,e2⟩:=ownsLenX hme
   obtain ⟨mp',mc',e2'⟩:=ownsLenX hme'
   subst e2
   subst e2'
   have hrow:=HM.out.row
   have hrow':=HM'.out.row
   obtain ⟨ga,ca,e3⟩:=owns_some hrow (by omega)
   rw [←HLL.out] at hrow'
   obtain ⟨gb,cb,e3'⟩:=owns_some hrow' (by omega)
   simp only [Value.slice.injEq,true_and] at e3 e3'
   obtain ⟨rfl,rfl⟩:=e3
   obtain ⟨rfl,rfl⟩:=e3'
   have HCA:Hid (∀W,Nw wr W→W.cell? ⟨ga,i,none⟩=some (.slice mp ml'.length mc)):=by
    intro W kW
    exact owns_cell (owns_kp hrow (HN.out.trans kW) (fun _ _ h=>h)) i (by simp [hx])
   have HCB:Hid (∀W,Nw wr W→W.cell? ⟨gb,i,none⟩=some (.slice mp' ml'.length mc')):=by
    intro W kW
    exact owns_cell (owns_kp hrow' (HN.out.trans kW) (fun _ _ h=>h)) i (by simp [hx'])
   obtain ⟨hok1,hok2⟩:=HOK.out _ (List.mem_of_getElem? hx)
   simp only at hok1 hok2
   have HSM:Hid (∀W,Nw wr W→Calls Tryz.prog 17 #[.slice mp ml'.length mc,.slice mp' ml'.length mc'] W fun e w'=>e=.returned (.bool true)∧Nw W w'):=fun W kW =>
    sameM_same mp mp' mc mc' ml' W (mts_of0 (owns_kp hme (HN.out.trans kW) (fun _ _ h=>h))) (mts_of0 (owns_kp hme' (HN.out.trans kW) (fun _ _ h=>h))) (by omega) hok2
   clear hme hme' hrow hrow' hx hx' hok1 hok2 hN
   have hii:(i:Int)<hs.length:=by omega
   have hz:0≤(i:Int):=by omega
   go_wp2
   refine wp_region_held_drew (S:=fun W=>Nw wr W) (by kernel_rfl) ((Kp.refl _ _).drew) (fun hHeld => ?_)
   refine tM 0 rfl (fun W hSW=>by (try dsimp only at hSW);go_simp;rw []) hHeld ?_
   refine tM 1 rfl (fun W hSW=>by (try dsimp only at hSW);go_simp;rw []) hHeld ?_
   refine tM 2 rfl (fun W hSW=>by (try dsimp only at hSW);go_simp;rw []) hHeld ?_
   refine tM 3 rfl (fun W hSW=>by (try dsimp only at hSW);have hq:=HCA.out W hSW;go_simp;rw []) hHeld ?_
   refine tM 4 rfl (fun W hSW=>by (try dsimp only at hSW);go_simp;rw []) hHeld ?_
   refine tM 5 rfl (fun W hSW=>by (try dsimp only at hSW);go_simp;rw []) hHeld ?_
   refine tM 6 rfl (fun W hSW=>by (try dsimp only at hSW);go_simp;rw []) hHeld ?_
   refine tM 7 rfl (fun W hSW=>by (try dsimp only at hSW);have hq:=HCB.out W hSW;go_simp;rw []) hHeld ?_
   refine wpAnyH_ready (rs:=[8]) (by kernel_rfl) (by simp) ?_
   refine consL rfl (fun K hK => ?_) AllReadyH.nil
   go_simp
   refine (HSM.out _ ((Kp.refl _ _).drew)).mono ?_
   rintro e2 w2 ⟨rfl,k2⟩
   have k8:Nw wr w2:=((Kp.refl _ _).drew).trans k2
   try dsimp only
   refine hK.out _ _ k8 (fun _ => ?_)
   clear hK K
   try simp only [Act.put,sA,sZ,sS]
   refine tM 9 rfl (fun W hSW=>by (try dsimp only at hSW);go_simp;rw []) k8 ?_
   refine wpAnyH_done (by kernel_rfl) ?_ _
   have K8:Hid (Nw w w2):=HN.out.trans k8
   clear k8 k2 HSM HCA HCB
   go_wp2
   go_roundg (hs.length - (i+1))
   case measure=>rw [HMM.out];omega
   case rel=>exact ⟨i+1,by simp,rfl,by omega,K8.out⟩
  ·have hii:¬(i:Int)<hs.length:=by omega
   go_wp2
   go_ret
   exact ⟨rfl,HN.out⟩
end Go.Proofs.YtcboiapggnmpfabGreat
