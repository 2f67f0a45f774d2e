import Derived.Test.YtcboiapggnmpfabGreatQaf
import Derived.Test.YtcboiapggnmpfabGreatRows
import Derived.JoinedOf
import Derived.KernelRfl
namespace Go.Proofs.YtcboiapggnmpfabGreat
set_option maxRecDepth 100000
set_option maxHeartbeats 1000000
set_option linter.unusedSimpArgs false
set_option linter.unusedVariables false
open Go.RowKit
theorem ends_not (x:In):(!(decide (x.op=4)||decide (x.op=5)||decide (x.op=6))) = !endsB x:=rfl
theorem firstNoneP_any (p:Option Addr) (cap:Nat) (l:List In) (w:World) (hp:CodeP w p l) (hn:l.length≤1000) :
  Calls Tryz.prog 55 #[.slice p l.length cap] w fun e w'=>e=.returned (.int .i64 (firstNone l))∧Nw w w':=by
 go_enter Tryz.func55,Tryz.ntmps55
 go_wp2
 go_loopg [3] l.length (fun m v3 wr=>∃i:Nat,v3=.int .i64 i∧m=l.length - i∧i≤l.length∧noneFrom l.length i (l.drop i)=firstNone l∧CodeP wr p l∧Nw w wr)
 case atStart=>exact ⟨0,rfl,rfl,by omega,rfl,hp,Kp.refl _ _⟩
 case round =>
  obtain ⟨i,rfl,hm',hi,hfn,hcp,hnw⟩:=hrel
  by_cases hi':i<l.length
  ·obtain ⟨x,hx⟩:∃x,l[i]? = some x:=⟨l[i],by simp [hi']⟩
   obtain ⟨g,rfl,hcr⟩:=hcp (by intro e;rw [e] at hx;simp at hx)
   obtain ⟨c0,c1,c2,c3,c4,c5,c6,c7,c8,c9,c10,c11,c12,c13⟩:=(hcr.ins i x hx).cells
   rw [drop_cons hx] at hfn
   have HP:Hid (CodeP wr (some ⟨g,0,none⟩) l):=hcp
   generalize hT:insIsB x (l.length:Int)=T
   go_wp2_with fail
   refine (isInsP_any x l.length wr (by omega) (by omega)).mono ?_
   rw [hT]
   rintro e w2 ⟨rfl,k2⟩
   have HC:Hid (CodeP w2 (some ⟨g,0,none⟩) l):=HP.out.nw k2
   have HK:Hid (Nw w w2):=hnw.trans k2
   have HF:Hid (noneFrom l.length i (x::l.drop (i+1))=firstNone l):=hfn
   have HT:Hid (insIsB x (l.length:Int)=T):=hT
   have d0:w2.cell? ⟨g,i*14,none⟩=some (.int .i64 x.op):=(k2.cell (p:=⟨g,i*14,none⟩) hcr.lt (fun h=>h)).trans c0
   clear c0 c1 c2 c3 c4 c5 c6 c7 c8 c9 c10 c11 c12 c13 hcr hnw k2 hfn hT hcp HP
   cases T with
   | false =>
    have hstop:Hid (firstNone l=i):=by
     show _=_
     rw [←HF.out];exact noneFrom_stop (by rw [HT.out];simp)
    go_wp2
    go_ret
    exact ⟨by rw [hstop.out];rfl,HK.out⟩
   | true =>
    by_cases hlast:i+1=l.length
    ·have hl1:((i:Int) == (l.length:Int) - 1)=true:=by simp;omega
     generalize hE:endsB x=E
     cases E with
     | true =>
      have hgo:Hid (noneFrom l.length (i+1) (l.drop (i+1))=firstNone l):=by
       show _=_
       rw [←HF.out];exact (noneFrom_step HT.out (fun _=>hE)).symm
      go_wp2_with (go_at_call 86;refine (goesOnBehind_any x.op _).mono ?_;rw [ends_not,hE];rintro e1 w3 ⟨rfl,rfl⟩)
      go_roundg (l.length - (i+1))
      case measure=>omega
      case rel=>exact ⟨i+1,by simp,rfl,by omega,hgo.out,HC.out,HK.out⟩
     | false =>
      have hstop:Hid (firstNone l=i):=by
       show _=_
       rw [←HF.out];exact noneFrom_stop (fun h=>by have:=h.2 hlast;rw [hE] at this;cases this)
      go_wp2_with (go_at_call 86;refine (goesOnBehind_any x.op _).mono ?_;rw [ends_not,hE];rintro e1 w3 ⟨rfl,rfl⟩)
      go_ret
      exact ⟨by rw [hstop.out];rfl,HK.out⟩
    ·have hl1:((i:Int) == (l.length:Int) - 1)=false:=eqb_false (by omega)
     have hgo:Hid (noneFrom l.length (i+1) (l.drop (i+1))=firstNone l):=by
      show _=_
      rw [←HF.out];exact (noneFrom_step HT.out (fun e=>absurd e hlast)).symm
     go_wp2
     go_roundg (l.length - (i+1))
     case measure=>omega
     case rel=>exact ⟨i+1,by simp,rfl,by omega,hgo.out,HC.out,HK.out⟩
  ·have hfull:firstNone l=l.length:=by
    rw [←hfn,List.drop_eq_nil_of_le (by omega)]
    simp [noneFrom];omega
   go_wp2
   go_ret
   exact ⟨by rw [hfull];rfl,hnw⟩
theorem firstOnRoundP_any (g cap:Nat) (l:List In) (w:World) (hc:Code' w g l) (hA:AllIns l) (hn:l.length≤1000) :
  Calls Tryz.prog 56 #[.slice (some ⟨g,0,none⟩) l.length cap] w fun e w'=>∃k:Nat,e=.returned (.int .i64 k)∧RndFrom l 0 k∧Nw w w':=by
 go_enter Tryz.func56,Tryz.ntmps56
 go_wp2
 go_loopg [3] l.length (fun m v3 wr=>∃i:Nat,v3=.int .i64 i∧m=l.length - i∧i≤l.length∧(∀j,j<i→¬Rch l false j j)∧Code' wr g l∧Nw w wr)
 case atStart=>exact ⟨0,rfl,rfl,by omega,(fun j hj=>by omega),hc,Kp.refl _ _⟩
 case round =>
  obtain ⟨k,rfl,hm2,hk,hno,hcr,hnw⟩:=hrel
  have HN:Hid (∀j,j<k→¬Rch l false j j):=hno
  clear hno
  by_cases hk':k<l.length
  ·go_wp2_with fail
   refine (comesBack_any g cap k l wr hcr hA hk' hn).mono ?_
   rintro e w2 ⟨b,rfl,hb,k2⟩
   have HC2:Hid (Code' w2 g l):=hcr.kp k2 (fun h=>h)
   have HK2:Hid (Nw w w2):=hnw.trans k2
   have HB:Hid (b=true↔Rch l false k k):=hb
   clear hb hcr hnw k2
   cases b with
   | true =>
    go_wp2
    go_ret
    exact ⟨k,rfl,rnd_from HN.out hk' (HB.out.1 (by simp)),HK2.out⟩
   | false =>
    go_wp2
    go_roundg (l.length - (k+1))
    case measure=>omega
    case rel =>
     refine ⟨k+1,by simp,rfl,by omega,?_,HC2.out,HK2.out⟩
     intro j hj
     by_cases e:j=k
     ·subst e
      intro hr
      have:=HB.out.2 hr
      simp at this
     ·exact HN.out j (by omega)
  ·go_wp2
   go_ret
   have e:k=l.length:=by omega
   have hno:=HN.out
   rw [e] at hno
   exact ⟨l.length,rfl,rnd_none hno,hnw⟩
theorem validP_any (p:Option Addr) (cap:Nat) (l:List In) (w:World) (hp:CodeP w p l) (hm:l.length≤maxLen) :
  Calls Tryz.prog 39 #[.slice p l.length cap] w (ValidPost w l):=by
 unfold maxLen at hm
 by_cases hbig:1000<l.length
 ·go_enter Tryz.func39,Tryz.ntmps39
  go_wp2
  go_ret2
  exact ⟨5,0,rfl,Or.inl ⟨hbig,rfl,rfl⟩,Kp.refl _ _⟩
 have hn:l.length≤1000:=by omega
 have hfl:=noneFrom_le l.length l 0
 have hfl2:firstNone l≤l.length:=by have:=hfl.2;simpa [firstNone] using this
 clear hfl
 go_enter Tryz.func39,Tryz.ntmps39
 go_wp2_with fail
 refine (firstNoneP_any p cap l w hp hn).mono ?_
 rintro e w2 ⟨rfl,k2⟩
 have HP:Hid (CodeP w2 p l):=hp.nw k2
 have HK:Hid (Nw w w2):=k2
 clear hp k2
 generalize hf:firstNone l=f at *
 by_cases hnil:l=[]
 ·subst hnil
  go_wp2
  go_ret2
  exact ⟨7,f,rfl,Or.inr (Or.inl ⟨by simp,Or.inl rfl,rfl,by rw [hf]⟩),HK.out⟩
 have hpos:0<l.length:=List.length_pos_iff.2 hnil
 have hz:((l.length:Int) == 0)=false:=eqb_false (by omega)
 by_cases hlt:f<l.length
 ·go_wp2
  go_ret2
  exact ⟨7,f,rfl,Or.inr (Or.inl ⟨hn,Or.inr (by rw [hf];exact hlt),rfl,by rw [hf]⟩),HK.out⟩
 have hff:firstNone l=l.length:=by omega
 obtain ⟨g,rfl,hcr⟩:=HP.out hnil
 go_wp2_with fail
 refine (firstOnRoundP_any g cap l w2 hcr (allIns_of hff) hn).mono ?_
 rintro e w3 ⟨k,rfl,hr,k3⟩
 have HR:Hid (RndFrom l 0 k):=hr
 have HK3:Hid (Nw w w3):=HK.out.trans k3
 have hkl:=hr.2.1
 clear hr k3 hcr
 by_cases hk:k<l.length
 ·go_wp2
  go_ret2
  exact ⟨8,k,rfl,Or.inr (Or.inr (Or.inl ⟨hn,hnil,hff,k,HR.out,hk,rfl,rfl⟩)),HK3.out⟩
 ·have e:k=l.length:=by omega
  go_wp2
  go_ret2
  have h1:=HR.out
  rw [e] at h1
  exact ⟨0,0,rfl,Or.inr (Or.inr (Or.inr ⟨hn,hnil,hff,h1,rfl,rfl⟩)),HK3.out⟩
theorem validS_any (p:Option Addr) (cap:Nat) (l:List In) (w:World) (hp:CodeP w p l) (hm:l.length≤maxLen) :
  Calls Tryz.prog 29 #[.slice p l.length cap] w (ValidPost w l):=by
 go_enter Tryz.func29,Tryz.ntmps29
 go_wp2_with fail
 refine (validP_any p cap l w hp hm).mono ?_
 rintro e w2 ⟨a,b,rfl,hv,k2⟩
 go_wp2
 go_ret2
 exact ⟨a,b,rfl,hv,k2⟩
open Value (bool)
theorem mk_first {n:Nat} (h:0<n):mkB (List.replicate n false) 0=(List.replicate n false).set 0 true∧mkQ (List.replicate n false) [] 0=[0]:=by
 have e:(List.replicate n false)[(0:Int).toNat]? = some false:=by simp [h]
 exact ⟨by rw [mkB,if_pos ⟨by omega,e⟩];rfl,by rw [mkQ,if_pos ⟨by omega,e⟩];rfl⟩
def MarksPost (w:World) (n:Nat) (P:Nat→Prop) (e:Ending) (w':World):Prop :=
 ∃bs:List Bool,e=.returned (.slice (some ⟨w.heap.size,0,none⟩) n n)∧Row w' w.heap.size 4 (bs.map bool)∧bs.length=n∧(∀j:Nat,bs[j]? = some true↔P j)∧Nw w w'
theorem reachedFromFirst_any (g cap:Nat) (l:List In) (w:World) (hc:Code' w g l) (hA:AllIns l) (hi:0<l.length) (hn:l.length≤1000) :
  Calls Tryz.prog 90 #[.slice (some ⟨g,0,none⟩) l.length cap] w (MarksPost w l.length (Frm l)):=by
 have hl:=hc.lt
 obtain ⟨i0,hi0,hz0,hz1,hz2⟩:=info_parts Tryz.info4
 go_enter Tryz.func90,Tryz.ntmps90
 go_wp2_with (first|(at_make;refine wpList_make_full _ rfl _ _ 172 rfl w.heap.size 4 i0 (.bool false) 1 Tryz.underlying172 hi0 hz0 hz1 _ _ _ _ l.length rfl rfl rfl rfl ?b1 ?b2 ?b3 ?_)|fail)
 case b1=>rw [hz2];omega
 case b2=>unfold maxLen;omega
 case b3=>exact Nat.le_refl _
 intro w1 hown1 hgrow1
 have R1:Hid (Row w1 w.heap.size 4 ((List.replicate l.length false).map bool)):=by
  have:=Row.of_full hown1
  rw [made_bools] at this
  exact this
 have K1:Hid (Nw w w1):=(Kp.refl _ w).grown hgrow1 (by intro k hk;cases hk)
 have hs1:=R1.out.lt
 have C1:Hid (Code' w1 g l):=hc.kp K1.out (fun h=>h)
 clear hown1 hgrow1
 have HW:Hid (∀T,WS (w1.alloc (.cells #[.slice (some ⟨g,0,none⟩) l.length cap,.slice (some ⟨w.heap.size,0,none⟩) l.length l.length,.slice none 0 0] T)) w1.heap.size g cap w.heap.size l (.slice none 0 0) (List.replicate l.length false) []):=by
  intro T
  refine ⟨?_,C1.out.kp ((Kp.refl (fun _=>False) w1).alloc _) (fun h=>h),R1.out.alloc _,World.ownsRow_nil _ _ _ _,by simp,by simp,hl,by omega,by simp [Value.ownBlock]⟩
  constructor <;> simp [go_sem,World.cell?_alloc_at,World.frozen?_alloc_at]
 have K2:Hid (∀ob,Nw w (w1.alloc ob)):=fun ob=>K1.out.alloc ob
 clear R1 K1 C1
 go_wp2_with fail
 refine (reachZ_any w1.heap.size g cap w.heap.size 0 l _ _ _ _ (HW.out _) (Or.inr ⟨0,rfl,hi⟩) hn).mono ?_
 rw [(mk_first hi).1,(mk_first hi).2]
 rintro e w2 ⟨rfl,ov2,hw2,k2⟩
 have H2:Hid (WS w2 w1.heap.size g cap w.heap.size l ov2 ((List.replicate l.length false).set 0 true) [0]):=hw2
 have K3:Hid (Nw w w2):=(K2.out _).trans' k2 (by intro b hb e;omega)
 have hcnt0:Hid ([0].length+((List.replicate l.length false).set 0 true).count false=l.length):=by
  have e:(List.replicate l.length false)[0]? = some false:=by simp [hi]
  have:=count_set e
  show _=_
  simp at this ⊢
  omega
 clear hw2 k2 HW K2
 go_wp2
 go_loopg [] l.length (fun m wr=>∃(ov:Value) (bs:List Bool) (q:List Nat) (done:Nat→Prop),m=q.length+bs.count false∧WS wr w1.heap.size g cap w.heap.size l ov bs q∧Srch2 l bs done q∧Nw w wr)
 case atStart=>exact ⟨ov2,_,[0],fun _=>False,hcnt0.out.symm,H2.out,Srch2.start hi,K3.out⟩
 case round =>
  obtain ⟨ov,bs,q,done,hm,hW,hS,hK⟩:=hrel
  have H:Hid (WS wr w1.heap.size g cap w.heap.size l ov bs q):=hW
  have HS:Hid (Srch2 l bs done q):=hS
  have HK:Hid (Nw w wr):=hK
  have HM:Hid (gk=q.length+bs.count false):=hm
  obtain ⟨⟨c0,c1,c2,fz⟩,hcode,hrow,hown,hlen,hcnt,hg,hR,hne⟩:=hW
  have hRl:w1.heap.size<wr.heap.size:=H.out.wk.lt
  clear hS hK hm hrow hcnt0 H2 K3
  by_cases hq:q=[]
  ·subst hq
   have hlen0:∃p cc,ov=.slice p 0 cc:=by
    rcases hown.2 with ⟨e,_⟩ | ⟨g',cap',cur,e,_⟩
    ·exact ⟨none,0,e⟩
    ·exact ⟨_,_,e⟩
   obtain ⟨p,cc,rfl⟩:=hlen0
   go_wp2
   go_ret
   exact ⟨bs,rfl,H.out.row,H.out.len,fun j=>HS.out.over j,HK.out⟩
  ·obtain ⟨q',x,rfl⟩:=snoc_of hq
   obtain ⟨go,cpo,rfl,hgo1,hgo2⟩:=hown.form (by simp)
   have hxl:x<l.length:=by
    have h1:=HS.out.seen x (by simp)
    have h2:=HS.out.len
    have:=(List.getElem?_eq_some_iff.1 h1).1
    omega
   obtain ⟨v,hv⟩:∃v,l[x]? = some v:=⟨l[x],by simp [hxl]⟩
   have cat:wr.cell? ⟨go,q'.length,none⟩=some (.int .i64 x):=owns_cell hown q'.length (by simp [intsV])
   have hRgo:¬go=w1.heap.size:=by simpa [Value.ownBlock] using hne
   have hRg:¬g=w1.heap.size:=by omega
   have hRg':¬w1.heap.size=g:=by omega
   have HV:Hid (l[x]? = some v):=hv
   have hql:q'.length≤1001:=by simp at hcnt;omega
   have hpo:¬cpo<q'.length:=by have:=owns_cap hown;simp at this;omega
   simp only [List.length_append,List.length_cons,List.length_nil] at c2
   clear hown hcode hv hne
   have kp:Kp (fun b=>b=w1.heap.size) wr (wr.setCell ⟨w1.heap.size,2,none⟩ (.slice (some ⟨go,0,none⟩) q'.length cpo)):=(Kp.refl (fun b=>b=w1.heap.size) wr).setCell (p:=⟨w1.heap.size,2,none⟩) (Or.inr rfl) _
   have HW2:Hid (WS (wr.setCell ⟨w1.heap.size,2,none⟩ (.slice (some ⟨go,0,none⟩) q'.length cpo)) w1.heap.size g cap w.heap.size l (.slice (some ⟨go,0,none⟩) q'.length cpo) bs q'):=by
    refine ⟨H.out.wk.set2 _,H.out.code.kp kp hRg,H.out.row.kp kp (by omega),?_,hlen,by simp at hcnt;omega,hg,hR,by simpa [Value.ownBlock] using hRgo⟩
    have ho:=H.out.own
    have e2:intsV (q'++[x])=intsV q'++[.int .i64 (x:Int)]:=by simp [intsV]
    rw [e2] at ho
    simp only [List.length_append,List.length_cons,List.length_nil] at ho
    exact owns_kp (owns_pop ho) kp (by intro b hb e;simp [Value.ownBlock] at hb;omega)
   have HK2:Hid (Nw w (wr.setCell ⟨w1.heap.size,2,none⟩ (.slice (some ⟨go,0,none⟩) q'.length cpo))):=HK.out.setCell (p:=⟨w1.heap.size,2,none⟩) (Or.inl (by show w.heap.size≤w1.heap.size;omega)) _
   have HM2:Hid (gk=q'.length+1+bs.count false):=by
    show _=_
    rw [HM.out];simp
   clear kp HM
   go_wp2_with fail
   refine (leave_any w1.heap.size g cap w.heap.size l _ bs q' x v _ HW2.out HV.out hA hn).mono ?_
   rintro e w3 ⟨rfl,ov3,hw3,k3⟩
   have hcnt2:Hid ((mkQ (mkB bs (nx1 v x)) (mkQ bs q' (nx1 v x)) (nx2 v x)).length+(mkB (mkB bs (nx1 v x)) (nx2 v x)).count false=q'.length+bs.count false):=by
    show _=_
    rw [mk_cnt,mk_cnt]
   have HS2:Hid (Srch2 l _ (fun y=>done y∨y=x) _):=HS.out.both hA HV.out
   generalize mkB (mkB bs (nx1 v x)) (nx2 v x)=bs2 at *
   generalize mkQ (mkB bs (nx1 v x)) (mkQ bs q' (nx1 v x)) (nx2 v x)=q2 at *
   have H3:Hid (WS w3 w1.heap.size g cap w.heap.size l ov3 bs2 q2):=hw3
   have HK3:Hid (Nw w w3):=HK2.out.trans' k3 (by intro b hb e;omega)
   clear hw3 k3 cat c0 c1 c2 fz
   go_wp2
   go_roundg (q2.length+bs2.count false)
   case measure=>have:=hcnt2.out;rw [HM2.out];omega
   case rel=>exact ⟨ov3,bs2,q2,_,rfl,H3.out,HS2.out,HK3.out⟩
def setB (bs:List Bool) (z:Int):Bool:=decide (0≤z)&&decide (bs[z.toNat]? = some true)
theorem isSet_any (gl cap:Nat) (bs:List Bool) (z:Int) (w:World) (hr:Row w gl 4 (bs.map bool)) (hn:bs.length≤1000) :
  Calls Tryz.prog 122 #[.slice (some ⟨gl,0,none⟩) bs.length cap,.int .i64 z] w fun e w'=>e=.returned (.bool (setB bs z))∧w'=w:=by
 by_cases h0:z<0
 ·have e:setB bs z=false:=by simp [setB];omega
  rw [e]
  go_enter Tryz.func122,Tryz.ntmps122
  go_wp2
  go_ret
  exact ⟨rfl,rfl⟩
 ·obtain ⟨j,rfl⟩:∃j:Nat,z=j:=⟨z.toNat,by omega⟩
  by_cases hj:j<bs.length
  ·obtain ⟨b,hb⟩:∃b,bs[j]? = some b:=⟨bs[j],by simp [hj]⟩
   have e:setB bs (j:Int)=b:=by simp [setB,hb]
   rw [e]
   have c:w.cell? ⟨gl,j,none⟩=some (.bool b):=by rw [hr.cell];simp [hb]
   clear hr hb e
   go_enter Tryz.func122,Tryz.ntmps122
   go_wp2
   go_ret
   exact ⟨rfl,rfl⟩
  ·have e:setB bs (j:Int)=false:=by simp [setB,List.getElem?_eq_none (Nat.le_of_not_lt hj)]
   rw [e]
   go_enter Tryz.func122,Tryz.ntmps122
   go_wp2
   go_ret
   exact ⟨rfl,rfl⟩
theorem ldB_eq (x:In) (i:Nat) (bs:List Bool):ldB x i bs=(decide (x.op=6)||setB bs (nx1 x i)||setB bs (nx2 x i)):=rfl
theorem leadsOn_any (x:In) (i gl cap:Nat) (bs:List Bool) (w:World) (hr:Row w gl 4 (bs.map bool)) (hn:bs.length≤1000) (hi:i≤1000) :
  Calls Tryz.prog 111 #[insV x,.int .i64 i,.slice (some ⟨gl,0,none⟩) bs.length cap] w fun e w'=>e=.returned (.bool (ldB x i bs))∧Nw w w':=by
 rw [ldB_eq]
 have HR:Hid (Row w gl 4 (bs.map bool)):=hr
 clear hr
 generalize hq:decide (x.op=6)=q6
 have HQ:Hid (decide (x.op=6)=q6):=hq
 have hq2:(x.op == 6)=q6:=by
  rw [←hq];rfl
 clear hq
 generalize h1':nx1 x i=n1
 generalize h2':nx2 x i=n2
 generalize h1:setB bs n1=s1
 generalize h2:setB bs n2=s2
 have N1:Hid (nx1 x i=n1):=h1'
 have N2:Hid (nx2 x i=n2):=h2'
 have H1:Hid (setB bs n1=s1):=h1
 have H2:Hid (setB bs n2=s2):=h2
 clear h1 h2 h1' h2'
 unfold insV
 go_enter Tryz.func111,Tryz.ntmps111
 go_wp2_with fail
 refine (nextOf_any x i _ hi).mono ?_
 rw [N1.out,N2.out]
 rintro e w1 ⟨rfl,k1⟩
 obtain ⟨kk,hl,⟨kc,kz⟩⟩:=k1.box (fun h=>h)
 have K1:Hid (Nw w w1):=kk
 have R1:Hid (Row w1 gl 4 (bs.map bool)):=HR.out.kp kk (fun h=>h)
 clear k1 kk
 cases q6 with
 | true =>
  go_wp2
  go_ret
  exact ⟨rfl,K1.out⟩
 | false =>
  go_wp2_with fail
  refine (isSet_any gl cap bs n1 _ R1.out hn).mono ?_
  rw [H1.out]
  rintro e w2 ⟨rfl,rfl⟩
  clear kc kz
  cases s1 with
  | true =>
   go_wp2
   go_ret
   exact ⟨rfl,K1.out⟩
  | false =>
   go_wp2_with fail
   refine (isSet_any gl cap bs n2 _ R1.out hn).mono ?_
   rw [H2.out]
   rintro e w3 ⟨rfl,rfl⟩
   go_wp2
   go_ret
   exact ⟨by simp,K1.out⟩
theorem leadsOn_at (x:In) (i gl cap n:Nat) (bs:List Bool) (w:World) (hr:Row w gl 4 (bs.map bool)) (hb:bs.length=n) (hn:n≤1000) (hi:i≤1000) :
  Calls Tryz.prog 111 #[insV x,.int .i64 i,.slice (some ⟨gl,0,none⟩) n cap] w fun e w'=>e=.returned (.bool (ldB x i bs))∧Nw w w':=by
 subst hb
 exact leadsOn_any x i gl cap bs w hr hn hi
theorem leadingToEnd_any (g cap:Nat) (l:List In) (w:World) (hc:Code' w g l) (hA:AllIns l) (hi:0<l.length) (hn:l.length≤1000) :
  Calls Tryz.prog 91 #[.slice (some ⟨g,0,none⟩) l.length cap] w (MarksPost w l.length (ToE l)):=by
 have hl:=hc.lt
 obtain ⟨i0,hi0,hz0,hz1,hz2⟩:=info_parts Tryz.info4
 go_enter Tryz.func91,Tryz.ntmps91
 go_wp2_with (first|(at_make;refine wpList_make_full _ rfl _ _ 172 rfl w.heap.size 4 i0 (.bool false) 1 Tryz.underlying172 hi0 hz0 hz1 _ _ _ _ l.length rfl rfl rfl rfl ?b1 ?b2 ?b3 ?_)|fail)
 case b1=>rw [hz2];omega
 case b2=>unfold maxLen;omega
 case b3=>exact Nat.le_refl _
 intro w1 hown1 hgrow1
 have R1:Hid (Row w1 w.heap.size 4 ((List.replicate l.length false).map bool)):=by
  have:=Row.of_full hown1
  rw [made_bools] at this
  exact this
 have K1:Hid (Nw w w1):=(Kp.refl _ w).grown hgrow1 (by intro k hk;cases hk)
 have C1:Hid (Code' w1 g l):=hc.kp K1.out (fun h=>h)
 clear hown1 hgrow1
 go_wp2
 go_loopg [4] (2*l.length+1) (fun m vA wr=>∃(bs:List Bool) (b:Bool),vA=.bool b∧m=2*bs.count false+(if b then 1 else 0)∧Row wr w.heap.size 4 (bs.map bool)∧bs.length=l.length∧(∀j:Nat,bs[j]? = some true→ToE l j)∧(b=false→∀(i:Nat) (x:In),l[i]? = some x→bs[i]? = some false→ldB x i bs=false)∧Code' wr g l∧Nw w wr)
 case atStart=>exact ⟨List.replicate l.length false,true,rfl,by simp,R1.out,by simp,(fun j hj=>by simp [List.getElem?_replicate] at hj),(fun h=>by cases h),C1.out,K1.out⟩
 case round =>
  obtain ⟨bs,b,rfl,hm,hrow,hlen,hs,hcl,hcode,hK⟩:=hrel
  have HM:Hid (gk=2*bs.count false+(if b then 1 else 0)):=hm
  have HR:Hid (Row wr w.heap.size 4 (bs.map bool)):=hrow
  have HS:Hid (∀j:Nat,bs[j]? = some true→ToE l j):=hs
  have HC:Hid (Code' wr g l):=hcode
  have HK:Hid (Nw w wr):=hK
  have HL:Hid (bs.length=l.length):=hlen
  have HE:Hid (b=false→∀(i:Nat) (x:In),l[i]? = some x→bs[i]? = some false→ldB x i bs=false):=hcl
  clear hm hrow hs hcl hcode hK hlen R1 K1 C1
  cases b with
  | false =>
   have HE2:Hid (∀(i:Nat) (x:In),l[i]? = some x→bs[i]? = some false→ldB x i bs=false):=HE.out rfl
   clear HE
   go_wp2
   go_ret
   exact ⟨bs,rfl,HR.out,HL.out,ldB_over hA HL.out HS.out HE2.out,HK.out⟩
  | true =>
   clear HE
   have HM2:Hid (gk=2*bs.count false+1):=HM.out
   clear HM
   go_wp2
   go_loopg [4,5] l.length (fun m vA vI wr=>∃(bs':List Bool) (b:Bool) (k:Nat),vA=.bool b∧vI=.int .i64 ((k:Int) - 1)∧m=k∧k≤l.length∧Row wr w.heap.size 4 (bs'.map bool)∧bs'.length=l.length∧(∀j:Nat,bs'[j]? = some true→ToE l j) ∧
    (b=false→bs'=bs∧∀(i:Nat) (x:In),k≤i→l[i]? = some x→bs[i]? = some false→ldB x i bs=false)∧(b=true→bs'.count false<bs.count false)∧bs'.count false≤bs.count false∧Code' wr g l∧Nw w wr)
   case atStart=>exact ⟨bs,false,l.length,rfl,rfl,rfl,Nat.le_refl _,HR.out,HL.out,HS.out,(fun _=>⟨rfl,fun i x hi hx=>by have:=(List.getElem?_eq_some_iff.1 hx).1;omega⟩),(fun h=>by cases h),Nat.le_refl _,HC.out,HK.out⟩
   case round =>
    obtain ⟨bs',b,k,rfl,rfl,hm,hk,hrow,hlen,hs,hcl,hlt,hle,hcode,hK⟩:=hrel
    have HR':Hid (Row wr w.heap.size 4 (bs'.map bool)):=hrow
    have HS':Hid (∀j:Nat,bs'[j]? = some true→ToE l j):=hs
    have HC':Hid (Code' wr g l):=hcode
    have HK':Hid (Nw w wr):=hK
    have HE':Hid (b=false→bs'=bs∧∀(i:Nat) (x:In),k≤i→l[i]? = some x→bs[i]? = some false→ldB x i bs=false):=hcl
    have HLt:Hid (b=true→bs'.count false<bs.count false):=hlt
    have HLe:Hid (bs'.count false≤bs.count false):=hle
    have HL':Hid (bs'.length=l.length):=hlen
    have HMM:Hid (_=k):=hm
    clear hs hcl hlt hle hK hlen hm
    cases k with
    | zero =>
     go_wp2
     go_roundg (2*bs'.count false+(if b then 1 else 0))
     case measure =>
      rw [HM2.out]
      have h1:=HLe.out
      cases b with
      | false=>simp;omega
      | true=>have h2:=HLt.out rfl;simp;omega
     case rel =>
      refine ⟨bs',b,rfl,rfl,HR'.out,HL'.out,HS'.out,?_,HC'.out,HK'.out⟩
      intro hb
      obtain ⟨e,h⟩:=HE'.out hb
      subst e
      exact fun i x hx hf=>h i x (Nat.zero_le _) hx hf
    | succ k =>
     have hkl:k<l.length:=by omega
     obtain ⟨x,hx⟩:∃x,l[k]? = some x:=⟨l[k],by simp [hkl]⟩
     obtain ⟨b2,hb2⟩:∃b2,bs'[k]? = some b2:=⟨bs'[k]'(by rw [HL'.out];exact hkl),by simp [HL'.out,hkl]⟩
     have cb:wr.cell? ⟨w.heap.size,k,none⟩=some (.bool b2):=by rw [hrow.cell];simp [hb2]
     obtain ⟨d0,d1,d2,d3,d4,d5,d6,d7,d8,d9,d10,d11,d12,d13⟩:=(hcode.ins k x hx).cells
     have fz:∀o,wr.frozen? ⟨w.heap.size,o,none⟩=false:=hrow.froz
     have HX:Hid (l[k]? = some x):=hx
     have HB:Hid (bs'[k]? = some b2):=hb2
     have hidx:((k+1:Nat):Int) - 1=(k:Int):=by omega
     rw [hidx]
     clear hrow hcode hx hb2 hidx
     cases b2 with
     | true =>
      go_wp2
      go_roundg k
      case measure=>rw [HMM.out];omega
      case rel =>
       refine ⟨bs',b,k,rfl,by simp,rfl,by omega,HR'.out,HL'.out,HS'.out,?_,HLt.out,HLe.out,HC'.out,HK'.out⟩
       intro hb
       obtain ⟨e,h⟩:=HE'.out hb
       refine ⟨e,fun i y hi hy hf => ?_⟩
       by_cases e2:i=k
       ·subst e2
        have:=HB.out
        rw [e,hf] at this
        cases this
       ·exact h i y (by omega) hy hf
     | false =>
      generalize hld:ldB x k bs'=L
      have HLD:Hid (ldB x k bs'=L):=hld
      clear hld
      go_wp2_with fail
      refine (leadsOn_at x k w.heap.size _ _ bs' _ HR'.out HL'.out hn (by omega)).mono ?_
      rw [HLD.out]
      rintro e w3 ⟨rfl,k3⟩
      cases L with
      | false =>
       have HK3:Hid (Nw w w3):=HK'.out.trans k3
       have HR3:Hid (Row w3 w.heap.size 4 (bs'.map bool)):=HR'.out.kp k3 (fun h=>h)
       have HC3:Hid (Code' w3 g l):=HC'.out.kp k3 (fun h=>h)
       clear k3 cb d0 d1 d2 d3 d4 d5 d6 d7 d8 d9 d10 d11 d12 d13 fz
       go_wp2
       go_roundg k
       case measure=>rw [HMM.out];omega
       case rel =>
        refine ⟨bs',b,k,rfl,by simp,rfl,by omega,HR3.out,HL'.out,HS'.out,?_,HLt.out,HLe.out,HC3.out,HK3.out⟩
        intro hb
        obtain ⟨e,h⟩:=HE'.out hb
        refine ⟨e,fun i y hi hy hf => ?_⟩
        by_cases e2:i=k
        ·subst e2
         have h9:=HX.out
         rw [hy] at h9
         cases h9
         have:=HLD.out
         rw [e] at this;exact this
        ·exact h i y (by omega) hy hf
      | true =>
       have HK3:Hid (Nw w w3):=HK'.out.trans k3
       have HR3:Hid (Row w3 w.heap.size 4 (bs'.map bool)):=HR'.out.kp k3 (fun h=>h)
       have HC3:Hid (Code' w3 g l):=HC'.out.kp k3 (fun h=>h)
       have cb3:w3.cell? ⟨w.heap.size,k,none⟩=some (.bool false):=by rw [HR3.out.cell];simp [HB.out]
       have fz3:∀o,w3.frozen? ⟨w.heap.size,o,none⟩=false:=HR3.out.froz
       clear k3 cb d0 d1 d2 d3 d4 d5 d6 d7 d8 d9 d10 d11 d12 d13 fz
       go_wp2
       go_roundg k
       case measure=>rw [HMM.out];omega
       case rel =>
        have hcs:=count_set HB.out
        have hle:=HLe.out
        refine ⟨bs'.set k true,true,k,rfl,by simp,rfl,by omega,?_,by simp [HL'.out],?_,(fun h=>by cases h),(fun _=>by omega),by omega,?_,?_⟩
        ·rw [List.map_set];exact HR3.out.set k (.bool true)
        ·intro j hj
         by_cases e2:j=k
         ·subst e2;exact ldB_sound hA HX.out HS'.out HLD.out
         ·rw [List.getElem?_set_ne (by omega)] at hj
          exact HS'.out j hj
        ·exact HC3.out.kp ((Kp.refl (fun b=>b=w.heap.size) w3).setCell (p:=⟨w.heap.size,k,none⟩) (Or.inr rfl) _) (by omega)
        ·exact HK3.out.setCell (p:=⟨w.heap.size,k,none⟩) (Or.inl (Nat.le_refl _)) _
theorem trf_inPlace:(Rows.trimmedRow.inPlace == Tryz.pinned.checked.prog.inPlace 8)=true:=by kernel_rfl
theorem trf_unfollowed:(Rows.trimmedRow.unfollowed == Tryz.pinned.checked.prog.unfollowed 8)=true:=by kernel_rfl
theorem trf_recurses:(Rows.trimmedRow.recurses == Tryz.pinned.checked.prog.recurses 8)=true:=by kernel_rfl
theorem trf_named:(Rows.trimmedRow.named == Tryz.pinned.checked.prog.varsNamed 8)=true:=by kernel_rfl
theorem trf_closed:joinedFacts Tryz.pinned.checked.prog 8 Tryz.f8 Rows.trimmedSpec Rows.trimmedRow=true:=by
 unfold joinedFacts
 rw [trf_inPlace,trf_unfollowed,trf_recurses,trf_named]
 kernel_rfl
end Go.Proofs.YtcboiapggnmpfabGreat
