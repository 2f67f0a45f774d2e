import Derived.Test.YtcboiapggnmpfabGreatDoorQae
import Derived.Test.YtcboiapggnmpfabGreatDoorRows
import Derived.JoinedOf
import Derived.KernelRfl
namespace Go.Proofs.YtcboiapggnmpfabGreatDoor
set_option maxRecDepth 100000
set_option maxHeartbeats 1000000
set_option linter.unusedSimpArgs false
set_option linter.unusedVariables false
open Go.RowKit
theorem ends_not (x:In):(!(decide (x.op=4)||decide (x.op=5)||decide (x.op=6))) = !endsB x:=rfl
theorem firstNoneP_any (p:Option Addr) (cap:Nat) (l:List In) (w:World) (hp:CodeP w p l) (hn:l.length≤1000) :
  Calls Tryz.prog 42 #[.slice p l.length cap] w fun e w'=>e=.returned (.int .i64 (firstNone l))∧Nw w w':=by
 go_enter Tryz.func42,Tryz.ntmps42
 go_wp2
 go_loopg [3] l.length (fun m v3 wr=>∃i:Nat,v3=.int .i64 i∧m=l.length - i∧i≤l.length∧noneFrom l.length i (l.drop i)=firstNone l∧CodeP wr p l∧Nw w wr)
 case atStart=>exact ⟨0,rfl,rfl,by omega,rfl,hp,Kp.refl _ _⟩
 case round =>
  obtain ⟨i,rfl,hm',hi,hfn,hcp,hnw⟩:=hrel
  by_cases hi':i<l.length
  ·obtain ⟨x,hx⟩:∃x,l[i]? = some x:=⟨l[i],by simp [hi']⟩
   obtain ⟨g,rfl,hcr⟩:=hcp (by intro e;rw [e] at hx;simp at hx)
   obtain ⟨c0,c1,c2,c3,c4,c5,c6,c7,c8,c9,c10,c11,c12,c13⟩:=(hcr.ins i x hx).cells
   rw [drop_cons hx] at hfn
   have HP:Hid (CodeP wr (some ⟨g,0,none⟩) l):=hcp
   generalize hT:insIsB x (l.length:Int)=T
   go_wp2_with fail
   refine (isInsP_any x l.length wr (by omega) (by omega)).mono ?_
   rw [hT]
   rintro e w2 ⟨rfl,k2⟩
   have HC:Hid (CodeP w2 (some ⟨g,0,none⟩) l):=HP.out.nw k2
   have HK:Hid (Nw w w2):=hnw.trans k2
   have HF:Hid (noneFrom l.length i (x::l.drop (i+1))=firstNone l):=hfn
   have HT:Hid (insIsB x (l.length:Int)=T):=hT
   have d0:w2.cell? ⟨g,i*14,none⟩=some (.int .i64 x.op):=(k2.cell (p:=⟨g,i*14,none⟩) hcr.lt (fun h=>h)).trans c0
   clear c0 c1 c2 c3 c4 c5 c6 c7 c8 c9 c10 c11 c12 c13 hcr hnw k2 hfn hT hcp HP
   cases T with
   | false =>
    have hstop:Hid (firstNone l=i):=by
     show _=_
     rw [←HF.out];exact noneFrom_stop (by rw [HT.out];simp)
    go_wp2
    go_ret
    exact ⟨by rw [hstop.out];rfl,HK.out⟩
   | true =>
    by_cases hlast:i+1=l.length
    ·have hl1:((i:Int) == (l.length:Int) - 1)=true:=by simp;omega
     generalize hE:endsB x=E
     cases E with
     | true =>
      have hgo:Hid (noneFrom l.length (i+1) (l.drop (i+1))=firstNone l):=by
       show _=_
       rw [←HF.out];exact (noneFrom_step HT.out (fun _=>hE)).symm
      go_wp2_with (go_at_call 73;refine (goesOnBehind_any x.op _).mono ?_;rw [ends_not,hE];rintro e1 w3 ⟨rfl,rfl⟩)
      go_roundg (l.length - (i+1))
      case measure=>omega
      case rel=>exact ⟨i+1,by simp,rfl,by omega,hgo.out,HC.out,HK.out⟩
     | false =>
      have hstop:Hid (firstNone l=i):=by
       show _=_
       rw [←HF.out];exact noneFrom_stop (fun h=>by have:=h.2 hlast;rw [hE] at this;cases this)
      go_wp2_with (go_at_call 73;refine (goesOnBehind_any x.op _).mono ?_;rw [ends_not,hE];rintro e1 w3 ⟨rfl,rfl⟩)
      go_ret
      exact ⟨by rw [hstop.out];rfl,HK.out⟩
    ·have hl1:((i:Int) == (l.length:Int) - 1)=false:=eqb_false (by omega)
     have hgo:Hid (noneFrom l.length (i+1) (l.drop (i+1))=firstNone l):=by
      show _=_
      rw [←HF.out];exact (noneFrom_step HT.out (fun e=>absurd e hlast)).symm
     go_wp2
     go_roundg (l.length - (i+1))
     case measure=>omega
     case rel=>exact ⟨i+1,by simp,rfl,by omega,hgo.out,HC.out,HK.out⟩
  ·have hfull:firstNone l=l.length:=by
    rw [←hfn,List.drop_eq_nil_of_le (by omega)]
    simp [noneFrom];omega
   go_wp2
   go_ret
   exact ⟨by rw [hfull];rfl,hnw⟩
theorem firstOnRoundP_any (g cap:Nat) (l:List In) (w:World) (hc:Code' w g l) (hA:AllIns l) (hn:l.length≤1000) :
  Calls Tryz.prog 43 #[.slice (some ⟨g,0,none⟩) l.length cap] w fun e w'=>∃k:Nat,e=.returned (.int .i64 k)∧RndFrom l 0 k∧Nw w w':=by
 go_enter Tryz.func43,Tryz.ntmps43
 go_wp2
 go_loopg [3] l.length (fun m v3 wr=>∃i:Nat,v3=.int .i64 i∧m=l.length - i∧i≤l.length∧(∀j,j<i→¬Rch l false j j)∧Code' wr g l∧Nw w wr)
 case atStart=>exact ⟨0,rfl,rfl,by omega,(fun j hj=>by omega),hc,Kp.refl _ _⟩
 case round =>
  obtain ⟨k,rfl,hm2,hk,hno,hcr,hnw⟩:=hrel
  have HN:Hid (∀j,j<k→¬Rch l false j j):=hno
  clear hno
  by_cases hk':k<l.length
  ·go_wp2_with fail
   refine (comesBack_any g cap k l wr hcr hA hk' hn).mono ?_
   rintro e w2 ⟨b,rfl,hb,k2⟩
   have HC2:Hid (Code' w2 g l):=hcr.kp k2 (fun h=>h)
   have HK2:Hid (Nw w w2):=hnw.trans k2
   have HB:Hid (b=true↔Rch l false k k):=hb
   clear hb hcr hnw k2
   cases b with
   | true =>
    go_wp2
    go_ret
    exact ⟨k,rfl,rnd_from HN.out hk' (HB.out.1 (by simp)),HK2.out⟩
   | false =>
    go_wp2
    go_roundg (l.length - (k+1))
    case measure=>omega
    case rel =>
     refine ⟨k+1,by simp,rfl,by omega,?_,HC2.out,HK2.out⟩
     intro j hj
     by_cases e:j=k
     ·subst e
      intro hr
      have:=HB.out.2 hr
      simp at this
     ·exact HN.out j (by omega)
  ·go_wp2
   go_ret
   have e:k=l.length:=by omega
   have hno:=HN.out
   rw [e] at hno
   exact ⟨l.length,rfl,rnd_none hno,hnw⟩
theorem validP_any (p:Option Addr) (cap:Nat) (l:List In) (w:World) (hp:CodeP w p l) (hm:l.length≤maxLen) :
  Calls Tryz.prog 25 #[.slice p l.length cap] w (ValidPost w l):=by
 unfold maxLen at hm
 by_cases hbig:1000<l.length
 ·go_enter Tryz.func25,Tryz.ntmps25
  go_wp2
  go_ret2
  exact ⟨5,0,rfl,Or.inl ⟨hbig,rfl,rfl⟩,Kp.refl _ _⟩
 have hn:l.length≤1000:=by omega
 have hfl:=noneFrom_le l.length l 0
 have hfl2:firstNone l≤l.length:=by have:=hfl.2;simpa [firstNone] using this
 clear hfl
 go_enter Tryz.func25,Tryz.ntmps25
 go_wp2_with fail
 refine (firstNoneP_any p cap l w hp hn).mono ?_
 rintro e w2 ⟨rfl,k2⟩
 have HP:Hid (CodeP w2 p l):=hp.nw k2
 have HK:Hid (Nw w w2):=k2
 clear hp k2
 generalize hf:firstNone l=f at *
 by_cases hnil:l=[]
 ·subst hnil
  go_wp2
  go_ret2
  exact ⟨7,f,rfl,Or.inr (Or.inl ⟨by simp,Or.inl rfl,rfl,by rw [hf]⟩),HK.out⟩
 have hpos:0<l.length:=List.length_pos_iff.2 hnil
 have hz:((l.length:Int) == 0)=false:=eqb_false (by omega)
 by_cases hlt:f<l.length
 ·go_wp2
  go_ret2
  exact ⟨7,f,rfl,Or.inr (Or.inl ⟨hn,Or.inr (by rw [hf];exact hlt),rfl,by rw [hf]⟩),HK.out⟩
 have hff:firstNone l=l.length:=by omega
 obtain ⟨g,rfl,hcr⟩:=HP.out hnil
 go_wp2_with fail
 refine (firstOnRoundP_any g cap l w2 hcr (allIns_of hff) hn).mono ?_
 rintro e w3 ⟨k,rfl,hr,k3⟩
 have HR:Hid (RndFrom l 0 k):=hr
 have HK3:Hid (Nw w w3):=HK.out.trans k3
 have hkl:=hr.2.1
 clear hr k3 hcr
 by_cases hk:k<l.length
 ·go_wp2
  go_ret2
  exact ⟨8,k,rfl,Or.inr (Or.inr (Or.inl ⟨hn,hnil,hff,k,HR.out,hk,rfl,rfl⟩)),HK3.out⟩
 ·have e:k=l.length:=by omega
  go_wp2
  go_ret2
  have h1:=HR.out
  rw [e] at h1
  exact ⟨0,0,rfl,Or.inr (Or.inr (Or.inr ⟨hn,hnil,hff,h1,rfl,rfl⟩)),HK3.out⟩
theorem wnf_inPlace:(Rows.windowedRow.inPlace == Tryz.pinned.checked.prog.inPlace 3)=true:=by kernel_rfl
theorem wnf_unfollowed:(Rows.windowedRow.unfollowed == Tryz.pinned.checked.prog.unfollowed 3)=true:=by kernel_rfl
theorem wnf_recurses:(Rows.windowedRow.recurses == Tryz.pinned.checked.prog.recurses 3)=true:=by kernel_rfl
theorem wnf_named:(Rows.windowedRow.named == Tryz.pinned.checked.prog.varsNamed 3)=true:=by kernel_rfl
theorem wnf_closed:joinedFacts Tryz.pinned.checked.prog 3 Tryz.f3 Rows.windowedSpec Rows.windowedRow=true:=by
 unfold joinedFacts
 rw [wnf_inPlace,wnf_unfollowed,wnf_recurses,wnf_named]
 kernel_rfl
end Go.Proofs.YtcboiapggnmpfabGreatDoor
