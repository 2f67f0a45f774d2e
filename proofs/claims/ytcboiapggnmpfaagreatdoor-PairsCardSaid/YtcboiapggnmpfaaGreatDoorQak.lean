import Derived.Test.YtcboiapggnmpfaaGreatDoorQaj
import Derived.Deep.MidRow
namespace Go.Proofs.YtcboiapggnmpfaaGreatDoor
set_option maxRecDepth 100000
set_option maxHeartbeats 1000000
set_option linter.unusedSimpArgs false
set_option linter.unusedVariables false
open Go.RowKit
theorem readAlt_any {α:Type} {pa:List Tok→Option α×List Tok} {f:α→Nt} {d:Int} (hA:PartOk 88 (seqR pa f) d) (hf:∀l,Fits l (seqR pa f l)):PartOk 60 (altR pa f) d:=by
 intro s R i nv sv N L l w h hs ha hN hL
 have hm:s.size≤maxLen:=by unfold maxLen;omega
 have hfl:=hf l
 go_enter Tryz.func60,Tryz.ntmps60
 go_wp2_with fail
 refine (hA s R i nv sv N L l w h hs ha hN hL).mono ?_
 rintro e w1 ⟨j1,nv1,sv1,a1,k1,h1⟩
 have A1:Hid (At s j1 (seqR pa f l).2):=a1
 have K1:Hid (Kp (fun k=>R≤k) w w1):=k1
 have HFL:Hid (Fits l (seqR pa f l)):=hfl
 have HEQ:Hid (altR pa f l=match seqR pa f l with|(none,x)=>(none,x)|(some t,x)=>goOn 2 (seqR pa f) skipB x.length t x):=altR_eq pa f l
 clear k1 h ha hfl a1
 rcases h1 with ⟨hn,rfl,r1⟩ | ⟨t,Ls,z,hs1,rfl,hz,q1,hls⟩
 ·have HN:Hid (seqR pa f l=(none,(seqR pa f l).2)):=by show _=_;rw [←hn]
  clear hn
  go_wp2
  go_loopg [6] 0 (fun m v6 wr=>v6=.int .i64 0∧wr=w1)
  case atStart=>exact ⟨rfl,rfl⟩
  case round =>
   obtain ⟨rfl,rfl⟩:=hrel
   go_wp2
   go_ret2
   rw [HEQ.out,HN.out]
   exact ⟨j1,nv1,sv1,A1.out,K1.out,Or.inl ⟨rfl,rfl,r1⟩⟩
 ·have hrx:seqR pa f l=(some t,(seqR pa f l).2):=by rw [←hs1]
  have M0:Hid (Mid2 s R w N L l 2 (seqR pa f) skipB (altR pa f l) z (seqR pa f l).2 w1 j1 (seqR pa f l).2.length nv1 sv1 t Ls) :=
   ⟨Nat.le_refl _,by rw [HEQ.out,hrx],A1.out,K1.out,hz,q1,hls,HFL.out.2 t hs1⟩
  clear hz q1 hls hs1 hrx
  go_wp2
  go_loopg [6] (seqR pa f l).2.length (fun m v6 wr=>∃z x j n nv sv t Ls,v6=.int .i64 z∧m=x.length∧Mid2 s R w N L l 2 (seqR pa f) skipB (altR pa f l) z x wr j n nv sv t Ls)
  case atStart=>exact ⟨z,_,_,_,_,_,_,_,rfl,rfl,M0.out⟩
  case round =>
   obtain ⟨z,x,j,n,nv2,sv2,t,Ls,rfl,hmm,hM⟩:=hrel
   have HM:Hid (_=x.length):=hmm
   have MM:Hid (Mid2 s R w N L l 2 (seqR pa f) skipB (altR pa f l) z x wr j n nv2 sv2 t Ls):=hM
   obtain ⟨b0,b1⟩:=hM.at'.hd_bounds
   clear hmm hM M0
   go_wp2_with fail
   refine (peek_at MM.out.rs.rd hm MM.out.at').mono ?_
   rintro e w2 ⟨rfl,n2,rfl⟩
   have M2:Hid (Mid2 s R w N L l 2 (seqR pa f) skipB (altR pa f l) z x (wr.drewN n2) j n nv2 sv2 t Ls):=⟨MM.out.fuel,MM.out.on,MM.out.at',MM.out.kp.drewN n2,MM.out.val,MM.out.rs.drewN n2,MM.out.st,MM.out.room⟩
   clear MM
   generalize wr.drewN n2=w4 at M2
   by_cases hb:hd x=124
   rotate_left
   ·have hb':(hd x == 124)=false:=by simp [hb]
    have HSK:Hid (skipB x=none):=by
     show _=_
     match x,hb with
     | [],_=>rfl
     | (c,p)::r,hb=>simp only [hd] at hb;simp [skipB,hb]
    clear hb
    go_wp2
    go_ret2
    rw [←M2.out.on,goOn_stop HSK.out]
    exact ⟨j,nv2,sv2,M2.out.at',M2.out.kp,Or.inr ⟨t,Ls,z,rfl,rfl,M2.out.val,M2.out.rs,M2.out.st⟩⟩
   ·obtain ⟨p,y,rfl⟩:=hd_cons_of hb (by omega)
    simp only [hd]
    have HSK:Hid (skipB ((124,p)::y)=some y):=by show _=_;simp [skipB]
    obtain ⟨n',rfl⟩:∃n',n=n'+1:=⟨n - 1,by have:=M2.out.fuel;simp at this;omega⟩
    clear hb
    go_wp2_with fail
    refine (pass_any s R j nv2 sv2 124 p y _ M2.out.rs.rd hm M2.out.at').mono ?_
    rintro e wp ⟨rfl,jp,ap,rp,kp⟩
    have QP:Hid (RS wp R s jp nv2 sv2 (N++t.nd N.length L.length) (L++Ls)):=M2.out.rs.kp kp rp
    have KP:Hid (Kp (fun k=>R≤k) w wp):=M2.out.kp.trans (kp.mono (fun b _ e=>by omega))
    have AP:Hid (At s jp y):=ap
    have HNN:Hid ((N++t.nd N.length L.length).length+2*y.length≤90000):=by
     have:=M2.out.room
     simp at this
     show _≤_
     rw [len_nd];omega
    have HLL:Hid ((L++Ls).length≤(N++t.nd N.length L.length).length):=by
     have h1:=fst_len M2.out.st
     have h2:=t.steps_le
     show _≤_
     rw [len_nd];simp;omega
    clear ap rp kp
    go_wp2_with fail
    refine (hA s R jp nv2 sv2 _ _ y wp QP.out hs AP.out HNN.out HLL.out).mono ?_
    rintro e w5 ⟨j5,nv5,sv5,a5,k5,h5⟩
    have K5:Hid (Kp (fun k=>R≤k) w w5):=KP.out.trans k5
    have A5:Hid (At s j5 (seqR pa f y).2):=a5
    clear k5 a5
    rcases h5 with ⟨hn,rfl,r5⟩ | ⟨u,Ls5,z5,hs5,rfl,hz5,q5,hls5⟩
    ·have HN:Hid ((seqR pa f y).1=none):=hn
     clear hn
     go_wp2
     go_ret2
     rw [←M2.out.on,goOn_fail HSK.out HN.out rfl]
     exact ⟨j5,nv5,sv5,A5.out,K5.out,Or.inl ⟨rfl,rfl,r5⟩⟩
    ·have hlen5:((N++t.nd N.length L.length)++u.nd (N++t.nd N.length L.length).length (L++Ls).length).length≤100000:=by
      have h1:=M2.out.room
      have h2:=(hf y).2 u hs5
      simp only [List.length_append,List.length_cons,Nt.nd_length] at h1 ⊢
      omega
     have Q5:Hid (RS w5 R s j5 nv5 sv5 ((N++t.nd N.length L.length)++u.nd (N++t.nd N.length L.length).length (L++Ls).length) ((L++Ls)++Ls5)):=q5
     have HZ5:Hid (z5=(((N++t.nd N.length L.length).length+u.size:Nat):Int) - 1):=hz5
     have HU:Hid ((seqR pa f y).1=some u):=hs5
     have HL5:Hid (Ls5.map Prod.fst=u.steps):=hls5
     have hlt:Hid ((seqR pa f y).2.length<((124,p)::y:List Tok).length):=by
      have:=(hf y).2 u hs5
      show _<_
      simp;omega
     have HJ:Hid (∀(w6:World) (nv6:Value),Rd w6 R s j5 nv6 sv5→w6.ownsRow (R+1) 186 6 nv6 (((N++t.nd N.length L.length)++u.nd (N++t.nd N.length L.length).length (L++Ls).length)++[(⟨2,0,z,z5,0,0⟩:Nd)]).length (ndsC (((N++t.nd N.length L.length)++u.nd (N++t.nd N.length L.length).length (L++Ls).length)++[(⟨2,0,z,z5,0,0⟩:Nd)]))→Kp (fun k=>k=R∨nv5.ownBlock=some k) w5 w6 →
       ∃t' Ls',Mid2 s R w N L l 2 (seqR pa f) skipB (altR pa f l) (((N++t.nd N.length L.length)++u.nd (N++t.nd N.length L.length).length (L++Ls).length).length:Nat) (seqR pa f y).2 w6 j5 n' nv6 sv5 t' Ls') :=
      fun w6 nv6 r6 o6 k6=>⟨_,_,M2.out.join HSK.out (by simp) (hf y) HU.out HZ5.out K5.out A5.out Q5.out HL5.out r6 o6 k6⟩
     clear hz5 q5 hs5 hls5 HZ5 HL5 HNN HLL
     generalize hMM:(N++t.nd N.length L.length)++u.nd (N++t.nd N.length L.length).length (L++Ls).length=M at Q5 HJ hlen5
     clear hMM
     go_wp2_with fail
     refine (addNode_any s R j5 nv5 sv5 M 2 0 z z5 0 0 _ Q5.out.rd Q5.out.nodes hlen5).mono ?_
     rintro e w6 ⟨rfl,nv6,r6,o6,k6,_⟩
     obtain ⟨t',Ls',hj⟩:=HJ.out w6 nv6 r6 o6 k6
     have HJ2:Hid (Mid2 s R w N L l 2 (seqR pa f) skipB (altR pa f l) (M.length:Nat) (seqR pa f y).2 w6 j5 n' nv6 sv5 t' Ls'):=hj
     clear r6 o6 k6 hj HJ
     go_wp2
     go_roundg (seqR pa f y).2.length
     case measure=>have:=hlt.out;rw [HM.out];omega
     case rel=>exact ⟨_,_,_,_,_,_,_,_,rfl,rfl,HJ2.out⟩
theorem StPost.part {s:ByteArray} {R:Nat} {w w':World} {N:List Nd} {L:List (St×Value)} {r:Option St×List Tok} {e:Ending} (h:StPost s R w N L r e w'):PtPost s R w N L (r.1.map Nt.one,r.2) e w':=by
 obtain ⟨j,nv,sv,a,k,h⟩:=h
 refine ⟨j,nv,sv,a,k,?_⟩
 rcases h with ⟨h1,h2,h3⟩ | ⟨x,tv,h1,h2,h3⟩
 ·exact Or.inl ⟨by simp [h1],h2,h3.rd⟩
 ·refine Or.inr ⟨.one x,[(x,tv)],N.length,by simp [h1],h2,by simp [Nt.size],h3,by simp [Nt.steps]⟩
theorem stepR_of (n:Nat) {l:List Tok} (h:¬hd l=40):aR (pAtom n) (atomTr n) l=((pStep l).1.map Nt.one,(pStep l).2):=by
 cases n with
 | zero=>rfl
 | succ n =>
  match l,h with
  | [],_=>rfl
  | (c,p)::r,h =>
   simp only [hd] at h
   simp only [aR,pAtom,if_neg h]
   cases hp:pStep ((c,p)::r) with
   | mk o x=>cases o <;> rfl
theorem stepR_40 {l:List Tok} (h:hd l=40):aR (pAtom 0) (atomTr 0) l=(none,l):=by
 have:pStep l=(none,l):=pStep_not (by rw [h];decide)
 show ((pStep l).1.map Nt.one,(pStep l).2)=_
 rw [this];rfl
theorem boxR (n:Nat) (p:Nat) (r:List Tok):aR (pAtom (n+1)) (atomTr (n+1)) ((40,p)::r)=match altR (pAtom n) (atomTr n) r with|(none,x)=>(none,x)|(some t,x)=>if hd x=41 then (some t,x.tail) else (none,x):=by
 simp only [aR,pAtom,altR,if_pos]
 cases hp:pAlt (pAtom n) r with
 | mk o x=>cases o with
  | none=>rfl
  | some t =>
   match x with
   | []=>rfl
   | (d,q)::y =>
    by_cases h:d=41
    ·simp only [hd,Option.map_some,List.tail_cons,if_pos h]
     exact Eq.trans (b:=((some (altTr (atomTr n) t),y):PR)) rfl (if_pos h).symm
    ·simp only [hd,Option.map_some,List.tail_cons,if_neg h]
     exact Eq.trans (b:=((none,(d,q)::y):PR)) rfl (if_neg h).symm
theorem readAtom_step (n:Nat) (d:Int) (s:ByteArray) (R i:Nat) (nv sv:Value) (N:List Nd) (L:List (St×Value)) (l:List Tok) (w:World) (h:RS w R s i nv sv N L) (hs:s.size≤1000) (ha:At s i l) (hN:N.length+2*l.length≤90000) (hL:L.length≤N.length) (h40:¬hd l=40) :
  Calls Tryz.prog 116 #[.pointer (some ⟨R,0,none⟩),.int .i64 d] w (PtPost s R w N L (aR (pAtom n) (atomTr n) l)):=by
 have hm:s.size≤maxLen:=by unfold maxLen;omega
 have H:Hid (RS w R s i nv sv N L):=h
 have HA:Hid (At s i l):=ha
 obtain ⟨b0,b1⟩:=ha.hd_bounds
 have h4:(hd l != 40)=true:=bne_iff_ne.2 h40
 rw [stepR_of n h40]
 clear h ha h40
 go_enter Tryz.func116,Tryz.ntmps116
 go_wp2_with fail
 refine (peek_at H.out.rd hm HA.out).mono ?_
 rintro e w1 ⟨rfl,n1,rfl⟩
 go_wp2_with fail
 refine (readStep_any s R i nv sv N L l _ (H.out.drewN n1) hs HA.out (by omega) (by omega)).mono ?_
 rintro e w2 h2
 have P2:Hid (PtPost s R w N L ((pStep l).1.map Nt.one,(pStep l).2) e w2):=by
  obtain ⟨j,nv',sv',a,k,h3⟩:=h2.part
  exact ⟨j,nv',sv',a,((Kp.refl _ w).drewN n1).trans k,h3⟩
 have he:∃z b,e=.returned (.tuple #[.int .i64 z,.bool b]):=by
  obtain ⟨j,nv',sv',a,k,h3⟩:=h2
  rcases h3 with ⟨_,h,_⟩ | ⟨x,tv,_,h,_⟩
  ·exact ⟨_,_,h⟩
  ·exact ⟨_,_,h⟩
 obtain ⟨z,b,rfl⟩:=he
 clear h2
 go_wp2
 go_ret2
 exact P2.out
theorem readAtom_zero:PartOk 116 (aR (pAtom 0) (atomTr 0)) 8:=by
 intro s R i nv sv N L l w h hs ha hN hL
 by_cases h40:hd l=40
 ·have hm:s.size≤maxLen:=by unfold maxLen;omega
  have H:Hid (RS w R s i nv sv N L):=h
  have HA:Hid (At s i l):=ha
  have HE:Hid (hd l=40):=h40
  rw [stepR_40 h40]
  clear h ha h40
  go_enter Tryz.func116,Tryz.ntmps116
  go_wp2_with fail
  refine (peek_at H.out.rd hm HA.out).mono ?_
  rw [HE.out]
  rintro e w1 ⟨rfl,n1,rfl⟩
  go_wp2
  go_ret2
  exact ⟨i,nv,sv,HA.out,(Kp.refl _ w).drewN n1,Or.inl ⟨rfl,rfl,H.out.rd.drewN n1⟩⟩
 ·exact readAtom_step 0 8 s R i nv sv N L l w h hs ha hN hL h40
theorem readAtom_succ (n:Nat) (hn:n<8) (hA:PartOk 60 (altR (pAtom n) (atomTr n)) (8 - (n:Int))):PartOk 116 (aR (pAtom (n+1)) (atomTr (n+1))) (8 - ((n+1:Nat):Int)):=by
 intro s R i nv sv N L l w h hs ha hN hL
 by_cases h40:hd l=40
 ·have hm:s.size≤maxLen:=by unfold maxLen;omega
  obtain ⟨p,r,rfl⟩:=hd_cons_of h40 (by omega)
  have H:Hid (RS w R s i nv sv N L):=h
  have HA:Hid (At s i ((40,p)::r)):=ha
  have hfr:=fits_alt (fits_atom n) r
  rw [boxR]
  generalize hres:(match altR (pAtom n) (atomTr n) r with|(none,x)=>((none,x):PR)|(some t,x)=>if hd x=41 then (some t,x.tail) else (none,x))=res
  have HRES:Hid ((match altR (pAtom n) (atomTr n) r with|(none,x)=>((none,x):PR)|(some t,x)=>if hd x=41 then (some t,x.tail) else (none,x))=res):=hres
  clear hres
  obtain ⟨dd,hdd⟩:∃dd:Int,dd=8 - ((n+1:Nat):Int):=⟨_,rfl⟩
  rw [←hdd]
  have hd8:dd<8:=by omega
  have hd0:0≤dd:=by omega
  have HDD:Hid (dd+1=8 - (n:Int)):=by show _=_;omega
  simp only [List.length_cons] at hN
  clear h ha h40 hdd
  go_enter Tryz.func116,Tryz.ntmps116
  go_wp2_with fail
  refine (peek_at H.out.rd hm HA.out).mono ?_
  rintro e w1 ⟨rfl,n1,rfl⟩
  simp only [hd]
  go_wp2_with fail
  refine (pass_any s R i nv sv 40 p r _ (H.out.rd.drewN n1) hm HA.out).mono ?_
  rintro e w2 ⟨rfl,j2,a2,r2,k2⟩
  have Q2:Hid (RS w2 R s j2 nv sv N L):=(H.out.drewN n1).kp k2 r2
  have K2:Hid (Kp (fun k=>R≤k) w w2):=((Kp.refl _ w).drewN n1).trans (k2.mono (fun b _ e=>by omega))
  have A2:Hid (At s j2 r):=a2
  clear a2 r2 k2
  go_wp2_with fail
  rw [HDD.out]
  refine (hA s R j2 nv sv N L r w2 Q2.out hs A2.out (by omega) hL).mono ?_
  rintro e w3 ⟨j3,nv3,sv3,a3,k3,h3⟩
  have K3:Hid (Kp (fun k=>R≤k) w w3):=K2.out.trans k3
  have A3:Hid (At s j3 (altR (pAtom n) (atomTr n) r).2):=a3
  obtain ⟨b0,b1⟩:=a3.hd_bounds
  clear k3 a3 Q2 K2
  rcases h3 with ⟨hno,rfl,r3⟩ | ⟨t,Ls,z,hs3,rfl,hz,q3,hls⟩
  ·have HE:Hid (altR (pAtom n) (atomTr n) r=(none,(altR (pAtom n) (atomTr n) r).2)):=by show _=_;rw [←hno]
   clear hno
   go_wp2
   go_ret2
   rw [←HRES.out,HE.out]
   exact ⟨j3,nv3,sv3,A3.out,K3.out,Or.inl ⟨rfl,rfl,r3⟩⟩
  ·have HE:Hid (altR (pAtom n) (atomTr n) r=(some t,(altR (pAtom n) (atomTr n) r).2)):=by show _=_;rw [←hs3]
   have Q3:Hid (RS w3 R s j3 nv3 sv3 (N++t.nd N.length L.length) (L++Ls)):=q3
   have HZ:Hid (z=((N.length+t.size:Nat):Int) - 1):=hz
   have HLS:Hid (Ls.map Prod.fst=t.steps):=hls
   generalize hx:(altR (pAtom n) (atomTr n) r).2=x at A3 b0 b1 HE
   clear hs3 hz q3 hls hx
   go_wp2_with fail
   refine (peek_at Q3.out.rd hm A3.out).mono ?_
   rintro e w4 ⟨rfl,n4,rfl⟩
   have Q4:Hid (RS (w3.drewN n4) R s j3 nv3 sv3 (N++t.nd N.length L.length) (L++Ls)):=Q3.out.drewN n4
   have K4:Hid (Kp (fun k=>R≤k) w (w3.drewN n4)):=K3.out.drewN n4
   clear Q3 K3
   generalize w3.drewN n4=w5 at Q4 K4
   by_cases h41:hd x=41
   ·obtain ⟨q,y,rfl⟩:=hd_cons_of h41 (by omega)
    simp only [hd]
    go_wp2_with fail
    refine (pass_any s R j3 nv3 sv3 41 q y _ Q4.out.rd hm A3.out).mono ?_
    rintro e w6 ⟨rfl,j6,a6,r6,k6⟩
    have Q6:Hid (RS w6 R s j6 nv3 sv3 (N++t.nd N.length L.length) (L++Ls)):=Q4.out.kp k6 r6
    have K6:Hid (Kp (fun k=>R≤k) w w6):=K4.out.trans (k6.mono (fun b _ e=>by omega))
    have A6:Hid (At s j6 y):=a6
    clear a6 r6 k6
    go_wp2
    go_ret2
    rw [←HRES.out,HE.out]
    simp only [hd,if_true,List.tail_cons]
    exact ⟨j6,nv3,sv3,A6.out,K6.out,Or.inr ⟨t,Ls,z,rfl,rfl,HZ.out,Q6.out,HLS.out⟩⟩
   ·have h41':(hd x != 41)=true:=bne_iff_ne.2 h41
    have H41:Hid (¬hd x=41):=h41
    clear h41
    go_wp2
    go_ret2
    rw [←HRES.out,HE.out]
    simp only [if_neg H41.out]
    exact ⟨j3,nv3,sv3,A3.out,K4.out,Or.inl ⟨rfl,rfl,Q4.out.rd⟩⟩
 ·exact readAtom_step (n+1) _ s R i nv sv N L l w h hs ha hN hL h40
theorem readAtom_all:∀n:Nat,n≤8→PartOk 116 (aR (pAtom n) (atomTr n)) (8 - (n:Int)):=by
 intro n
 induction n with
 | zero=>intro _;exact readAtom_zero
 | succ n ih =>
  intro hn
  have hf:=fits_atom n
  exact readAtom_succ n (by omega) (readAlt_any (readSeq_any (readRep_any (ih (by omega)) hf) (fits_rep hf)) (fits_seq hf))
theorem readAlt_top:PartOk 60 (altR (pAtom 8) (atomTr 8)) 0:=by
 have hf:=fits_atom 8
 have:=readAlt_any (readSeq_any (readRep_any (readAtom_all 8 (by omega)) hf) (fits_rep hf)) (fits_seq hf)
 simpa using this
section
theorem results_ctt {fn:Func} {a u v:Tmp} {t:TypeId} (h:fn.results=#[.cell a t,.tmp u,.tmp v]) (tmps:Array Value) (P:Program) (w:World) (b:Addr) (hp:tmps.getD a undef=.pointer (some b)) (x:Value) (hl:(loadVar t b).run P w=.ok x w):(results fn tmps).run P w=.ok (.tuple #[x,tmps.getD u undef,tmps.getD v undef]) w:=by
 have hp':tmps[a]?.getD undef=.pointer (some b):=by simpa using hp
 simp [results,h,hp',asAddr,hl]
theorem Tryz.rowP:(Tryz.prog.underlying 70).map TypeDesc.isRow=some true:=by kernel_rfl
theorem Tryz.sizeP:(Tryz.prog.info? 70).map (·.size)=some 4:=by kernel_rfl
structure PAt (w:World) (B:Nat) (a b c d:Value):Prop where
 c0:w.cell? ⟨B,0,none⟩=some a
 c1:w.cell? ⟨B,1,none⟩=some b
 c2:w.cell? ⟨B,2,none⟩=some c
 c3:w.cell? ⟨B,3,none⟩=some d
 fz:∀o,w.frozen? ⟨B,o,none⟩=false
theorem PAt.sm {w w':World} {B:Nat} {a b c d:Value} (h:PAt w B a b c d) (s:Sm w w' B):PAt w' B a b c d :=
 ⟨(s.cell 0).trans h.c0,(s.cell 1).trans h.c1,(s.cell 2).trans h.c2,(s.cell 3).trans h.c3,fun o=>(s.froz o).trans (h.fz o)⟩
theorem PAt.lt {w:World} {B:Nat} {a b c d:Value} (h:PAt w B a b c d):B<w.heap.size:=World.block_lt_of_cell? w ⟨B,0,none⟩ h.c0
theorem PAt.load {w:World} {B:Nat} {a b c d:Value} (h:PAt w B a b c d):(loadVar 70 ⟨B,0,none⟩).run Tryz.prog w=.ok (.agg #[a,b,c,d]) w:=by
 obtain ⟨dd,hu,hd⟩:=Option.map_eq_some_iff.1 Tryz.rowP
 refine run_loadVar_mid w B 0 70 [a,b,c,d] dd ?_ hu hd Tryz.sizeP
 intro k v hv
 rw [Nat.zero_add]
 match k,hv with
 | 0,hv=>simp at hv;rw [h.c0,hv]
 | 1,hv=>simp at hv;rw [h.c1,hv]
 | 2,hv=>simp at hv;rw [h.c2,hv]
 | 3,hv=>simp at hv;rw [h.c3,hv]
def ReadPO (s : ByteArray) (w : World) (e : Ending) (w' : World) : Prop :=
  Nw w w' ∧
  ((∃ (j : Nat) (x : List Tok), pTopOf (pAtom 8) (toks 0 (bI s)) = (none, x) ∧ At s j x ∧ e = .returned (.tuple #[.agg #[.slice none 0 0, .slice none 0 0, .bool false, .int .i64 0], .bool false, .int .i64 j])) ∨
   (∃ (t : AltOf (Atom 8)) (win : Option Int) (nv sv : Value) (L : List (St × Value)) (x : List Tok), pTopOf (pAtom 8) (toks 0 (bI s)) = (some (t, win), x) ∧
      e = .returned (.tuple #[.agg #[nv, sv, .bool win.isSome, .int .i64 (win.getD 0)], .bool true, .int .i64 0]) ∧
      w'.ownsRow w.heap.size 186 6 nv ((altTr (atomTr 8) t).nd 0 0).length (ndsC ((altTr (atomTr 8) t).nd 0 0)) ∧ w'.ownsRow w.heap.size 100 4 sv L.length (stsC L) ∧
      (∀ x ∈ L, w'.ownsRow w.heap.size 118 11 x.2 x.1.tests.length (tstsC x.1.tests)) ∧ L.map Prod.fst = (altTr (atomTr 8) t).steps))
theorem rd_new (w:World) (s:ByteArray) (t:TypeId) {R:Nat} (hR:R=w.heap.size):Rd (w.alloc (.cells #[.string s,.int .i64 0,.slice none 0 0,.slice none 0 0] t)) R s 0 (.slice none 0 0) (.slice none 0 0):=by
 subst hR
 constructor <;> simp [go_sem,World.cell?_alloc_at,World.frozen?_alloc_at]
theorem pat_new (w:World) (t:TypeId) {B:Nat} (hB:B=w.heap.size):PAt (w.alloc (.cells #[.slice none 0 0,.slice none 0 0,.bool false,.int .i64 0] t)) B (.slice none 0 0) (.slice none 0 0) (.bool false) (.int .i64 0):=by
 subst hB
 constructor <;> simp [go_sem,World.cell?_alloc_at,World.frozen?_alloc_at]
section
variable {α:Type} {pa:List Tok→Option α×List Tok} {f:α→Nt}
theorem pTop_none {l:List Tok} (h:(altR pa f l).1=none):pTopOf pa l=(none,(altR pa f l).2):=by
 simp only [altR] at h ⊢
 cases hp:pAlt pa l with
 | mk o x=>cases o with
  | none=>simp [pTopOf,hp]
  | some a=>rw [hp] at h;simp at h
theorem pTop_some {l:List Tok} {u:Nt} (h:(altR pa f l).1=some u):∃t,u=altTr f t∧pAlt pa l=(some t,(altR pa f l).2):=by
 simp only [altR] at h ⊢
 cases hp:pAlt pa l with
 | mk o x=>cases o with
  | none=>rw [hp] at h;simp at h
  | some a=>rw [hp] at h;simp at h;exact ⟨a,h.symm,rfl⟩
theorem pTop_end {l:List Tok} {t:AltOf α} (h:pAlt pa l=(some t,[])):pTopOf pa l=(some (t,none),[]):=by simp [pTopOf,h]
theorem pTop_other {l x:List Tok} {t:AltOf α} (h:pAlt pa l=(some t,x)) (h0:¬x=[]) (h64:¬hd x=64):pTopOf pa l=(none,x):=by
 match x,h0,h64 with
 | (c,p)::r,_,h64=>simp only [hd] at h64;simp [pTopOf,h,h64]
theorem pTop_w1 {l r x:List Tok} {p:Nat} {t:AltOf α} (h:pAlt pa l=(some t,(64,p)::r)) (hn:pNum 0 0 r=(none,x)):pTopOf pa l=(none,x):=by simp [pTopOf,h,hn]
theorem pTop_w2 {l r:List Tok} {p:Nat} {v:Int} {t:AltOf α} (h:pAlt pa l=(some t,(64,p)::r)) (hn:pNum 0 0 r=(some v,[])):pTopOf pa l=(some (t,some v),[]):=by simp [pTopOf,h,hn]
theorem pTop_w3 {l r y:List Tok} {x:Tok} {p:Nat} {v:Int} {t:AltOf α} (h:pAlt pa l=(some t,(64,p)::r)) (hn:pNum 0 0 r=(some v,x::y)):pTopOf pa l=(none,x::y):=by simp [pTopOf,h,hn]
end
theorem PAt.drew {w:World} {B:Nat} {a b c d:Value} (h:PAt w B a b c d):PAt w.drew B a b c d:=⟨h.c0,h.c1,h.c2,h.c3,h.fz⟩
theorem PAt.set {w:World} {B:Nat} {a b c d:Value} (h:PAt w B a b c d) (a' b' c' d':Value):PAt ((((w.setCell ⟨B,0,none⟩ a').setCell ⟨B,1,none⟩ b').setCell ⟨B,2,none⟩ c').setCell ⟨B,3,none⟩ d') B a' b' c' d':=by
 obtain ⟨c0,c1,c2,c3,fz⟩:=h
 constructor <;> simp [go_sem,c0,c1,c2,c3,fz]
theorem readP_any (s:ByteArray) (w:World) (hs:s.size≤1000):Calls Tryz.prog 41 #[.string s] w (ReadPO s w):=by
 have hm:s.size≤maxLen:=by unfold maxLen;omega
 go_enter Tryz.func41,Tryz.ntmps41
 go_wp2_with fail
 refine (passBlanks_any s (w.heap.size+1) 0 (.slice none 0 0) (.slice none 0 0) _ (rd_new _ s _ (by simp)) hm (Nat.zero_le _)).mono ?_
 rintro e w1 ⟨rfl,j1,_,hj1,ht,hb,r1,k1⟩
 have A1:Hid (At s j1 (toks 0 (bI s))):=⟨hj1,by simpa using ht,hb⟩
 have P1:Hid (PAt w1 w.heap.size (.slice none 0 0) (.slice none 0 0) (.bool false) (.int .i64 0)):=by
  have h0:=pat_new w 70 (B:=w.heap.size) rfl
  have h1:=h0.sm (((Kp.refl (fun _=>False) _).alloc (.cells #[.string s,.int .i64 0,.slice none 0 0,.slice none 0 0] 140)).sm h0.lt (fun h=>h))
  exact h1.sm (k1.sm h1.lt (by omega))
 have Q1:Hid (RS w1 (w.heap.size+1) s j1 (.slice none 0 0) (.slice none 0 0) [] []):=⟨r1,World.ownsRow_nil _ _ _ _,World.ownsRow_nil _ _ _ _,by simp⟩
 have K1:Hid (Nw w w1):=(((Kp.refl _ w).alloc _).alloc _).trans' k1 (by intro b hb e;omega)
 have hll:(toks 0 (bI s)).length≤s.size:=A1.out.length
 generalize hl:toks 0 (bI s)=l at A1 hll
 have HL:Hid (toks 0 (bI s)=l):=hl
 clear hj1 ht hb r1 k1 hl
 go_wp2_with fail
 refine (readAlt_top s (w.heap.size+1) j1 (.slice none 0 0) (.slice none 0 0) [] [] l w1 Q1.out hs A1.out (by simp;omega) (by simp)).mono ?_
 rintro e w2 ⟨j2,nv2,sv2,a2,k2,h2⟩
 have A2:Hid (At s j2 (altR (pAtom 8) (atomTr 8) l).2):=a2
 have P2:Hid (PAt w2 w.heap.size (.slice none 0 0) (.slice none 0 0) (.bool false) (.int .i64 0)):=P1.out.sm (k2.sm P1.out.lt (by omega))
 have K2:Hid (Nw w w2):=K1.out.trans' k2 (by intro b hb e;omega)
 have hPl:=P2.out.lt
 have HKS:Hid (∀a b c d,Nw w ((((w2.setCell ⟨w.heap.size,0,none⟩ a).setCell ⟨w.heap.size,1,none⟩ b).setCell ⟨w.heap.size,2,none⟩ c).setCell ⟨w.heap.size,3,none⟩ d)):=fun a b c d=>(((K2.out.setCell (p:=⟨w.heap.size,0,none⟩) (Or.inl (Nat.le_refl _)) _).setCell (p:=⟨w.heap.size,1,none⟩) (Or.inl (Nat.le_refl _)) _).setCell (p:=⟨w.heap.size,2,none⟩) (Or.inl (Nat.le_refl _)) _).setCell (p:=⟨w.heap.size,3,none⟩) (Or.inl (Nat.le_refl _)) _
 clear a2 k2 P1 Q1 K1 A1
 rcases h2 with ⟨hn,rfl,r2⟩ | ⟨u,Ls,z,hu,rfl,hz,q2,hls⟩
 ·have HT:Hid (pTopOf (pAtom 8) l=(none,(altR (pAtom 8) (atomTr 8) l).2)):=pTop_none hn
  have c1:=r2.c1
  have hRP:¬w.heap.size+1=w.heap.size:=by omega
  obtain ⟨p0,p1,p2,p3,pz⟩:=P2.out
  clear hn
  go_wp2
  go_region
  all_goals
   go_wp2
   refine bodyPost_ret (results_ctt Tryz.results41 _ _ _ ⟨w.heap.size,0,none⟩ rfl _ (P2.out.set _ _ _ _).drew.load) rfl ?_
   refine ⟨(HKS.out _ _ _ _).drew,Or.inl ⟨j2,_,?_,A2.out,rfl⟩⟩
   rw [HL.out,HT.out]
 ·obtain ⟨t,ht,hpa⟩:=pTop_some hu
  subst ht
  have hnv:∃p n c,nv2=.slice p n c:=by
   obtain ⟨p,c,h⟩:=ownsLenX q2.nodes
   exact ⟨p,_,c,h⟩
  have hsv:∃p n c,sv2=.slice p n c:=by
   obtain ⟨p,c,h⟩:=ownsLenX q2.steps
   exact ⟨p,_,c,h⟩
  obtain ⟨np,nn,nc,rfl⟩:=hnv
  obtain ⟨sp,sn,sc,rfl⟩:=hsv
  have HPA:Hid (pAlt (pAtom 8) l=(some t,(altR (pAtom 8) (atomTr 8) l).2)):=hpa
  have Q2:Hid (RS w2 (w.heap.size+1) s j2 (.slice np nn nc) (.slice sp sn sc) ((altTr (atomTr 8) t).nd 0 0) Ls):=by
   have:=q2
   simp only [List.nil_append,List.length_nil] at this
   exact this
  have HLS:Hid (Ls.map Prod.fst=(altTr (atomTr 8) t).steps):=hls
  generalize hx:(altR (pAtom 8) (atomTr 8) l).2=x at A2 HPA
  obtain ⟨b0,b1⟩:=A2.out.hd_bounds
  clear hu hz q2 hls hpa hx
  go_wp2_with fail
  refine (peek_at Q2.out.rd hm A2.out).mono ?_
  rintro e w3 ⟨rfl,n3,rfl⟩
  have Q3:Hid (RS (w2.drewN n3) (w.heap.size+1) s j2 (.slice np nn nc) (.slice sp sn sc) ((altTr (atomTr 8) t).nd 0 0) Ls):=Q2.out.drewN n3
  have P3:Hid (PAt (w2.drewN n3) w.heap.size (.slice none 0 0) (.slice none 0 0) (.bool false) (.int .i64 0)):=⟨P2.out.c0,P2.out.c1,P2.out.c2,P2.out.c3,P2.out.fz⟩
  have K3:Hid (Nw w (w2.drewN n3)):=K2.out.drewN n3
  have hPl3:w.heap.size<(w2.drewN n3).heap.size:=hPl
  clear Q2 P2 K2 HKS hPl
  generalize w2.drewN n3=w4 at Q3 P3 K3 hPl3
  have HKS:Hid (∀W,Nw w W→∀a b c d,Nw w ((((W.setCell ⟨w.heap.size,0,none⟩ a).setCell ⟨w.heap.size,1,none⟩ b).setCell ⟨w.heap.size,2,none⟩ c).setCell ⟨w.heap.size,3,none⟩ d)):=fun W k a b c d=>(((k.setCell (p:=⟨w.heap.size,0,none⟩) (Or.inl (Nat.le_refl _)) _).setCell (p:=⟨w.heap.size,1,none⟩) (Or.inl (Nat.le_refl _)) _).setCell (p:=⟨w.heap.size,2,none⟩) (Or.inl (Nat.le_refl _)) _).setCell (p:=⟨w.heap.size,3,none⟩) (Or.inl (Nat.le_refl _)) _
  have HOK:Hid (∀(W:World) (j:Nat) (win:Option Int) (y:List Tok),RS W (w.heap.size+1) s j (.slice np nn nc) (.slice sp sn sc) ((altTr (atomTr 8) t).nd 0 0) Ls→Nw w W→pTopOf (pAtom 8) l=(some (t,win),y)→∀a b c d,
    ReadPO s w (.returned (.tuple #[.agg #[.slice np nn nc,.slice sp sn sc,.bool win.isSome,.int .i64 (win.getD 0)],.bool true,.int .i64 0])) ((((W.setCell ⟨w.heap.size,0,none⟩ a).setCell ⟨w.heap.size,1,none⟩ b).setCell ⟨w.heap.size,2,none⟩ c).setCell ⟨w.heap.size,3,none⟩ d)):=by
   intro W j win y q k he a b c d
   have kk:Kp (fun b=>b=w.heap.size) W ((((W.setCell ⟨w.heap.size,0,none⟩ a).setCell ⟨w.heap.size,1,none⟩ b).setCell ⟨w.heap.size,2,none⟩ c).setCell ⟨w.heap.size,3,none⟩ d):=((((Kp.refl (fun b=>b=w.heap.size) W).setCell (p:=⟨w.heap.size,0,none⟩) (Or.inr rfl) _).setCell (p:=⟨w.heap.size,1,none⟩) (Or.inr rfl) _).setCell (p:=⟨w.heap.size,2,none⟩) (Or.inr rfl) _).setCell (p:=⟨w.heap.size,3,none⟩) (Or.inr rfl) _
   have ow:∀ {e size v n xs},W.ownsRow (w.heap.size+1+1) e size v n xs→((((W.setCell ⟨w.heap.size,0,none⟩ a).setCell ⟨w.heap.size,1,none⟩ b).setCell ⟨w.heap.size,2,none⟩ c).setCell ⟨w.heap.size,3,none⟩ d).ownsRow w.heap.size e size v n xs:=by
    intro e size v n xs ho
    exact ownsBaseX (ownsKpX ho kk (fun g hg e=>by have:=(ho.lt g hg).1;omega)) (by omega)
   exact ⟨HKS.out W k a b c d,Or.inr ⟨t,win,.slice np nn nc,.slice sp sn sc,Ls,y,by rw [HL.out,he],rfl,ow q.nodes,ow q.steps,fun x hx=>ow (q.tests x hx),HLS.out⟩⟩
  by_cases h64:hd x=64
  ·obtain ⟨p,r,rfl⟩:=hd_cons_of h64 (by omega)
   simp only [hd]
   go_wp2_with fail
   refine (pass_any s (w.heap.size+1) j2 (.slice np nn nc) (.slice sp sn sc) 64 p r _ Q3.out.rd hm A2.out).mono ?_
   rintro e w5 ⟨rfl,j5,a5,r5,k5⟩
   have Q5:Hid (RS w5 (w.heap.size+1) s j5 (.slice np nn nc) (.slice sp sn sc) ((altTr (atomTr 8) t).nd 0 0) Ls):=Q3.out.kp k5 r5
   have P5:Hid (PAt w5 w.heap.size (.slice none 0 0) (.slice none 0 0) (.bool false) (.int .i64 0)):=P3.out.sm (k5.sm hPl3 (by omega))
   have K5:Hid (Nw w w5):=K3.out.trans' k5 (by intro b hb e;omega)
   have A5:Hid (At s j5 r):=a5
   have hPl5:=P5.out.lt
   clear a5 r5 k5
   go_wp2_with fail
   refine (readNumber_any s (w.heap.size+1) j5 (.slice np nn nc) (.slice sp sn sc) r _ Q5.out.rd hm A5.out).mono ?_
   rintro e w6 ⟨v,b,rfl,hv,j6,a6,r6,k6⟩
   have Q6:Hid (RS w6 (w.heap.size+1) s j6 (.slice np nn nc) (.slice sp sn sc) ((altTr (atomTr 8) t).nd 0 0) Ls):=Q5.out.kp k6 r6
   have P6:Hid (PAt w6 w.heap.size (.slice none 0 0) (.slice none 0 0) (.bool false) (.int .i64 0)):=P5.out.sm (k6.sm hPl5 (by omega))
   have K6:Hid (Nw w w6):=K5.out.trans' k6 (by intro b hb e;omega)
   have A6:Hid (At s j6 (pNum 0 0 r).2):=a6
   have c1:=r6.c1
   have c2:=r6.c2
   have c3:=r6.c3
   obtain ⟨p0,p1,p2,p3,pz⟩:=P6.out
   have HV:Hid ((pNum 0 0 r).1=(if b=true then some v else none)):=hv
   have hj6:=a6.1
   clear a6 r6 k6 hv Q5 P5 K5
   cases b with
   | false =>
    have HT:Hid (pTopOf (pAtom 8) l=(none,(pNum 0 0 r).2)):=pTop_w1 HPA.out (by have:=HV.out;simp at this;rw [←this])
    go_wp2
    go_region
    all_goals
     go_wp2
     refine bodyPost_ret (results_ctt Tryz.results41 _ _ _ ⟨w.heap.size,0,none⟩ rfl _ (P6.out.set _ _ _ _).drew.load) rfl ?_
     refine ⟨(HKS.out _ K6.out _ _ _ _).drew,Or.inl ⟨j6,_,?_,A6.out,rfl⟩⟩
     rw [HL.out,HT.out]
   | true =>
    have hp:pNum 0 0 r=(some v,(pNum 0 0 r).2):=by have:=HV.out;simp at this;rw [←this]
    generalize hy:(pNum 0 0 r).2=y at A6 hp
    have HP:Hid (pNum 0 0 r=(some v,y)):=hp
    clear hp hy HV
    match y,A6,HP with
    | [],A6,HP =>
     have hje:=A6.out.nil
     have HT:Hid (pTopOf (pAtom 8) l=(some (t,some v),[])):=pTop_w2 HPA.out HP.out
     subst hje
     go_wp2
     refine bodyPost_ret (results_ctt Tryz.results41 _ _ _ ⟨w.heap.size,0,none⟩ rfl _ (P6.out.set _ _ _ _).load) rfl ?_
     exact HOK.out _ _ (some v) _ Q6.out K6.out HT.out _ _ _ _
    | x::y,A6,HP =>
     obtain ⟨hjl,_⟩:=A6.out.cons
     have HT:Hid (pTopOf (pAtom 8) l=(none,x::y)):=pTop_w3 HPA.out HP.out
     go_wp2
     go_region
     all_goals
      go_wp2
      refine bodyPost_ret (results_ctt Tryz.results41 _ _ _ ⟨w.heap.size,0,none⟩ rfl _ (P6.out.set _ _ _ _).drew.load) rfl ?_
      refine ⟨(HKS.out _ K6.out _ _ _ _).drew,Or.inl ⟨j6,_,?_,A6.out,rfl⟩⟩
      rw [HL.out,HT.out]
  ·have h64':(hd x == 64)=false:=by simp [h64]
   have c1:=Q3.out.rd.c1
   have c2:=Q3.out.rd.c2
   have c3:=Q3.out.rd.c3
   obtain ⟨p0,p1,p2,p3,pz⟩:=P3.out
   have H64:Hid (¬hd x=64):=h64
   clear h64
   match x,A2,HPA,H64,h64' with
   | [],A2,HPA,H64,h64' =>
    have hje:=A2.out.nil
    have HT:Hid (pTopOf (pAtom 8) l=(some (t,none),[])):=pTop_end HPA.out
    subst hje
    go_wp2
    refine bodyPost_ret (results_ctt Tryz.results41 _ _ _ ⟨w.heap.size,0,none⟩ rfl _ (P3.out.set _ _ _ _).load) rfl ?_
    exact HOK.out _ _ none _ Q3.out K3.out HT.out _ _ _ _
   | (c,p)::ys,A2,HPA,H64,h64' =>
    obtain ⟨hjl,_⟩:=A2.out.cons
    have HT:Hid (pTopOf (pAtom 8) l=(none,(c,p)::ys)):=pTop_other HPA.out (by simp) H64.out
    simp only [hd] at h64' b0 b1 ⊢
    go_wp2
    go_region
    all_goals
     go_wp2
     refine bodyPost_ret (results_ctt Tryz.results41 _ _ _ ⟨w.heap.size,0,none⟩ rfl _ (P3.out.set _ _ _ _).drew.load) rfl ?_
     refine ⟨(HKS.out _ K3.out _ _ _ _).drew,Or.inl ⟨j2,_,?_,A2.out,rfl⟩⟩
     rw [HL.out,HT.out]
end
end Go.Proofs.YtcboiapggnmpfaaGreatDoor
