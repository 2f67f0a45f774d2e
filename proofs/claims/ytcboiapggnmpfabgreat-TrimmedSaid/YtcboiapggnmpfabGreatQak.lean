import Derived.Test.YtcboiapggnmpfabGreatQaj
namespace Go.Proofs.YtcboiapggnmpfabGreat
set_option maxRecDepth 100000
set_option maxHeartbeats 1000000
set_option linter.unusedSimpArgs false
set_option linter.unusedVariables false
open Go.RowKit
section
def PtPost (s : ByteArray) (R : Nat) (w : World) (N : List Nd) (L : List (St × Value)) (r : PR) (e : Ending) (w' : World) : Prop :=
  ∃ (j : Nat) (nv sv : Value), At s j r.2 ∧ Kp (fun k => R ≤ k) w w' ∧
    ((r.1 = none ∧ e = .returned (.tuple #[.int .i64 0, .bool false]) ∧ Rd w' R s j nv sv) ∨
     (∃ t Ls z, r.1 = some t ∧ e = .returned (.tuple #[.int .i64 z, .bool true]) ∧ z = ((N.length + t.size : Nat) : Int) - 1 ∧ RS w' R s j nv sv (N ++ t.nd N.length L.length) (L ++ Ls) ∧ Ls.map Prod.fst = t.steps))
def PartOk (F:FuncId) (pa:List Tok→PR) (d:Int):Prop:=∀(s:ByteArray) (R i:Nat) (nv sv:Value) (N:List Nd) (L:List (St×Value)) (l:List Tok) (w:World),RS w R s i nv sv N L→s.size≤1000→At s i l→N.length+2*l.length≤90000→L.length≤N.length →
 Calls Tryz.prog F #[.pointer (some ⟨R,0,none⟩),.int .i64 d] w (PtPost s R w N L (pa l))
section
variable {α:Type} {pa:List Tok→Option α×List Tok} {f:α→Nt}
theorem repR_none {l:List Tok} (h:(aR pa f l).1=none):repR pa f l=(none,(aR pa f l).2):=by
 simp only [aR] at h
 simp only [repR,pRep,aR]
 cases hp:pa l with
 | mk o x=>cases o with
  | none=>rfl
  | some a=>rw [hp] at h;simp at h
theorem repR_some {l:List Tok} {t:Nt} (h:(aR pa f l).1=some t):repR pa f l=match pRepS (aR pa f l).2 with|(none,y)=>(none,y)|(some none,y)=>(some t,y)|(some (some q),y)=>(some (.rnd q.1 q.2 t),y):=by
 simp only [aR] at h
 simp only [repR,pRep,aR]
 cases hp:pa l with
 | mk o x=>cases o with
  | none=>rw [hp] at h;simp at h
  | some a =>
   rw [hp] at h
   simp at h
   subst h
   simp only
   cases hq:pRepS x with
   | mk q y=>cases q with
    | none=>rfl
    | some q=>cases q <;> rfl
end
theorem nd_rnd (N:List Nd) (t:Nt) (lo hi:Int) (st:Nat):N++(Nt.rnd lo hi t).nd N.length st=(N++t.nd N.length st)++[⟨3,0,((N.length+t.size:Nat):Int) - 1,0,lo,hi⟩]:=by simp [Nt.nd]
theorem len_nd (N:List Nd) (t:Nt) (st:Nat):(N++t.nd N.length st).length=N.length+t.size:=by simp [t.nd_length]
theorem own_kp {w w':World} {R n size base:Nat} {e:TypeId} {v:Value} {xs:List Value} (h:w.ownsRow (R+1) e size v n xs) (k:Kp (fun k=>k=R∨v.ownBlock=some k) w w'):Kp (fun k=>R≤k) w w':=by
 have hb:=h.lt
 refine k.mono (fun b _ e => ?_)
 rcases e with e|e
 ·omega
 ·have:=hb b e;omega
theorem pRepS_no {x:List Tok} (h1:¬hd x=42) (h2:¬hd x=43) (h3:¬hd x=63) (h4:¬hd x=123):pRepS x=(some none,x):=by
 match x with
 | []=>rfl
 | (c,p)::r=>simp only [hd] at h1 h2 h3 h4;simp [pRepS,h1,h2,h3,h4]
theorem readRep_any {α:Type} {pa:List Tok→Option α×List Tok} {f:α→Nt} {d:Int} (hA:PartOk 127 (aR pa f) d) (hf:∀l,Fits l (aR pa f l)):PartOk 116 (repR pa f) d:=by
 intro s R i nv sv N L l w h hs ha hN hL
 have hm:s.size≤maxLen:=by unfold maxLen;omega
 have hfl:=hf l
 go_enter Tryz.func116,Tryz.ntmps116
 go_wp2_with fail
 refine (hA s R i nv sv N L l w h hs ha hN hL).mono ?_
 rintro e w1 ⟨j1,nv1,sv1,a1,k1,h1⟩
 have A1:Hid (At s j1 (aR pa f l).2):=a1
 have K1:Hid (Kp (fun k=>R≤k) w w1):=k1
 have HFL:Hid (Fits l (aR pa f l)):=hfl
 clear k1 h ha hfl
 rcases h1 with ⟨hn,rfl,r1⟩ | ⟨t,Ls,z,hs1,rfl,hz,q1,hls⟩
 ·have HN:Hid ((aR pa f l).1=none):=hn
  clear hn
  go_wp2
  go_ret2
  rw [repR_none HN.out]
  exact ⟨j1,nv1,sv1,A1.out,K1.out,Or.inl ⟨rfl,rfl,r1⟩⟩
 ·have HT:Hid ((aR pa f l).1=some t):=hs1
  have Q1:Hid (RS w1 R s j1 nv1 sv1 (N++t.nd N.length L.length) (L++Ls)):=q1
  have HLS:Hid (Ls.map Prod.fst=t.steps):=hls
  have HRR:Hid (repR pa f l=match pRepS (aR pa f l).2 with|(none,y)=>(none,y)|(some none,y)=>(some t,y)|(some (some q),y)=>(some (.rnd q.1 q.2 t),y)):=repR_some hs1
  have hNN:(N++t.nd N.length L.length).length≤100000:=by
   have:=HFL.out.2 t hs1
   rw [len_nd];omega
  have HZ:Hid (z=((N.length+t.size:Nat):Int) - 1):=hz
  have hML:=len_nd N t L.length
  generalize hMM:N++t.nd N.length L.length=M at Q1 hNN hML
  have HMM:Hid (N++t.nd N.length L.length=M):=hMM
  have HML:Hid (M.length=N.length+t.size):=hML
  clear hz hMM hML
  obtain ⟨b0,b1⟩:=a1.hd_bounds
  generalize hx:(aR pa f l).2=x at b0 b1
  have HX:Hid ((aR pa f l).2=x):=hx
  have A1':Hid (At s j1 x):=by rw [←hx];exact A1.out
  rw [hx] at HRR
  clear hs1 q1 hls a1 hx A1
  go_wp2_with fail
  refine (peek_at Q1.out.rd hm A1'.out).mono ?_
  rintro e w2 ⟨rfl,n2,rfl⟩
  have Q2:Hid (RS (w1.drewN n2) R s j1 nv1 sv1 M (L++Ls)):=Q1.out.drewN n2
  have K2:Hid (Kp (fun k=>R≤k) w (w1.drewN n2)):=K1.out.drewN n2
  clear Q1 K1
  generalize w1.drewN n2=w3 at Q2 K2
  have HEND:Hid (∀(lo hi:Int) (y:List Tok) (w':World),NdPost s R sv1 w3 nv1 (M++[⟨3,0,z,0,lo,hi⟩]) y w'→repR pa f l=(some (.rnd lo hi t),y) →
    PtPost s R w N L (repR pa f l) (.returned (.tuple #[.int .i64 M.length,.bool true])) w'):=by
   rintro lo hi y w' ⟨j,nv',a,r,o,k,_⟩ he
   rw [he]
   refine ⟨j,nv',sv1,a,K2.out.trans (own_kp (base:=0) Q2.out.nodes k),Or.inr ⟨_,Ls,M.length,rfl,rfl,?_,?_,by simpa [Nt.steps] using HLS.out⟩⟩
   ·rw [HML.out];simp only [Nt.size];omega
   ·rw [nd_rnd,HMM.out,←HZ.out];exact Q2.out.nd r o k
  by_cases h42:hd x=42
  ·obtain ⟨p,r,rfl⟩:=hd_cons_of h42 (by omega)
   simp only [hd]
   go_wp2_with fail
   refine (repeat_any s R j1 nv1 sv1 _ _ 0 (-1) 42 p r _ Q2.out.rd Q2.out.nodes hNN hm A1'.out).mono ?_
   rintro e w4 ⟨rfl,h4⟩
   go_wp2
   go_ret2
   exact HEND.out 0 (-1) r w4 h4 (by rw [HRR.out];rfl)
  by_cases h43:hd x=43
  ·obtain ⟨p,r,rfl⟩:=hd_cons_of h43 (by omega)
   simp only [hd]
   go_wp2_with fail
   refine (repeat_any s R j1 nv1 sv1 _ _ 1 (-1) 43 p r _ Q2.out.rd Q2.out.nodes hNN hm A1'.out).mono ?_
   rintro e w4 ⟨rfl,h4⟩
   go_wp2
   go_ret2
   exact HEND.out 1 (-1) r w4 h4 (by rw [HRR.out];rfl)
  by_cases h63:hd x=63
  ·obtain ⟨p,r,rfl⟩:=hd_cons_of h63 (by omega)
   simp only [hd]
   go_wp2_with fail
   refine (repeat_any s R j1 nv1 sv1 _ _ 0 1 63 p r _ Q2.out.rd Q2.out.nodes hNN hm A1'.out).mono ?_
   rintro e w4 ⟨rfl,h4⟩
   go_wp2
   go_ret2
   exact HEND.out 0 1 r w4 h4 (by rw [HRR.out];rfl)
  by_cases h123:hd x=123
  ·obtain ⟨p,r,rfl⟩:=hd_cons_of h123 (by omega)
   simp only [hd]
   go_wp2_with fail
   refine (readCounts_any s R j1 nv1 sv1 _ _ 123 p r _ Q2.out.rd Q2.out.nodes hNN hm A1'.out).mono ?_
   rintro e w4 h4
   have HE:Hid (repR pa f l=match pLow r with|(none,y)=>(none,y)|(some none,y)=>(some t,y)|(some (some q),y)=>(some (.rnd q.1 q.2 t),y)):=HRR.out
   rcases h4 with ⟨hn,rfl,j,a,r4,k⟩ | ⟨lo,hi,hq,rfl,h4⟩
   ·have hp:pLow r=(none,(pLow r).2):=by rw [←hn]
    have HP:Hid (pLow r=(none,(pLow r).2)):=hp
    clear hp hn
    go_wp2
    go_ret2
    rw [HE.out,HP.out]
    exact ⟨j,nv1,sv1,a,K2.out.trans (k.mono (fun b _ e=>by omega)),Or.inl ⟨rfl,rfl,r4⟩⟩
   ·have hp:pLow r=(some (some (lo,hi)),(pLow r).2):=by rw [←hq]
    have HP:Hid (pLow r=(some (some (lo,hi)),(pLow r).2)):=hp
    clear hp hq
    go_wp2
    go_ret2
    exact HEND.out lo hi _ w4 h4 (by rw [HE.out,HP.out])
  ·have e1:=pRepS_no h42 h43 h63 h123
   have n1:(hd x == 42)=false:=by simp [h42]
   have n2:(hd x == 43)=false:=by simp [h43]
   have n3:(hd x == 63)=false:=by simp [h63]
   have n4:(hd x == 123)=false:=by simp [h123]
   have HE:Hid (repR pa f l=(some t,x)):=by
    show _=_
    rw [HRR.out,e1]
   clear h42 h43 h63 h123 e1
   go_wp2
   go_ret2
   rw [HE.out]
   refine ⟨j1,nv1,sv1,A1'.out,K2.out,Or.inr ⟨t,Ls,z,rfl,rfl,HZ.out,?_,HLS.out⟩⟩
   rw [HMM.out];exact Q2.out
end
theorem nd_two (N:List Nd) (t u:Nt) (op:Int) (st st':Nat) (h:st'=st+t.steps.length):N++(Nt.two op t u).nd N.length st=((N++t.nd N.length st)++u.nd (N++t.nd N.length st).length st')++[⟨op,0,((N.length+t.size:Nat):Int) - 1,((N.length+t.size+u.size:Nat):Int) - 1,0,0⟩]:=by
 rw [h,len_nd];simp [Nt.nd]
theorem fst_len {Ls:List (St×Value)} {ss:List St} (h:Ls.map Prod.fst=ss):Ls.length=ss.length:=by rw [←h];simp
theorem goOn_stop {op:Int} {pr:List Tok→PR} {skip:List Tok→Option (List Tok)} {n:Nat} {t:Nt} {x:List Tok} (h:skip x=none):goOn op pr skip n t x=(some t,x):=by
 cases n with
 | zero=>rfl
 | succ n=>simp [goOn,h]
theorem goOn_fail {op:Int} {pr:List Tok→PR} {skip:List Tok→Option (List Tok)} {n:Nat} {t:Nt} {x y z:List Tok} (h:skip x=some y) (hp:(pr y).1=none) (hz:(pr y).2=z):goOn op pr skip (n+1) t x=(none,z):=by
 have:pr y=(none,z):=by rw [←hp,←hz]
 simp [goOn,h,this]
theorem goOn_next {op:Int} {pr:List Tok→PR} {skip:List Tok→Option (List Tok)} {n:Nat} {t u:Nt} {x y z:List Tok} (h:skip x=some y) (hp:(pr y).1=some u) (hz:(pr y).2=z):goOn op pr skip (n+1) t x=goOn op pr skip n (.two op t u) z:=by
 have:pr y=(some u,z):=by rw [←hp,←hz]
 simp [goOn,h,this]
structure Mid2 (s:ByteArray) (R:Nat) (w:World) (N:List Nd) (L:List (St×Value)) (l:List Tok) (op:Int) (pr:List Tok→PR) (skip:List Tok→Option (List Tok)) (res:PR) (z:Int) (x:List Tok) (wr:World) (j n:Nat) (nv sv:Value) (t:Nt) (Ls:List (St×Value)):Prop where
 fuel:x.length≤n
 on:goOn op pr skip n t x=res
 at':At s j x
 kp:Kp (fun k=>R≤k) w wr
 val:z=((N.length+t.size:Nat):Int) - 1
 rs:RS wr R s j nv sv (N++t.nd N.length L.length) (L++Ls)
 st:Ls.map Prod.fst=t.steps
 room:t.size+1+2*x.length≤2*l.length
theorem Mid2.join {s:ByteArray} {R:Nat} {w:World} {N:List Nd} {L:List (St×Value)} {l:List Tok} {op:Int} {pr:List Tok→PR} {skip:List Tok→Option (List Tok)} {res:PR} {z:Int} {x:List Tok} {wr:World} {j n:Nat} {nv sv:Value} {t:Nt} {Ls:List (St×Value)}
  (h:Mid2 s R w N L l op pr skip res z x wr j (n+1) nv sv t Ls) {y:List Tok} (hk:skip x=some y) (hy:y.length≤x.length) (hf:Fits y (pr y)) {u:Nt} (hu:(pr y).1=some u) {z2:Int} {w2:World} {j2:Nat} {nv2 sv2:Value} {Ls2:List (St×Value)}
  (hz2:z2=(((N++t.nd N.length L.length).length+u.size:Nat):Int) - 1) (k2:Kp (fun k=>R≤k) w w2) (ha:At s j2 (pr y).2)
  (q2:RS w2 R s j2 nv2 sv2 ((N++t.nd N.length L.length)++u.nd (N++t.nd N.length L.length).length (L++Ls).length) ((L++Ls)++Ls2)) (hs2:Ls2.map Prod.fst=u.steps)
  {w3:World} {nv3:Value} (r3:Rd w3 R s j2 nv3 sv2) (o3:w3.ownsRow (R+1) 186 6 nv3 (((N++t.nd N.length L.length)++u.nd (N++t.nd N.length L.length).length (L++Ls).length)++[(⟨op,0,z,z2,0,0⟩:Nd)]).length (ndsC (((N++t.nd N.length L.length)++u.nd (N++t.nd N.length L.length).length (L++Ls).length)++[(⟨op,0,z,z2,0,0⟩:Nd)])))
  (k3:Kp (fun k=>k=R∨nv2.ownBlock=some k) w2 w3) :
  Mid2 s R w N L l op pr skip res (((N++t.nd N.length L.length)++u.nd (N++t.nd N.length L.length).length (L++Ls).length).length:Nat) (pr y).2 w3 j2 n nv3 sv2 (.two op t u) (Ls++Ls2):=by
 have hu2:=hf.2 u hu
 have hroom:=h.room
 have hst:=fst_len h.st
 have e1:((N++t.nd N.length L.length)++u.nd (N++t.nd N.length L.length).length (L++Ls).length).length=N.length+t.size+u.size:=by
  simp [Nt.nd_length];omega
 refine ⟨by have:=h.fuel;omega,?_,ha,k2.trans (own_kp (base:=0) q2.nodes k3),?_,?_,?_,?_⟩
 ·rw [←h.on,goOn_next hk hu rfl]
 ·rw [e1];simp only [Nt.size];omega
 ·have hz2':z2=((N.length+t.size+u.size:Nat):Int) - 1:=by rw [hz2,len_nd]
  rw [nd_two N t u op L.length (L++Ls).length (by simp [hst]),←h.val,←hz2']
  have:=q2.nd r3 o3 k3
  rw [←List.append_assoc]
  exact this
 ·simp [h.st,hs2,Nt.steps]
 ·simp only [Nt.size];omega
theorem readSeq_any {α:Type} {pa:List Tok→Option α×List Tok} {f:α→Nt} {d:Int} (hA:PartOk 116 (repR pa f) d) (hf:∀l,Fits l (repR pa f l)):PartOk 95 (seqR pa f) d:=by
 intro s R i nv sv N L l w h hs ha hN hL
 have hm:s.size≤maxLen:=by unfold maxLen;omega
 have hfl:=hf l
 go_enter Tryz.func95,Tryz.ntmps95
 go_wp2_with fail
 refine (hA s R i nv sv N L l w h hs ha hN hL).mono ?_
 rintro e w1 ⟨j1,nv1,sv1,a1,k1,h1⟩
 have A1:Hid (At s j1 (repR pa f l).2):=a1
 have K1:Hid (Kp (fun k=>R≤k) w w1):=k1
 have HFL:Hid (Fits l (repR pa f l)):=hfl
 have HEQ:Hid (seqR pa f l=match repR pa f l with|(none,x)=>(none,x)|(some t,x)=>goOn 1 (repR pa f) skipA x.length t x):=seqR_eq pa f l
 clear k1 h ha hfl a1
 rcases h1 with ⟨hn,rfl,r1⟩ | ⟨t,Ls,z,hs1,rfl,hz,q1,hls⟩
 ·have HN:Hid (repR pa f l=(none,(repR pa f l).2)):=by show _=_;rw [←hn]
  clear hn
  go_wp2
  go_loopg [6] 0 (fun m v6 wr=>v6=.int .i64 0∧wr=w1)
  case atStart=>exact ⟨rfl,rfl⟩
  case round =>
   obtain ⟨rfl,rfl⟩:=hrel
   go_wp2
   go_ret2
   rw [HEQ.out,HN.out]
   exact ⟨j1,nv1,sv1,A1.out,K1.out,Or.inl ⟨rfl,rfl,r1⟩⟩
 ·have hrx:repR pa f l=(some t,(repR pa f l).2):=by rw [←hs1]
  have M0:Hid (Mid2 s R w N L l 1 (repR pa f) skipA (seqR pa f l) z (repR pa f l).2 w1 j1 (repR pa f l).2.length nv1 sv1 t Ls) :=
   ⟨Nat.le_refl _,by rw [HEQ.out,hrx],A1.out,K1.out,hz,q1,hls,HFL.out.2 t hs1⟩
  clear hz q1 hls hs1 hrx
  go_wp2
  go_loopg [6] (repR pa f l).2.length (fun m v6 wr=>∃z x j n nv sv t Ls,v6=.int .i64 z∧m=x.length∧Mid2 s R w N L l 1 (repR pa f) skipA (seqR pa f l) z x wr j n nv sv t Ls)
  case atStart=>exact ⟨z,_,_,_,_,_,_,_,rfl,rfl,M0.out⟩
  case round =>
   obtain ⟨z,x,j,n,nv2,sv2,t,Ls,rfl,hmm,hM⟩:=hrel
   have HM:Hid (_=x.length):=hmm
   have MM:Hid (Mid2 s R w N L l 1 (repR pa f) skipA (seqR pa f l) z x wr j n nv2 sv2 t Ls):=hM
   obtain ⟨b0,b1⟩:=hM.at'.hd_bounds
   clear hmm hM M0
   go_wp2_with fail
   refine (peek_at MM.out.rs.rd hm MM.out.at').mono ?_
   rintro e w2 ⟨rfl,n2,rfl⟩
   generalize hb:beginsB (hd x)=B
   have HB:Hid (beginsB (hd x)=B):=hb
   clear hb
   go_wp2_with fail
   refine (beginsAtom_any (hd x) _ b0 b1).mono ?_
   rw [HB.out]
   rintro e w3 ⟨rfl,rfl⟩
   have M2:Hid (Mid2 s R w N L l 1 (repR pa f) skipA (seqR pa f l) z x (wr.drewN n2) j n nv2 sv2 t Ls):=⟨MM.out.fuel,MM.out.on,MM.out.at',MM.out.kp.drewN n2,MM.out.val,MM.out.rs.drewN n2,MM.out.st,MM.out.room⟩
   clear MM
   generalize wr.drewN n2=w4 at M2
   cases B with
   | false =>
    have HSK:Hid (skipA x=none):=by show _=_;simp [skipA,HB.out]
    go_wp2
    go_ret2
    rw [←M2.out.on,goOn_stop HSK.out]
    exact ⟨j,nv2,sv2,M2.out.at',M2.out.kp,Or.inr ⟨t,Ls,z,rfl,rfl,M2.out.val,M2.out.rs,M2.out.st⟩⟩
   | true =>
    have HSK:Hid (skipA x=some x):=by show _=_;simp [skipA,HB.out]
    have hx0:0<x.length:=by
     match x,HB.out with
     | [],h=>simp [hd,beginsB,isKindB] at h
     | _::_,_=>simp
    obtain ⟨n',rfl⟩:∃n',n=n'+1:=⟨n - 1,by have:=M2.out.fuel;omega⟩
    have HNN:Hid ((N++t.nd N.length L.length).length+2*x.length≤90000):=by
     have:=M2.out.room
     show _≤_
     rw [len_nd];omega
    have HLL:Hid ((L++Ls).length≤(N++t.nd N.length L.length).length):=by
     have h1:=fst_len M2.out.st
     have h2:=t.steps_le
     show _≤_
     rw [len_nd];simp;omega
    go_wp2_with fail
    refine (hA s R j nv2 sv2 _ _ x w4 M2.out.rs hs M2.out.at' HNN.out HLL.out).mono ?_
    rintro e w5 ⟨j5,nv5,sv5,a5,k5,h5⟩
    have K5:Hid (Kp (fun k=>R≤k) w w5):=M2.out.kp.trans k5
    have A5:Hid (At s j5 (repR pa f x).2):=a5
    clear k5 a5
    rcases h5 with ⟨hn,rfl,r5⟩ | ⟨u,Ls5,z5,hs5,rfl,hz5,q5,hls5⟩
    ·have HN:Hid ((repR pa f x).1=none):=hn
     clear hn
     go_wp2
     go_ret2
     rw [←M2.out.on,goOn_fail HSK.out HN.out rfl]
     exact ⟨j5,nv5,sv5,A5.out,K5.out,Or.inl ⟨rfl,rfl,r5⟩⟩
    ·have hlen5:((N++t.nd N.length L.length)++u.nd (N++t.nd N.length L.length).length (L++Ls).length).length≤100000:=by
      have h1:=M2.out.room
      have h2:=(hf x).2 u hs5
      simp only [List.length_append,Nt.nd_length]
      omega
     have Q5:Hid (RS w5 R s j5 nv5 sv5 ((N++t.nd N.length L.length)++u.nd (N++t.nd N.length L.length).length (L++Ls).length) ((L++Ls)++Ls5)):=q5
     have HZ5:Hid (z5=(((N++t.nd N.length L.length).length+u.size:Nat):Int) - 1):=hz5
     have HU:Hid ((repR pa f x).1=some u):=hs5
     have HL5:Hid (Ls5.map Prod.fst=u.steps):=hls5
     have hlt:Hid ((repR pa f x).2.length<x.length):=by
      have:=(hf x).2 u hs5
      show _<_
      omega
     have HJ:Hid (∀(w6:World) (nv6:Value),Rd w6 R s j5 nv6 sv5→w6.ownsRow (R+1) 186 6 nv6 (((N++t.nd N.length L.length)++u.nd (N++t.nd N.length L.length).length (L++Ls).length)++[(⟨1,0,z,z5,0,0⟩:Nd)]).length (ndsC (((N++t.nd N.length L.length)++u.nd (N++t.nd N.length L.length).length (L++Ls).length)++[(⟨1,0,z,z5,0,0⟩:Nd)]))→Kp (fun k=>k=R∨nv5.ownBlock=some k) w5 w6 →
       ∃t' Ls',Mid2 s R w N L l 1 (repR pa f) skipA (seqR pa f l) (((N++t.nd N.length L.length)++u.nd (N++t.nd N.length L.length).length (L++Ls).length).length:Nat) (repR pa f x).2 w6 j5 n' nv6 sv5 t' Ls') :=
      fun w6 nv6 r6 o6 k6=>⟨_,_,M2.out.join HSK.out (Nat.le_refl _) (hf x) HU.out HZ5.out K5.out A5.out Q5.out HL5.out r6 o6 k6⟩
     clear hz5 q5 hs5 hls5 HZ5 HL5 HNN HLL
     generalize hMM:(N++t.nd N.length L.length)++u.nd (N++t.nd N.length L.length).length (L++Ls).length=M at Q5 HJ hlen5
     clear hMM
     go_wp2_with fail
     refine (addNode_any s R j5 nv5 sv5 M 1 0 z z5 0 0 _ Q5.out.rd Q5.out.nodes hlen5).mono ?_
     rintro e w6 ⟨rfl,nv6,r6,o6,k6,_⟩
     obtain ⟨t',Ls',hj⟩:=HJ.out w6 nv6 r6 o6 k6
     have HJ2:Hid (Mid2 s R w N L l 1 (repR pa f) skipA (seqR pa f l) (M.length:Nat) (repR pa f x).2 w6 j5 n' nv6 sv5 t' Ls'):=hj
     clear r6 o6 k6 hj HJ
     go_wp2
     go_roundg (repR pa f x).2.length
     case measure=>have:=hlt.out;rw [HM.out];omega
     case rel=>exact ⟨_,_,_,_,_,_,_,_,rfl,rfl,HJ2.out⟩
theorem readAlt_any {α:Type} {pa:List Tok→Option α×List Tok} {f:α→Nt} {d:Int} (hA:PartOk 95 (seqR pa f) d) (hf:∀l,Fits l (seqR pa f l)):PartOk 69 (altR pa f) d:=by
 intro s R i nv sv N L l w h hs ha hN hL
 have hm:s.size≤maxLen:=by unfold maxLen;omega
 have hfl:=hf l
 go_enter Tryz.func69,Tryz.ntmps69
 go_wp2_with fail
 refine (hA s R i nv sv N L l w h hs ha hN hL).mono ?_
 rintro e w1 ⟨j1,nv1,sv1,a1,k1,h1⟩
 have A1:Hid (At s j1 (seqR pa f l).2):=a1
 have K1:Hid (Kp (fun k=>R≤k) w w1):=k1
 have HFL:Hid (Fits l (seqR pa f l)):=hfl
 have HEQ:Hid (altR pa f l=match seqR pa f l with|(none,x)=>(none,x)|(some t,x)=>goOn 2 (seqR pa f) skipB x.length t x):=altR_eq pa f l
 clear k1 h ha hfl a1
 rcases h1 with ⟨hn,rfl,r1⟩ | ⟨t,Ls,z,hs1,rfl,hz,q1,hls⟩
 ·have HN:Hid (seqR pa f l=(none,(seqR pa f l).2)):=by show _=_;rw [←hn]
  clear hn
  go_wp2
  go_loopg [6] 0 (fun m v6 wr=>v6=.int .i64 0∧wr=w1)
  case atStart=>exact ⟨rfl,rfl⟩
  case round =>
   obtain ⟨rfl,rfl⟩:=hrel
   go_wp2
   go_ret2
   rw [HEQ.out,HN.out]
   exact ⟨j1,nv1,sv1,A1.out,K1.out,Or.inl ⟨rfl,rfl,r1⟩⟩
 ·have hrx:seqR pa f l=(some t,(seqR pa f l).2):=by rw [←hs1]
  have M0:Hid (Mid2 s R w N L l 2 (seqR pa f) skipB (altR pa f l) z (seqR pa f l).2 w1 j1 (seqR pa f l).2.length nv1 sv1 t Ls) :=
   ⟨Nat.le_refl _,by rw [HEQ.out,hrx],A1.out,K1.out,hz,q1,hls,HFL.out.2 t hs1⟩
  clear hz q1 hls hs1 hrx
  go_wp2
  go_loopg [6] (seqR pa f l).2.length (fun m v6 wr=>∃z x j n nv sv t Ls,v6=.int .i64 z∧m=x.length∧Mid2 s R w N L l 2 (seqR pa f) skipB (altR pa f l) z x wr j n nv sv t Ls)
  case atStart=>exact ⟨z,_,_,_,_,_,_,_,rfl,rfl,M0.out⟩
  case round =>
   obtain ⟨z,x,j,n,nv2,sv2,t,Ls,rfl,hmm,hM⟩:=hrel
   have HM:Hid (_=x.length):=hmm
   have MM:Hid (Mid2 s R w N L l 2 (seqR pa f) skipB (altR pa f l) z x wr j n nv2 sv2 t Ls):=hM
   obtain ⟨b0,b1⟩:=hM.at'.hd_bounds
   clear hmm hM M0
   go_wp2_with fail
   refine (peek_at MM.out.rs.rd hm MM.out.at').mono ?_
   rintro e w2 ⟨rfl,n2,rfl⟩
   have M2:Hid (Mid2 s R w N L l 2 (seqR pa f) skipB (altR pa f l) z x (wr.drewN n2) j n nv2 sv2 t Ls):=⟨MM.out.fuel,MM.out.on,MM.out.at',MM.out.kp.drewN n2,MM.out.val,MM.out.rs.drewN n2,MM.out.st,MM.out.room⟩
   clear MM
   generalize wr.drewN n2=w4 at M2
   by_cases hb:hd x=124
   rotate_left
   ·have hb':(hd x == 124)=false:=by simp [hb]
    have HSK:Hid (skipB x=none):=by
     show _=_
     match x,hb with
     | [],_=>rfl
     | (c,p)::r,hb=>simp only [hd] at hb;simp [skipB,hb]
    clear hb
    go_wp2
    go_ret2
    rw [←M2.out.on,goOn_stop HSK.out]
    exact ⟨j,nv2,sv2,M2.out.at',M2.out.kp,Or.inr ⟨t,Ls,z,rfl,rfl,M2.out.val,M2.out.rs,M2.out.st⟩⟩
   ·obtain ⟨p,y,rfl⟩:=hd_cons_of hb (by omega)
    simp only [hd]
    have HSK:Hid (skipB ((124,p)::y)=some y):=by show _=_;simp [skipB]
    obtain ⟨n',rfl⟩:∃n',n=n'+1:=⟨n - 1,by have:=M2.out.fuel;simp at this;omega⟩
    clear hb
    go_wp2_with fail
    refine (pass_any s R j nv2 sv2 124 p y _ M2.out.rs.rd hm M2.out.at').mono ?_
    rintro e wp ⟨rfl,jp,ap,rp,kp⟩
    have QP:Hid (RS wp R s jp nv2 sv2 (N++t.nd N.length L.length) (L++Ls)):=M2.out.rs.kp kp rp
    have KP:Hid (Kp (fun k=>R≤k) w wp):=M2.out.kp.trans (kp.mono (fun b _ e=>by omega))
    have AP:Hid (At s jp y):=ap
    have HNN:Hid ((N++t.nd N.length L.length).length+2*y.length≤90000):=by
     have:=M2.out.room
     simp at this
     show _≤_
     rw [len_nd];omega
    have HLL:Hid ((L++Ls).length≤(N++t.nd N.length L.length).length):=by
     have h1:=fst_len M2.out.st
     have h2:=t.steps_le
     show _≤_
     rw [len_nd];simp;omega
    clear ap rp kp
    go_wp2_with fail
    refine (hA s R jp nv2 sv2 _ _ y wp QP.out hs AP.out HNN.out HLL.out).mono ?_
    rintro e w5 ⟨j5,nv5,sv5,a5,k5,h5⟩
    have K5:Hid (Kp (fun k=>R≤k) w w5):=KP.out.trans k5
    have A5:Hid (At s j5 (seqR pa f y).2):=a5
    clear k5 a5
    rcases h5 with ⟨hn,rfl,r5⟩ | ⟨u,Ls5,z5,hs5,rfl,hz5,q5,hls5⟩
    ·have HN:Hid ((seqR pa f y).1=none):=hn
     clear hn
     go_wp2
     go_ret2
     rw [←M2.out.on,goOn_fail HSK.out HN.out rfl]
     exact ⟨j5,nv5,sv5,A5.out,K5.out,Or.inl ⟨rfl,rfl,r5⟩⟩
    ·have hlen5:((N++t.nd N.length L.length)++u.nd (N++t.nd N.length L.length).length (L++Ls).length).length≤100000:=by
      have h1:=M2.out.room
      have h2:=(hf y).2 u hs5
      simp only [List.length_append,List.length_cons,Nt.nd_length] at h1 ⊢
      omega
     have Q5:Hid (RS w5 R s j5 nv5 sv5 ((N++t.nd N.length L.length)++u.nd (N++t.nd N.length L.length).length (L++Ls).length) ((L++Ls)++Ls5)):=q5
     have HZ5:Hid (z5=(((N++t.nd N.length L.length).length+u.size:Nat):Int) - 1):=hz5
     have HU:Hid ((seqR pa f y).1=some u):=hs5
     have HL5:Hid (Ls5.map Prod.fst=u.steps):=hls5
     have hlt:Hid ((seqR pa f y).2.length<((124,p)::y:List Tok).length):=by
      have:=(hf y).2 u hs5
      show _<_
      simp;omega
     have HJ:Hid (∀(w6:World) (nv6:Value),Rd w6 R s j5 nv6 sv5→w6.ownsRow (R+1) 186 6 nv6 (((N++t.nd N.length L.length)++u.nd (N++t.nd N.length L.length).length (L++Ls).length)++[(⟨2,0,z,z5,0,0⟩:Nd)]).length (ndsC (((N++t.nd N.length L.length)++u.nd (N++t.nd N.length L.length).length (L++Ls).length)++[(⟨2,0,z,z5,0,0⟩:Nd)]))→Kp (fun k=>k=R∨nv5.ownBlock=some k) w5 w6 →
       ∃t' Ls',Mid2 s R w N L l 2 (seqR pa f) skipB (altR pa f l) (((N++t.nd N.length L.length)++u.nd (N++t.nd N.length L.length).length (L++Ls).length).length:Nat) (seqR pa f y).2 w6 j5 n' nv6 sv5 t' Ls') :=
      fun w6 nv6 r6 o6 k6=>⟨_,_,M2.out.join HSK.out (by simp) (hf y) HU.out HZ5.out K5.out A5.out Q5.out HL5.out r6 o6 k6⟩
     clear hz5 q5 hs5 hls5 HZ5 HL5 HNN HLL
     generalize hMM:(N++t.nd N.length L.length)++u.nd (N++t.nd N.length L.length).length (L++Ls).length=M at Q5 HJ hlen5
     clear hMM
     go_wp2_with fail
     refine (addNode_any s R j5 nv5 sv5 M 2 0 z z5 0 0 _ Q5.out.rd Q5.out.nodes hlen5).mono ?_
     rintro e w6 ⟨rfl,nv6,r6,o6,k6,_⟩
     obtain ⟨t',Ls',hj⟩:=HJ.out w6 nv6 r6 o6 k6
     have HJ2:Hid (Mid2 s R w N L l 2 (seqR pa f) skipB (altR pa f l) (M.length:Nat) (seqR pa f y).2 w6 j5 n' nv6 sv5 t' Ls'):=hj
     clear r6 o6 k6 hj HJ
     go_wp2
     go_roundg (seqR pa f y).2.length
     case measure=>have:=hlt.out;rw [HM.out];omega
     case rel=>exact ⟨_,_,_,_,_,_,_,_,rfl,rfl,HJ2.out⟩
theorem StPost.part {s:ByteArray} {R:Nat} {w w':World} {N:List Nd} {L:List (St×Value)} {r:Option St×List Tok} {e:Ending} (h:StPost s R w N L r e w'):PtPost s R w N L (r.1.map Nt.one,r.2) e w':=by
 obtain ⟨j,nv,sv,a,k,h⟩:=h
 refine ⟨j,nv,sv,a,k,?_⟩
 rcases h with ⟨h1,h2,h3⟩ | ⟨x,tv,h1,h2,h3⟩
 ·exact Or.inl ⟨by simp [h1],h2,h3.rd⟩
 ·refine Or.inr ⟨.one x,[(x,tv)],N.length,by simp [h1],h2,by simp [Nt.size],h3,by simp [Nt.steps]⟩
theorem stepR_of (n:Nat) {l:List Tok} (h:¬hd l=40):aR (pAtom n) (atomTr n) l=((pStep l).1.map Nt.one,(pStep l).2):=by
 cases n with
 | zero=>rfl
 | succ n =>
  match l,h with
  | [],_=>rfl
  | (c,p)::r,h =>
   simp only [hd] at h
   simp only [aR,pAtom,if_neg h]
   cases hp:pStep ((c,p)::r) with
   | mk o x=>cases o <;> rfl
theorem stepR_40 {l:List Tok} (h:hd l=40):aR (pAtom 0) (atomTr 0) l=(none,l):=by
 have:pStep l=(none,l):=pStep_not (by rw [h];decide)
 show ((pStep l).1.map Nt.one,(pStep l).2)=_
 rw [this];rfl
theorem boxR (n:Nat) (p:Nat) (r:List Tok):aR (pAtom (n+1)) (atomTr (n+1)) ((40,p)::r)=match altR (pAtom n) (atomTr n) r with|(none,x)=>(none,x)|(some t,x)=>if hd x=41 then (some t,x.tail) else (none,x):=by
 simp only [aR,pAtom,altR,if_pos]
 cases hp:pAlt (pAtom n) r with
 | mk o x=>cases o with
  | none=>rfl
  | some t =>
   match x with
   | []=>rfl
   | (d,q)::y =>
    by_cases h:d=41
    ·simp only [hd,Option.map_some,List.tail_cons,if_pos h]
     exact Eq.trans (b:=((some (altTr (atomTr n) t),y):PR)) rfl (if_pos h).symm
    ·simp only [hd,Option.map_some,List.tail_cons,if_neg h]
     exact Eq.trans (b:=((none,(d,q)::y):PR)) rfl (if_neg h).symm
theorem readAtom_step (n:Nat) (d:Int) (s:ByteArray) (R i:Nat) (nv sv:Value) (N:List Nd) (L:List (St×Value)) (l:List Tok) (w:World) (h:RS w R s i nv sv N L) (hs:s.size≤1000) (ha:At s i l) (hN:N.length+2*l.length≤90000) (hL:L.length≤N.length) (h40:¬hd l=40) :
  Calls Tryz.prog 127 #[.pointer (some ⟨R,0,none⟩),.int .i64 d] w (PtPost s R w N L (aR (pAtom n) (atomTr n) l)):=by
 have hm:s.size≤maxLen:=by unfold maxLen;omega
 have H:Hid (RS w R s i nv sv N L):=h
 have HA:Hid (At s i l):=ha
 obtain ⟨b0,b1⟩:=ha.hd_bounds
 have h4:(hd l != 40)=true:=bne_iff_ne.2 h40
 rw [stepR_of n h40]
 clear h ha h40
 go_enter Tryz.func127,Tryz.ntmps127
 go_wp2_with fail
 refine (peek_at H.out.rd hm HA.out).mono ?_
 rintro e w1 ⟨rfl,n1,rfl⟩
 go_wp2_with fail
 refine (readStep_any s R i nv sv N L l _ (H.out.drewN n1) hs HA.out (by omega) (by omega)).mono ?_
 rintro e w2 h2
 have P2:Hid (PtPost s R w N L ((pStep l).1.map Nt.one,(pStep l).2) e w2):=by
  obtain ⟨j,nv',sv',a,k,h3⟩:=h2.part
  exact ⟨j,nv',sv',a,((Kp.refl _ w).drewN n1).trans k,h3⟩
 have he:∃z b,e=.returned (.tuple #[.int .i64 z,.bool b]):=by
  obtain ⟨j,nv',sv',a,k,h3⟩:=h2
  rcases h3 with ⟨_,h,_⟩ | ⟨x,tv,_,h,_⟩
  ·exact ⟨_,_,h⟩
  ·exact ⟨_,_,h⟩
 obtain ⟨z,b,rfl⟩:=he
 clear h2
 go_wp2
 go_ret2
 exact P2.out
theorem readAtom_zero:PartOk 127 (aR (pAtom 0) (atomTr 0)) 8:=by
 intro s R i nv sv N L l w h hs ha hN hL
 by_cases h40:hd l=40
 ·have hm:s.size≤maxLen:=by unfold maxLen;omega
  have H:Hid (RS w R s i nv sv N L):=h
  have HA:Hid (At s i l):=ha
  have HE:Hid (hd l=40):=h40
  rw [stepR_40 h40]
  clear h ha h40
  go_enter Tryz.func127,Tryz.ntmps127
  go_wp2_with fail
  refine (peek_at H.out.rd hm HA.out).mono ?_
  rw [HE.out]
  rintro e w1 ⟨rfl,n1,rfl⟩
  go_wp2
  go_ret2
  exact ⟨i,nv,sv,HA.out,(Kp.refl _ w).drewN n1,Or.inl ⟨rfl,rfl,H.out.rd.drewN n1⟩⟩
 ·exact readAtom_step 0 8 s R i nv sv N L l w h hs ha hN hL h40
theorem readAtom_succ (n:Nat) (hn:n<8) (hA:PartOk 69 (altR (pAtom n) (atomTr n)) (8 - (n:Int))):PartOk 127 (aR (pAtom (n+1)) (atomTr (n+1))) (8 - ((n+1:Nat):Int)):=by
 intro s R i nv sv N L l w h hs ha hN hL
 by_cases h40:hd l=40
 ·have hm:s.size≤maxLen:=by unfold maxLen;omega
  obtain ⟨p,r,rfl⟩:=hd_cons_of h40 (by omega)
  have H:Hid (RS w R s i nv sv N L):=h
  have HA:Hid (At s i ((40,p)::r)):=ha
  have hfr:=fits_alt (fits_atom n) r
  rw [boxR]
  generalize hres:(match altR (pAtom n) (atomTr n) r with|(none,x)=>((none,x):PR)|(some t,x)=>if hd x=41 then (some t,x.tail) else (none,x))=res
  have HRES:Hid ((match altR (pAtom n) (atomTr n) r with|(none,x)=>((none,x):PR)|(some t,x)=>if hd x=41 then (some t,x.tail) else (none,x))=res):=hres
  clear hres
  obtain ⟨dd,hdd⟩:∃dd:Int,dd=8 - ((n+1:Nat):Int):=⟨_,rfl⟩
  rw [←hdd]
  have hd8:dd<8:=by omega
  have hd0:0≤dd:=by omega
  have HDD:Hid (dd+1=8 - (n:Int)):=by show _=_;omega
  simp only [List.length_cons] at hN
  clear h ha h40 hdd
  go_enter Tryz.func127,Tryz.ntmps127
  go_wp2_with fail
  refine (peek_at H.out.rd hm HA.out).mono ?_
  rintro e w1 ⟨rfl,n1,rfl⟩
  simp only [hd]
  go_wp2_with fail
  refine (pass_any s R i nv sv 40 p r _ (H.out.rd.drewN n1) hm HA.out).mono ?_
  rintro e w2 ⟨rfl,j2,a2,r2,k2⟩
  have Q2:Hid (RS w2 R s j2 nv sv N L):=(H.out.drewN n1).kp k2 r2
  have K2:Hid (Kp (fun k=>R≤k) w w2):=((Kp.refl _ w).drewN n1).trans (k2.mono (fun b _ e=>by omega))
  have A2:Hid (At s j2 r):=a2
  clear a2 r2 k2
  go_wp2_with fail
  rw [HDD.out]
  refine (hA s R j2 nv sv N L r w2 Q2.out hs A2.out (by omega) hL).mono ?_
  rintro e w3 ⟨j3,nv3,sv3,a3,k3,h3⟩
  have K3:Hid (Kp (fun k=>R≤k) w w3):=K2.out.trans k3
  have A3:Hid (At s j3 (altR (pAtom n) (atomTr n) r).2):=a3
  obtain ⟨b0,b1⟩:=a3.hd_bounds
  clear k3 a3 Q2 K2
  rcases h3 with ⟨hno,rfl,r3⟩ | ⟨t,Ls,z,hs3,rfl,hz,q3,hls⟩
  ·have HE:Hid (altR (pAtom n) (atomTr n) r=(none,(altR (pAtom n) (atomTr n) r).2)):=by show _=_;rw [←hno]
   clear hno
   go_wp2
   go_ret2
   rw [←HRES.out,HE.out]
   exact ⟨j3,nv3,sv3,A3.out,K3.out,Or.inl ⟨rfl,rfl,r3⟩⟩
  ·have HE:Hid (altR (pAtom n) (atomTr n) r=(some t,(altR (pAtom n) (atomTr n) r).2)):=by show _=_;rw [←hs3]
   have Q3:Hid (RS w3 R s j3 nv3 sv3 (N++t.nd N.length L.length) (L++Ls)):=q3
   have HZ:Hid (z=((N.length+t.size:Nat):Int) - 1):=hz
   have HLS:Hid (Ls.map Prod.fst=t.steps):=hls
   generalize hx:(altR (pAtom n) (atomTr n) r).2=x at A3 b0 b1 HE
   clear hs3 hz q3 hls hx
   go_wp2_with fail
   refine (peek_at Q3.out.rd hm A3.out).mono ?_
   rintro e w4 ⟨rfl,n4,rfl⟩
   have Q4:Hid (RS (w3.drewN n4) R s j3 nv3 sv3 (N++t.nd N.length L.length) (L++Ls)):=Q3.out.drewN n4
   have K4:Hid (Kp (fun k=>R≤k) w (w3.drewN n4)):=K3.out.drewN n4
   clear Q3 K3
   generalize w3.drewN n4=w5 at Q4 K4
   by_cases h41:hd x=41
   ·obtain ⟨q,y,rfl⟩:=hd_cons_of h41 (by omega)
    simp only [hd]
    go_wp2_with fail
    refine (pass_any s R j3 nv3 sv3 41 q y _ Q4.out.rd hm A3.out).mono ?_
    rintro e w6 ⟨rfl,j6,a6,r6,k6⟩
    have Q6:Hid (RS w6 R s j6 nv3 sv3 (N++t.nd N.length L.length) (L++Ls)):=Q4.out.kp k6 r6
    have K6:Hid (Kp (fun k=>R≤k) w w6):=K4.out.trans (k6.mono (fun b _ e=>by omega))
    have A6:Hid (At s j6 y):=a6
    clear a6 r6 k6
    go_wp2
    go_ret2
    rw [←HRES.out,HE.out]
    simp only [hd,if_true,List.tail_cons]
    exact ⟨j6,nv3,sv3,A6.out,K6.out,Or.inr ⟨t,Ls,z,rfl,rfl,HZ.out,Q6.out,HLS.out⟩⟩
   ·have h41':(hd x != 41)=true:=bne_iff_ne.2 h41
    have H41:Hid (¬hd x=41):=h41
    clear h41
    go_wp2
    go_ret2
    rw [←HRES.out,HE.out]
    simp only [if_neg H41.out]
    exact ⟨j3,nv3,sv3,A3.out,K4.out,Or.inl ⟨rfl,rfl,Q4.out.rd⟩⟩
 ·exact readAtom_step (n+1) _ s R i nv sv N L l w h hs ha hN hL h40
theorem readAtom_all:∀n:Nat,n≤8→PartOk 127 (aR (pAtom n) (atomTr n)) (8 - (n:Int)):=by
 intro n
 induction n with
 | zero=>intro _;exact readAtom_zero
 | succ n ih =>
  intro hn
  have hf:=fits_atom n
  exact readAtom_succ n (by omega) (readAlt_any (readSeq_any (readRep_any (ih (by omega)) hf) (fits_rep hf)) (fits_seq hf))
theorem readAlt_top:PartOk 69 (altR (pAtom 8) (atomTr 8)) 0:=by
 have hf:=fits_atom 8
 have:=readAlt_any (readSeq_any (readRep_any (readAtom_all 8 (by omega)) hf) (fits_rep hf)) (fits_seq hf)
 simpa using this
end Go.Proofs.YtcboiapggnmpfabGreat
