import Derived.Test.YtcboiapggnmpfaaGreatDoorQbh
namespace Go.Proofs.YtcboiapggnmpfaaGreatDoor
set_option maxRecDepth 100000
set_option maxHeartbeats 8000000
set_option linter.unusedSimpArgs false
set_option linter.unusedVariables false
open Go.RowKit
open Value (int)
open IntKind (i64)
theorem Tryz.sizeSp:(Tryz.prog.info? 205).map (·.size)=some 2:=by kernel_rfl
theorem spC_one (p:Int×Nat):∀v∈spC p,v.oneCell'=true:=by
 intro u hu;simp only [spC,List.mem_cons,List.not_mem_nil,or_false] at hu;rcases hu with e|e <;> rw [e] <;> rfl
def GoPost (w:World) (R g cap:Nat) (l:List In) (hand:Nmb) (gb turn:Nat) (c:Crw×Crw) (e:Ending) (w':World):Prop :=
 e=.returned (.tuple #[])∧∃fr turn' ov wv ev s,StM w' R g cap l hand fr turn' gb ov wv ev s∧s.wait=c.1∧s.ended=c.2∧turn'≤turn+1∧(s.opn=[]∨overT s=true)∧s.opn.length≤20000+turn'∧TnOk l.length s∧KR R gb w w'
theorem goOnT_any (R g cap:Nat) (l:List In) (hand:Nmb) (fr:Thr) (turn gb:Nat) (ov wv ev:Value) (s0:Tn) (t:Thr) (w:World) (h:StM w R g cap l hand fr turn gb ov wv ev s0) (hT:TnOk l.length s0) (hop:s0.opn=[]∨overT s0=true) (hol:s0.opn.length≤20000+turn) (htn:turn≤30000) (ht:TOk t) (hn:l.length≤1000) (hA:AllIns l) (hI:∀x∈l,InOk x) (hok:In64 hand.n∧EvOk hand.e) (ht1:TimeOk hand.e.at') :
  Calls Tryz.prog 85 #[.pointer (some ⟨R,0,none⟩),.agg (thC t).toArray] w (GoPost w R g cap l hand gb turn (goOnS l hand (s0.wait,s0.ended) t)):=by
 obtain ⟨dt,hu,hd⟩:=Option.map_eq_some_iff.1 Tryz.rowTh
 have HU:Hid (Tryz.prog.underlying 129=some dt):=hu
 have HD:Hid (dt.isRow=true):=hd
 have H:Hid (StM w R g cap l hand fr turn gb ov wv ev s0):=h
 have HT:Hid (TnOk l.length s0):=hT
 have HOP:Hid (s0.opn=[]∨overT s0=true):=hop
 have HOL:Hid (s0.opn.length≤20000+turn):=hol
 have HTO:Hid (TOk t):=ht
 have hRl:=h.lt
 have hgl:g<w.heap.size:=by have:=h.hg;omega
 have hgR:¬g=R:=by have:=h.hg;omega
 obtain ⟨n,hna⟩:∃n:Nat,t.at'=n:=⟨t.at'.toNat,by have:=ht.a;omega⟩
 have HGO:Hid (goOnS l hand (s0.wait,s0.ended) t=match l[n]? with|none=>(s0.wait,s0.ended)|some x=>if x.a=4∨x.a=hand.e.kind then ((goF l hand t (1+16*l.length) (rchS ⟨List.replicate (16*l.length) false,[],s0.wait,s0.ended⟩ ((n:Int)+1) 0)).wait,(goF l hand t (1+16*l.length) (rchS ⟨List.replicate (16*l.length) false,[],s0.wait,s0.ended⟩ ((n:Int)+1) 0)).ended) else (s0.wait,s0.ended)):=by
  show _=_
  unfold goOnS
  rw [hna,Int.toNat_natCast]
  rfl
 generalize goOnS l hand (s0.wait,s0.ended) t=cc at *
 have HLT0:Hid ((thC t)[0]? = some (.int .i64 (n:Int))):=by show _=_;rw [←hna];rfl
 have HBG:Hid (∀W,Nw w W→StM ((W.setCells R 7 (thC t)).setCell ⟨R,34,none⟩ (.int .i64 ((turn:Int)+1))) R g cap l hand t (turn+1) gb ov wv ev { s0 with vis:=List.replicate (16*l.length) false }):=fun W kW=>(h.nw kW).begin t
 have HLN:Hid ((thC t).length=27):=thC_len t
 have HON:Hid (∀v∈thC t,v.oneCell'=true):=thC_one t
 have HSI:Hid ((Tryz.prog.info? 129).map (·.size)=some (thC t).length):=size_th t
 have HSA:Hid ((Tryz.prog.info? 129).map (·.size)=some (thC t).toArray.size):=size_thA t
 have HIO:Hid (∀x∈l,InOk x):=hI
 clear hu hd h hT hop hol ht hna hI
 generalize thC t=LT at *
 have HBX:Hid (∀W,Nw (w.alloc (.cells LT.toArray 129)) W→Bx W w.heap.size LT):=fun W kW=>(Bx.new w LT 129).kp (by rw [HLN.out];omega) kW (fun h=>h)
 have HK0:Hid (Nw w (w.alloc (.cells LT.toArray 129))):=(Kp.refl _ w).alloc _
 have HS0:Hid ((w.alloc (.cells LT.toArray 129)).heap.size=w.heap.size+1):=by show _=_;simp
 have s1:∀W,Nw (w.alloc (.cells LT.toArray 129)) W→W.cell? ⟨w.heap.size,0,none⟩=some (.int .i64 (n:Int)):=fun W kW=>(HBX.out W kW).cell HLT0.out
 have s2:∀W,Nw (w.alloc (.cells LT.toArray 129)) W→W.cell? ⟨R,0,none⟩=some (.slice (some ⟨g,0,none⟩) l.length cap):=fun W kW=>(H.out.nw (HK0.out.trans kW)).cod
 have hn0:decide ((n:Int)<0)=false:=by simp
 by_cases hge:l.length≤n
 ·have HC:Hid (cc=(s0.wait,s0.ended)):=by show _=_;rw [HGO.out,List.getElem?_eq_none hge]
  have hge':decide (l.length≤n)=true:=by simpa using hge
  go_enter Tryz.func85,Tryz.ntmps85
  go_wp2
  generalize (w.alloc (.cells LT.toArray 129))=w0 at *
  refine wp_region_held_drew (S:=fun W=>Nw w0 W) (by kernel_rfl) ((Kp.refl _ _).drew) (fun hHeld => ?_)
  refine tM 0 rfl (fun W hSW=>by (try dsimp only at hSW);go_simp;rw []) hHeld ?_
  refine tM 1 rfl (fun W hSW=>by (try dsimp only at hSW);go_simp;rw []) hHeld ?_
  refine tM 2 rfl (fun W hSW=>by (try dsimp only at hSW);go_simp;rw []) hHeld ?_
  refine tM 3 rfl (fun W hSW=>by (try dsimp only at hSW);go_simp;rw []) hHeld ?_
  refine tM 4 rfl (fun W hSW=>by (try dsimp only at hSW);go_simp;rw []) hHeld ?_
  refine tM 5 rfl (fun W hSW=>by (try dsimp only at hSW);go_simp;rw []) hHeld ?_
  refine tM 6 rfl (fun W hSW=>by (try dsimp only at hSW);go_simp;rw []) hHeld ?_
  refine tM 7 rfl (fun W hSW=>by (try dsimp only at hSW);go_simp;rw []) hHeld ?_
  refine tM 8 rfl (fun W hSW=>by (try dsimp only at hSW);go_simp;rw []) hHeld ?_
  refine tM 9 rfl (fun W hSW=>by (try dsimp only at hSW);go_simp;rw []) hHeld ?_
  refine tM 10 rfl (fun W hSW=>by (try dsimp only at hSW);go_simp;rw []) hHeld ?_
  refine tM 11 rfl (fun W hSW=>by (try dsimp only at hSW);go_simp;rw []) hHeld ?_
  refine tM 12 rfl (fun W hSW=>by (try dsimp only at hSW);go_simp;rw []) hHeld ?_
  refine wpAnyH_done (by kernel_rfl) ?_ _
  have HK1:Hid (Nw w w0.drew):=HK0.out.drew
  clear s1 s2 hHeld
  go_wp2
  go_end0
  exact ⟨rfl,fr,turn,ov,wv,ev,s0,H.out.nw HK1.out,by rw [HC.out],by rw [HC.out],by omega,HOP.out,HOL.out,HT.out,KR.of_nw HK1.out⟩
 ·have hlt:n<l.length:=by omega
  obtain ⟨x,hx⟩:∃x,l[n]? = some x:=⟨_,List.getElem?_eq_getElem hlt⟩
  have HX:Hid (l[n]? = some x):=hx
  have hge':decide (l.length≤n)=false:=by simpa using hlt
  have s3:∀W,Nw (w.alloc (.cells LT.toArray 129)) W→W.cell? ⟨g,n*14+1,none⟩=some (.int .i64 x.a):=fun W kW=>((H.out.nw (HK0.out.trans kW)).row.ins n x hx) 1 _ rfl
  have s4:∀W,Nw (w.alloc (.cells LT.toArray 129)) W→W.cell? ⟨R,3,none⟩=some (.int .i64 hand.e.kind):=fun W kW=>(H.out.nw (HK0.out.trans kW)).hnd 2 _ rfl
  have HCX:Hid (cc=if x.a=4∨x.a=hand.e.kind then ((goF l hand t (1+16*l.length) (rchS ⟨List.replicate (16*l.length) false,[],s0.wait,s0.ended⟩ ((n:Int)+1) 0)).wait,(goF l hand t (1+16*l.length) (rchS ⟨List.replicate (16*l.length) false,[],s0.wait,s0.ended⟩ ((n:Int)+1) 0)).ended) else (s0.wait,s0.ended)):=by show _=_;rw [HGO.out,hx]
  clear HGO hx hge
  generalize x.a=xa at *
  generalize hand.e.kind=kd at *
  have hcase:(xa=4)∨(¬xa=4∧xa=kd)∨(¬xa=4∧¬xa=kd):=by omega
  by_cases hno:¬xa=4∧¬xa=kd
  ·have HC:Hid (cc=(s0.wait,s0.ended)):=by show _=_;rw [HCX.out,if_neg (by omega)]
   obtain ⟨hn1,hn2⟩:=hno
   have m1:(xa != 4)=true:=by simpa using hn1
   have m2:(xa != kd)=true:=by simpa using hn2
   clear HCX hcase hn1 hn2
   go_enter Tryz.func85,Tryz.ntmps85
   go_wp2
   generalize (w.alloc (.cells LT.toArray 129))=w0 at *
   refine wp_region_held_drew (S:=fun W=>Nw w0 W) (by kernel_rfl) ((Kp.refl _ _).drew) (fun hHeld => ?_)
   refine tM 0 rfl (fun W hSW=>by (try dsimp only at hSW);go_simp;rw []) hHeld ?_
   refine tM 1 rfl (fun W hSW=>by (try dsimp only at hSW);go_simp;rw []) hHeld ?_
   refine tM 2 rfl (fun W hSW=>by (try dsimp only at hSW);go_simp;rw []) hHeld ?_
   refine tM 3 rfl (fun W hSW=>by (try dsimp only at hSW);go_simp;rw []) hHeld ?_
   refine tM 4 rfl (fun W hSW=>by (try dsimp only at hSW);go_simp;rw []) hHeld ?_
   refine tM 5 rfl (fun W hSW=>by (try dsimp only at hSW);go_simp;rw []) hHeld ?_
   refine tM 6 rfl (fun W hSW=>by (try dsimp only at hSW);go_simp;rw []) hHeld ?_
   refine tM 7 rfl (fun W hSW=>by (try dsimp only at hSW);go_simp;rw []) hHeld ?_
   refine tM 8 rfl (fun W hSW=>by (try dsimp only at hSW);go_simp;rw []) hHeld ?_
   refine tM 9 rfl (fun W hSW=>by (try dsimp only at hSW);go_simp;rw []) hHeld ?_
   refine tM 10 rfl (fun W hSW=>by (try dsimp only at hSW);go_simp;rw []) hHeld ?_
   refine tM 11 rfl (fun W hSW=>by (try dsimp only at hSW);go_simp;rw []) hHeld ?_
   refine tM 12 rfl (fun W hSW=>by (try dsimp only at hSW);go_simp;rw []) hHeld ?_
   refine wpAnyH_done (by kernel_rfl) ?_ _
   clear hHeld
   go_wp2
   refine wp_region_held_drew (S:=fun W=>Nw w0 W) (by kernel_rfl) (((Kp.refl _ _).drew).drew) (fun hHeld => ?_)
   refine tM 0 rfl (fun W hSW=>by (try dsimp only at hSW);go_simp;rw []) hHeld ?_
   refine tM 1 rfl (fun W hSW=>by (try dsimp only at hSW);go_simp;rw []) hHeld ?_
   refine tM 2 rfl (fun W hSW=>by (try dsimp only at hSW);go_simp;rw []) hHeld ?_
   refine tM 3 rfl (fun W hSW=>by (try dsimp only at hSW);go_simp;rw []) hHeld ?_
   refine tM 4 rfl (fun W hSW=>by (try dsimp only at hSW);go_simp;rw []) hHeld ?_
   refine tM 5 rfl (fun W hSW=>by (try dsimp only at hSW);go_simp;rw []) hHeld ?_
   refine tM 6 rfl (fun W hSW=>by (try dsimp only at hSW);go_simp;rw []) hHeld ?_
   refine tM 7 rfl (fun W hSW=>by (try dsimp only at hSW);go_simp;rw []) hHeld ?_
   refine tM 8 rfl (fun W hSW=>by (try dsimp only at hSW);go_simp;rw []) hHeld ?_
   refine tM 9 rfl (fun W hSW=>by (try dsimp only at hSW);go_simp;rw []) hHeld ?_
   refine wpAnyH_done (by kernel_rfl) ?_ _
   have HK1:Hid (Nw w w0.drew.drew):=HK0.out.drew.drew
   have c3:=s4 w0.drew.drew (((Kp.refl _ _).drew).drew)
   clear s1 s2 s3 s4 hHeld
   go_wp2
   go_end0
   exact ⟨rfl,fr,turn,ov,wv,ev,s0,H.out.nw HK1.out,by rw [HC.out],by rw [HC.out],by omega,HOP.out,HOL.out,HT.out,KR.of_nw HK1.out⟩
  ·have HC:Hid (cc=((goF l hand t (1+16*l.length) (rchS ⟨List.replicate (16*l.length) false,[],s0.wait,s0.ended⟩ ((n:Int)+1) 0)).wait,(goF l hand t (1+16*l.length) (rchS ⟨List.replicate (16*l.length) false,[],s0.wait,s0.ended⟩ ((n:Int)+1) 0)).ended)):=by show _=_;rw [HCX.out,if_pos (by omega)]
   have m1:(xa != 4)=true∧(xa != kd)=false∨(xa != 4)=false:=by
    by_cases h4:xa=4
    ·right;simp [h4]
    ·left;refine ⟨by simpa using h4,?_⟩
     have:xa=kd:=by omega
     simp [this]
   clear HCX hcase hno
   go_enter Tryz.func85,Tryz.ntmps85
   go_wp2
   generalize (w.alloc (.cells LT.toArray 129))=w0 at *
   refine wp_region_held_drew (S:=fun W=>Nw w0 W) (by kernel_rfl) ((Kp.refl _ _).drew) (fun hHeld => ?_)
   refine tM 0 rfl (fun W hSW=>by (try dsimp only at hSW);go_simp;rw []) hHeld ?_
   refine tM 1 rfl (fun W hSW=>by (try dsimp only at hSW);go_simp;rw []) hHeld ?_
   refine tM 2 rfl (fun W hSW=>by (try dsimp only at hSW);go_simp;rw []) hHeld ?_
   refine tM 3 rfl (fun W hSW=>by (try dsimp only at hSW);go_simp;rw []) hHeld ?_
   refine tM 4 rfl (fun W hSW=>by (try dsimp only at hSW);go_simp;rw []) hHeld ?_
   refine tM 5 rfl (fun W hSW=>by (try dsimp only at hSW);go_simp;rw []) hHeld ?_
   refine tM 6 rfl (fun W hSW=>by (try dsimp only at hSW);go_simp;rw []) hHeld ?_
   refine tM 7 rfl (fun W hSW=>by (try dsimp only at hSW);go_simp;rw []) hHeld ?_
   refine tM 8 rfl (fun W hSW=>by (try dsimp only at hSW);go_simp;rw []) hHeld ?_
   refine tM 9 rfl (fun W hSW=>by (try dsimp only at hSW);go_simp;rw []) hHeld ?_
   refine tM 10 rfl (fun W hSW=>by (try dsimp only at hSW);go_simp;rw []) hHeld ?_
   refine tM 11 rfl (fun W hSW=>by (try dsimp only at hSW);go_simp;rw []) hHeld ?_
   refine tM 12 rfl (fun W hSW=>by (try dsimp only at hSW);go_simp;rw []) hHeld ?_
   refine wpAnyH_done (by kernel_rfl) ?_ _
   clear hHeld
   go_wp2
   refine wp_region_held_drew (S:=fun W=>Nw w0 W) (by kernel_rfl) (((Kp.refl _ _).drew).drew) (fun hHeld => ?_)
   refine tM 0 rfl (fun W hSW=>by (try dsimp only at hSW);go_simp;rw []) hHeld ?_
   refine tM 1 rfl (fun W hSW=>by (try dsimp only at hSW);go_simp;rw []) hHeld ?_
   refine tM 2 rfl (fun W hSW=>by (try dsimp only at hSW);go_simp;rw []) hHeld ?_
   refine tM 3 rfl (fun W hSW=>by (try dsimp only at hSW);go_simp;rw []) hHeld ?_
   refine tM 4 rfl (fun W hSW=>by (try dsimp only at hSW);go_simp;rw []) hHeld ?_
   refine tM 5 rfl (fun W hSW=>by (try dsimp only at hSW);go_simp;rw []) hHeld ?_
   refine tM 6 rfl (fun W hSW=>by (try dsimp only at hSW);go_simp;rw []) hHeld ?_
   refine tM 7 rfl (fun W hSW=>by (try dsimp only at hSW);go_simp;rw []) hHeld ?_
   refine tM 8 rfl (fun W hSW=>by (try dsimp only at hSW);go_simp;rw []) hHeld ?_
   refine tM 9 rfl (fun W hSW=>by (try dsimp only at hSW);go_simp;rw []) hHeld ?_
   refine wpAnyH_done (by kernel_rfl) ?_ _
   have HK1:Hid (Nw w w0.drew.drew):=HK0.out.drew.drew
   have HB1:Hid (Bx w0.drew.drew w.heap.size LT):=HBX.out _ (((Kp.refl _ _).drew).drew)
   have c3:=s4 w0.drew.drew (((Kp.refl _ _).drew).drew)
   have HG:Hid (StM ((w0.drew.drew.setCells R 7 LT).setCell ⟨R,34,none⟩ (.int .i64 ((turn:Int)+1))) R g cap l hand t (turn+1) gb ov wv ev { s0 with vis:=List.replicate (16*l.length) false }):=HBG.out _ HK1.out
   have HTR:Hid (w0.drew.drew.there R 7 LT.toArray.size):=by
    intro j hj
    have hj':j<27:=by rwa [List.size_toArray,HLN.out] at hj
    have hs:=H.out.nw HK1.out
    exact ⟨by rw [hs.frm j _ (List.getElem?_eq_getElem (by rw [thC_len];exact hj'))];rfl,hs.z _⟩
   clear s1 s2 s3 s4 hHeld HBG
   generalize w0.drew.drew=w1 at *
   have hw1:w.heap.size<w1.heap.size:=HB1.out.lt (by rw [HLN.out];omega)
   have hRw1:R<w1.heap.size:=by omega
   have c34:(w1.setCells R 7 LT).cell? ⟨R,34,none⟩=some (.int .i64 (turn:Int)):=(cell_setCells_out (by right;rw [HLN.out];omega)).trans (H.out.nw HK1.out).tun
   have z34:(w1.setCells R 7 LT).frozen? ⟨R,34,none⟩=false:=by rw [World.frozen?_setCells];exact (H.out.nw HK1.out).z _
   have kk1:Kp (fun b=>b=R) w1 (w1.setCells R 7 LT):=kp_setCells _ _ _
   have b5:(w1.setCells R 7 LT).cell? ⟨w.heap.size,0,none⟩=some (.int .i64 (n:Int)):=(kk1.cell (p:=⟨w.heap.size,0,none⟩) hw1 (by show ¬w.heap.size=R;omega)).trans (HB1.out.cell HLT0.out)
   have hz5:R<(w1.setCells R 7 LT).heap.size:=Nat.lt_of_lt_of_le hRw1 kk1.size
   have hz6:w.heap.size<(w1.setCells R 7 LT).heap.size:=Nat.lt_of_lt_of_le hw1 kk1.size
   have HK5:Hid (Kp (fun b=>b=R) w1 ((w1.setCells R 7 LT).setCell ⟨R,34,none⟩ (.int .i64 ((turn:Int)+1)))):=kk1.setCell (p:=⟨R,34,none⟩) (Or.inr rfl) _
   have hneR:¬w.heap.size=R:=by omega
   clear kk1
   have HRC:Hid (∀W,StM W R g cap l hand t (turn+1) gb ov wv ev { s0 with vis:=List.replicate (16*l.length) false }→Calls Tryz.prog 104 #[.pointer (some ⟨R,0,none⟩),.int .i64 ((n:Int)+1),.int .i64 0] W (RcPost W R g cap l hand t (turn+1) gb ov wv ev (rchS { s0 with vis:=List.replicate (16*l.length) false } ((n:Int)+1) 0))):=fun W hS=>by
    have:=reachT_any R g cap l hand t (turn+1) gb ov wv ev _ (n+1) 0 W hS (by omega) (by omega) hn (by have:=HOL.out;show s0.opn.length≤100000;omega)
    exact this
   have HS1:Hid (TnOk l.length (rchS { s0 with vis:=List.replicate (16*l.length) false } ((n:Int)+1) 0)∧((rchS { s0 with vis:=List.replicate (16*l.length) false } ((n:Int)+1) 0).opn.length+(rchS { s0 with vis:=List.replicate (16*l.length) false } ((n:Int)+1) 0).vis.count false≤1+16*l.length∨(overT (rchS { s0 with vis:=List.replicate (16*l.length) false } ((n:Int)+1) 0)=true∧(rchS { s0 with vis:=List.replicate (16*l.length) false } ((n:Int)+1) 0).opn.length≤20000+(turn+1)))∧(goF l hand t (1+16*l.length) (rchS { s0 with vis:=List.replicate (16*l.length) false } ((n:Int)+1) 0)).wait=cc.1∧(goF l hand t (1+16*l.length) (rchS { s0 with vis:=List.replicate (16*l.length) false } ((n:Int)+1) 0)).ended=cc.2):=by
    have h0:TnOk l.length { s0 with vis:=List.replicate (16*l.length) false }:=⟨HT.out.w,HT.out.e,by simp,HT.out.o⟩
    have h1:=rchS_ok h0 (n+1) 0 (by omega)
    have e1:((n+1:Nat):Int)=(n:Int)+1:=by push_cast;rfl
    rw [e1] at h1
    refine ⟨h1,?_⟩
    have hcn:=rchS_cnt (s:={ s0 with vis:=List.replicate (16*l.length) false }) (n+1) 0
    rw [e1] at hcn
    have hln:=rchS_len { s0 with vis:=List.replicate (16*l.length) false } ((n:Int)+1) 0
    have hwe:=rchS_wait { s0 with vis:=List.replicate (16*l.length) false } ((n:Int)+1) 0
    rcases HOP.out with e|e
    ·have e2:({ s0 with vis:=List.replicate (16*l.length) false }:Tn)=⟨List.replicate (16*l.length) false,[],s0.wait,s0.ended⟩:=by rw [←e]
     refine ⟨Or.inl ?_,?_⟩
     ·rw [hcn];simp [e]
     ·rw [HC.out,e2];exact ⟨rfl,rfl⟩
    ·have ho:overT (rchS { s0 with vis:=List.replicate (16*l.length) false } ((n:Int)+1) 0)=true:=by unfold overT;rw [hwe.1,hwe.2];exact e
     have ho2:overT (rchS ⟨List.replicate (16*l.length) false,[],s0.wait,s0.ended⟩ ((n:Int)+1) 0)=true:=by unfold overT;rw [(rchS_wait _ _ _).1,(rchS_wait _ _ _).2];exact e
     have hol:=HOL.out
     refine ⟨Or.inr ⟨ho,by simp only at hln;omega⟩,?_⟩
     rw [HC.out,goF_over ho,goF_over ho2,hwe.1,hwe.2,(rchS_wait _ _ _).1,(rchS_wait _ _ _).2]
     exact ⟨rfl,rfl⟩
   generalize rchS { s0 with vis:=List.replicate (16*l.length) false } ((n:Int)+1) 0=s1 at *
   rcases m1 with ⟨m1,m2⟩ | m1
   all_goals
    go_wp2_with (first
     | (with_reducible (show Go.wpList _ _ _ ({ dst:=_,op:=Op.load 129 _,type:=_,pos:=_,after:=_,guard:=_ }::_) _ _);refine wpList_load_mid rfl 129 _ rfl w.heap.size 0 rfl LT dt HB1.out.r HU.out HD.out HSI.out ?_)
     | (with_reducible (show Go.wpList _ _ _ ({ dst:=_,op:=Op.store 129 _ _,type:=_,pos:=_,after:=_,guard:=_ }::_) _ _);refine wpList_store_mid rfl 129 _ _ rfl R 7 LT.toArray rfl rfl HTR.out HSA.out (all_oneCell_toArray HON.out) ?_)
     | fail)
    refine (HRC.out _ HG.out).mono ?_
    rintro e6 w6 ⟨rfl,ov6,hS6,hk6⟩
    have HI0:Hid (StM w6 R g cap l hand t (turn+1) gb ov6 wv ev s1∧KR R gb w w6):=⟨hS6,((KR.of_nw HK1.out).trans' HK5.out (fun b _ e=>Or.inl (by rw [e];exact Nat.le_refl _))).trans (KR.of_kf hk6 (fun b hb=>by have:=(H.out.own.lt b hb).1;omega))⟩
    clear hS6 hk6 c34 z34 b5 hz5 hz6 HTR HK5 HG HRC c3
    go_wp2
    go_loopg [] (1+16*l.length) (fun m wr=>∃(ov wv ev:Value) (s:Tn),StM wr R g cap l hand t (turn+1) gb ov wv ev s∧TnOk l.length s∧(s.opn.length+s.vis.count false≤m∨(overT s=true∧s.opn.length≤20000+(turn+1)))∧m≤1+16*l.length∧(goF l hand t m s).wait=cc.1∧(goF l hand t m s).ended=cc.2∧KR R gb w wr)
    case atStart=>exact ⟨ov6,wv,ev,s1,HI0.out.1,HS1.out.1,HS1.out.2.1,Nat.le_refl _,HS1.out.2.2.1,HS1.out.2.2.2,HI0.out.2⟩
    case round =>
     obtain ⟨ov',wv',ev',s',hS,hTn,hme,hmm,hgw,hge,hkr⟩:=hrel
     have HS':Hid (StM wr R g cap l hand t (turn+1) gb ov' wv' ev' s'):=hS
     have HTN:Hid (TnOk l.length s'):=hTn
     have HME:Hid (s'.opn.length+s'.vis.count false≤gk∨(overT s'=true∧s'.opn.length≤20000+(turn+1))):=hme
     have HMM:Hid (gk≤1+16*l.length):=hmm
     have HGW:Hid ((goF l hand t gk s').wait=cc.1):=hgw
     have HGE:Hid ((goF l hand t gk s').ended=cc.2):=hge
     have HKR:Hid (KR R gb w wr):=hkr
     have hRr:R<wr.heap.size:=hS.lt
     have r36:=hS.opn
     have HFIN:Hid (∀W,Nw wr W→(s'.opn=[]∨overT s'=true)→GoPost w R g cap l hand gb turn cc (.returned (.tuple #[])) W):=by
      intro W kW ho
      have hf:goF l hand t gk s'=s':=ho.elim (fun e=>goF_nil e gk) (fun e=>goF_over e gk)
      have g1:=HGW.out
      have g2:=HGE.out
      rw [hf] at g1 g2
      refine ⟨rfl,t,turn+1,ov',wv',ev',s',HS'.out.nw kW,g1,g2,Nat.le_refl _,ho,?_,HTN.out,HKR.out.trans (KR.of_nw kW)⟩
      rcases HME.out with e|e
      ·have:=HMM.out;omega
      ·exact e.2
     clear hS hTn hme hmm hgw hge hkr HI0 HS1
     by_cases hq:s'.opn=[]
     ·have hle:∃pp c3,ov'=.slice pp 0 c3:=by have:=ownsLenX HS'.out.own;rw [hq] at this;exact this
      obtain ⟨pp,c3,rfl⟩:=hle
      have HQ:Hid (s'.opn=[]):=hq
      clear hq
      go_wp2
      go_end0
      exact HFIN.out _ (Kp.refl _ _) (Or.inl HQ.out)
     ·obtain ⟨q,pr,hqe⟩:∃q pr,s'.opn=q++[pr]:=⟨s'.opn.dropLast,s'.opn.getLast hq,(List.dropLast_concat_getLast hq).symm⟩
      obtain ⟨z,anew⟩:=pr
      obtain ⟨⟨a,ha,hal⟩,han⟩:=HTN.out.o (z,anew) (by rw [hqe];simp)
      simp only at ha han
      subst ha
      have HQE:Hid (s'.opn=q++[((a:Int),anew)]):=hqe
      obtain ⟨y,hy⟩:∃y,l[a]? = some y:=⟨_,List.getElem?_eq_getElem hal⟩
      have HY:Hid (l[a]? = some y):=hy
      have HOW:Hid (wr.ownsRow (R+1) 205 2 ov' (q.length+1) (spsC q++spC ((a:Int),anew))):=by
       have:=HS'.out.own
       rw [hqe] at this
       have e1:(q++[((a:Int),anew)]).length=q.length+1:=by simp
       have e2:spsC (q++[((a:Int),anew)])=spsC q++spC ((a:Int),anew):=by rw [spsC_app];simp [spsC]
       rw [e1,e2] at this;exact this
      obtain ⟨go,cpo,hov⟩:=owns_some HOW.out (by omega)
      subst hov
      have HIS:Hid (Calls Tryz.prog 55 #[.pointer (some ⟨R,0,none⟩)] wr fun e w'=>e=.returned (.bool (overT s'))∧w'=wr):=isOver_any R s'.wait.over s'.ended.over wr HS'.out.wait.c2 HS'.out.ended.c2
      have hql:q.length≤60000:=by
       have h1:s'.opn.length=q.length+1:=by rw [hqe];simp
       rcases HME.out with e|e
       ·have:=HMM.out;omega
       ·have:=e.2;omega
      clear hq hqe hy
      go_wp2_with fail
      refine HIS.out.mono ?_
      rintro e7 w7 ⟨rfl,hw7⟩
      subst hw7
      have HOV:Hid (overT s'=overT s'):=rfl
      cases hov:overT s' with
      | true =>
       have HFF:=HFIN.out _ (Kp.refl _ _) (Or.inr hov)
       have HFF':Hid (GoPost w R g cap l hand gb turn cc (.returned (.tuple #[])) w7):=HFF
       clear HFF HIS
       go_wp2
       go_end0
       exact HFF'.out
      | false =>
       have HOVF:Hid (overT s'=false):=hov
       clear hov HIS HFIN
       obtain ⟨m,hgm⟩:∃m,gk=m+1:=⟨gk - 1,by
        have h1:s'.opn.length=q.length+1:=by rw [HQE.out];simp
        rcases HME.out with e|e
        ·omega
        ·rw [HOVF.out] at e;simp at e⟩
       have HGM:Hid (gk=m+1):=hgm
       clear hgm
       have HLVO:Hid (TnOk l.length (lvS hand t { s' with opn:=q } a anew y)∧(lvS hand t { s' with opn:=q } a anew y).opn.length+(lvS hand t { s' with opn:=q } a anew y).vis.count false≤m∧m≤1+16*l.length∧(goF l hand t m (lvS hand t { s' with opn:=q } a anew y)).wait=cc.1∧(goF l hand t m (lvS hand t { s' with opn:=q } a anew y)).ended=cc.2):=by
        have h0:TnOk l.length { s' with opn:=q }:=⟨HTN.out.w,HTN.out.e,HTN.out.v,fun p hp=>HTN.out.o p (by rw [HQE.out];simp [hp])⟩
        obtain ⟨h1,h2⟩:=lvS_ok rfl hn h0 hok HTO.out hA HY.out han
        have h3:s'.opn.length=q.length+1:=by rw [HQE.out];simp
        have hm:=HMM.out
        have hg:=HGM.out
        have gs:=goF_step HOVF.out HQE.out HY.out (hand:=hand) (t:=t) m
        have g1:=HGW.out
        have g2:=HGE.out
        rw [hg,gs] at g1 g2
        refine ⟨h1,?_,by omega,g1,g2⟩
        simp only at h2
        rcases HME.out with e|e
        ·omega
        ·rw [HOVF.out] at e;simp at e
       have HLVC:Hid (∀W,StM W R g cap l hand t (turn+1) gb (.slice (some ⟨go,0,none⟩) q.length cpo) wv' ev' { s' with opn:=q }→Calls Tryz.prog 105 #[.pointer (some ⟨R,0,none⟩),.agg #[.int .i64 (a:Int),.int .i64 (anew:Int)]] W (LvPost W R g cap l hand t (turn+1) gb (lvS hand t { s' with opn:=q } a anew y))):=fun W hS=>leaveT_any R g cap l hand t (turn+1) gb _ wv' ev' _ a anew y W hS HY.out han hn (by show q.length≤90000;omega) hA (HIO.out y (List.mem_of_getElem? HY.out)) hok HTO.out.k ht1 HTO.out.b HTN.out.w.n HTN.out.e.n (fun u hu=>(HTN.out.w.t u hu).k) (fun u hu=>(HTN.out.e.t u hu).k)
       have p1:∀W,Nw w7 W→W.cell? ⟨R,36,none⟩=some (.slice (some ⟨go,0,none⟩) (q.length+1) cpo):=fun W kW=>(kW.cell (p:=⟨R,36,none⟩) hRr (fun h=>h)).trans r36
       have hgo:go<w7.heap.size:=(HOW.out.lt go rfl).2
       have HP2:∀W,Nw w7 W→W.cell? ⟨go,q.length*2,none⟩=some (.int .i64 (a:Int))∧W.cell? ⟨go,q.length*2+1,none⟩=some (.int .i64 (anew:Int)):=by
        intro W kW
        have ho:=owns_kp HOW.out kW (fun _ _ h=>h)
        refine ⟨owns_cell ho (q.length*2) ?_,owns_cell ho (q.length*2+1) ?_⟩
        ·rw [List.getElem?_append_right (by rw [spsC_length];exact Nat.le_refl _),spsC_length,Nat.sub_self];rfl
        ·rw [List.getElem?_append_right (by rw [spsC_length];omega),spsC_length,Nat.add_sub_cancel_left];rfl
       have hcap:=owns_capX HOW.out
       have q1:(q.length:Int)<(q.length:Int)+1:=by omega
       have q2:IntKind.i64.wrap (q.length:Int)=(q.length:Int):=IntWalk.i64_in _ (by omega)
       have q3:(q.length:Int)≤(cpo:Int):=by omega
       have q4:q.length≤cpo:=by omega
       have q5:(0:Int)≤(q.length:Int):=by omega
       have HW8:Hid (Nw w7 ((w7.alloc (.cells #[int i64 0,int i64 0] 205)).drew.setCells w7.heap.size 0 (spC ((a:Int),anew)))):=(((Kp.refl _ _).alloc _).drew).trans' (kp_setCells _ 0 _) (by intro b hb e;omega)
       have HB8:Hid (Bx ((w7.alloc (.cells #[int i64 0,int i64 0] 205)).drew.setCells w7.heap.size 0 (spC ((a:Int),anew))) w7.heap.size (spC ((a:Int),anew))):=((Bx.new w7 [.int .i64 0,.int .i64 0] 205).kp (by simp) ((Kp.refl (fun _=>False) _).drew) (fun h=>h)).put rfl
       go_wp2
       refine wp_region_held_drew (S:=fun W=>Nw w7 W) (by kernel_rfl) ((Kp.refl _ _).drew) (fun hHeld => ?_)
       refine tM 0 rfl (fun W hSW=>by (try dsimp only at hSW);go_simp;rw []) hHeld ?_
       refine tM 1 rfl (fun W hSW=>by (try dsimp only at hSW);go_simp;rw []) hHeld ?_
       refine tM 2 rfl (fun W hSW=>by (try dsimp only at hSW);go_simp;rw []) hHeld ?_
       refine tM 3 rfl (fun W hSW=>by (try dsimp only at hSW);go_simp;rw []) hHeld ?_
       refine tM 4 rfl (fun W hSW=>by (try dsimp only at hSW);go_simp;rw []) hHeld ?_
       refine tM 5 rfl (fun W hSW=>by (try dsimp only at hSW);go_simp;rw []) hHeld ?_
       refine tM 6 rfl (fun W hSW=>by (try dsimp only at hSW);go_simp;rw []) hHeld ?_
       refine tM 7 rfl (fun W hSW=>by (try dsimp only at hSW);go_simp;rw []) hHeld ?_
       refine tM 8 rfl (fun W hSW=>by (try dsimp only at hSW);go_simp;rw []) hHeld ?_
       refine tM 9 rfl (fun W hSW=>by (try dsimp only at hSW);go_simp;rw []) hHeld ?_
       refine tM 10 rfl (fun W hSW=>by (try dsimp only at hSW);go_simp;rw []) hHeld ?_
       refine tM 11 rfl (fun W hSW=>by (try dsimp only at hSW);go_simp;rw []) hHeld ?_
       refine wpAnyH_ready (rs:=[12]) (by kernel_rfl) (by simp) ?_
       refine consL rfl (fun K hK => ?_) AllReadyH.nil
       go_simp
       refine hK.out _ _ (((Kp.refl _ _).alloc _).drew) (fun hH2 => ?_)
       clear hK K
       try simp only [Act.put,sA,sZ,sS]
       refine wpAnyH_ready (rs:=[13]) (by kernel_rfl) (by simp) ?_
       refine consL rfl (fun K hK => ?_) AllReadyH.nil
       rw [if_pos (by rfl)]
       refine wp_store_mid 205 _ _ rfl w7.heap.size 0 (spC ((a:Int),anew)).toArray rfl rfl ?_ Tryz.sizeSp (all_oneCell_toArray (spC_one _)) ?_
       ·exact ((Bx.new w7 [.int .i64 0,.int .i64 0] 205).kp (by simp) ((Kp.refl (fun _=>False) _).drew) (fun h=>h)).there rfl
       refine hK.out _ _ HW8.out (fun _ => ?_)
       clear hK K
       try simp only [Act.put,sA,sZ,sS]
       refine wpAnyH_done (by kernel_rfl) ?_ _
       clear hHeld hH2 p1 HP2
       have c8:=(HW8.out.cell (p:=⟨R,36,none⟩) hRr (fun h=>h)).trans r36
       have z8:∀o,(((w7.alloc (.cells #[int i64 0,int i64 0] 205)).drew.setCells w7.heap.size 0 (spC ((a:Int),anew)))).frozen? ⟨R,o,none⟩=false:=fun o=>(HW8.out.frozen (p:=⟨R,o,none⟩) hRr (fun h=>h)).trans (HS'.out.z o)
       have HO8:Hid ((((w7.alloc (.cells #[int i64 0,int i64 0] 205)).drew.setCells w7.heap.size 0 (spC ((a:Int),anew)))).ownsRow (R+1) 205 2 (.slice (some ⟨go,0,none⟩) q.length cpo) q.length (spsC q)):=owns_kp (ownsRow_pop (by rw [spsC_length]) HOW.out) HW8.out (fun _ _ h=>h)
       have HS8:Hid (StM (((w7.alloc (.cells #[int i64 0,int i64 0] 205)).drew.setCells w7.heap.size 0 (spC ((a:Int),anew)))) R g cap l hand t (turn+1) gb (.slice (some ⟨go,0,none⟩) (q.length+1) cpo) wv' ev' s'):=HS'.out.nw HW8.out
       have h78:w7.heap.size≤(((w7.alloc (.cells #[int i64 0,int i64 0] 205)).drew.setCells w7.heap.size 0 (spC ((a:Int),anew)))).heap.size:=HW8.out.size
       have hB8l:w7.heap.size<(((w7.alloc (.cells #[int i64 0,int i64 0] 205)).drew.setCells w7.heap.size 0 (spC ((a:Int),anew)))).heap.size:=HB8.out.lt (by simp [spC])
       generalize ((w7.alloc (.cells #[int i64 0,int i64 0] 205)).drew.setCells w7.heap.size 0 (spC ((a:Int),anew)))=w8 at *
       have hR8:R<w8.heap.size:=by omega
       have kk9:Kp (fun b=>b=R) w8 ((w8.setCell ⟨R,36,none⟩ (.slice (some ⟨go,0,none⟩) q.length cpo)).drew):=((Kp.refl (fun b=>b=R) w8).setCell (p:=⟨R,36,none⟩) (Or.inr rfl) _).drew
       have HS9:Hid (StM ((w8.setCell ⟨R,36,none⟩ (.slice (some ⟨go,0,none⟩) q.length cpo)).drew) R g cap l hand t (turn+1) gb (.slice (some ⟨go,0,none⟩) q.length cpo) wv' ev' { s' with opn:=q }):=(HS8.out.set36 HO8.out).nw ((Kp.refl _ _).drew)
       have HF9:Hid (((w8.setCell ⟨R,36,none⟩ (.slice (some ⟨go,0,none⟩) q.length cpo)).drew).cell? ⟨w7.heap.size,0,none⟩=some (.int .i64 (a:Int))∧((w8.setCell ⟨R,36,none⟩ (.slice (some ⟨go,0,none⟩) q.length cpo)).drew).cell? ⟨w7.heap.size,1,none⟩=some (.int .i64 (anew:Int))∧w7.heap.size<((w8.setCell ⟨R,36,none⟩ (.slice (some ⟨go,0,none⟩) q.length cpo)).drew).heap.size):=⟨(kk9.cell (p:=⟨w7.heap.size,0,none⟩) hB8l (by show ¬w7.heap.size=R;omega)).trans (HB8.out.cell (k:=0) rfl),(kk9.cell (p:=⟨w7.heap.size,1,none⟩) hB8l (by show ¬w7.heap.size=R;omega)).trans (HB8.out.cell (k:=1) rfl),Nat.lt_of_lt_of_le hB8l kk9.size⟩
       have HK9:Hid (KR R gb w ((w8.setCell ⟨R,36,none⟩ (.slice (some ⟨go,0,none⟩) q.length cpo)).drew)):=(HKR.out.trans (KR.of_nw HW8.out)).trans' kk9 (fun b _ e=>Or.inl (by rw [e];exact Nat.le_refl _))
       clear kk9 r36
       have HREST:True:=trivial
       go_wp2
       refine wp_region_held_drew (S:=fun _=>True) (by kernel_rfl) trivial (fun hHeld => ?_)
       refine tM 0 rfl (fun W hSW=>by (try dsimp only at hSW);go_simp;rw []) hHeld ?_
       refine tM 1 rfl (fun W hSW=>by (try dsimp only at hSW);go_simp;rw []) hHeld ?_
       refine tM 2 rfl (fun W hSW=>by (try dsimp only at hSW);go_simp;rw []) hHeld ?_
       refine tM 3 rfl (fun W hSW=>by (try dsimp only at hSW);go_simp;rw []) hHeld ?_
       refine tM 5 rfl (fun W hSW=>by (try dsimp only at hSW);go_simp;rw []) hHeld ?_
       refine tM 6 rfl (fun W hSW=>by (try dsimp only at hSW);go_simp;rw []) hHeld ?_
       refine tM 7 rfl (fun W hSW=>by (try dsimp only at hSW);go_simp;rw []) hHeld ?_
       refine wpAnyH_ready (rs:=[4,8]) (by kernel_rfl) (by simp) ?_
       refine consL rfl (fun K hK => ?_) (consL rfl (fun K hK => ?_) AllReadyH.nil)
       ·go_simp
        refine hK.out _ _ trivial (fun _ => ?_)
        clear hK K
        try simp only [Act.put,sA,sZ,sS]
        refine wpAnyH_ready (rs:=[8]) (by kernel_rfl) (by simp) ?_
        refine consL rfl (fun K hK => ?_) AllReadyH.nil
        go_simp
        refine hK.out _ _ trivial (fun _ => ?_)
        clear hK K
        try simp only [Act.put,sA,sZ,sS]
        refine tM 9 rfl (fun W hSW=>by (try dsimp only at hSW);go_simp;rw []) hHeld ?_
        refine tM 10 rfl (fun W hSW=>by (try dsimp only at hSW);go_simp;rw []) hHeld ?_
        refine tM 11 rfl (fun W hSW=>by (try dsimp only at hSW);go_simp;rw []) hHeld ?_
        refine tM 12 rfl (fun W hSW=>by (try dsimp only at hSW);go_simp;rw []) hHeld ?_
        refine tM 13 rfl (fun W hSW=>by (try dsimp only at hSW);go_simp;rw []) hHeld ?_
        refine wpAnyH_ready (rs:=[14]) (by kernel_rfl) (by simp) ?_
        refine consL rfl (fun K hK => ?_) AllReadyH.nil
        go_simp
        refine hK.out _ _ trivial (fun _ => ?_)
        clear hK K
        try simp only [Act.put,sA,sZ,sS]
        refine wpAnyH_done (by kernel_rfl) ?_ _
        have hhh:=HREST
        clear HREST c8 z8
        generalize (w8.setCell ⟨R,36,none⟩ (.slice (some ⟨go,0,none⟩) q.length cpo)).drew=w9 at *
        have f0:=HF9.out.1
        have f1:=HF9.out.2.1
        have hf2:=HF9.out.2.2
        go_wp2_with fail
        refine (HLVC.out _ HS9.out).mono ?_
        rintro e10 w10 ⟨rfl,ov10,wv10,ev10,hS10,hk10⟩
        have HE10:Hid (StM w10 R g cap l hand t (turn+1) gb ov10 wv10 ev10 (lvS hand t { s' with opn:=q } a anew y)∧KR R gb w w10):=⟨hS10,HK9.out.trans hk10⟩
        clear hS10 hk10 f0 f1 hf2
        go_wp2
        go_roundg m
        case measure=>rw [HGM.out];omega
        case rel=>exact ⟨ov10,wv10,ev10,_,HE10.out.1,HLVO.out.1,Or.inl HLVO.out.2.1,HLVO.out.2.2.1,HLVO.out.2.2.2.1,HLVO.out.2.2.2.2,HE10.out.2⟩
       ·go_simp
        refine hK.out _ _ trivial (fun _ => ?_)
        clear hK K
        try simp only [Act.put,sA,sZ,sS]
        refine tM 9 rfl (fun W hSW=>by (try dsimp only at hSW);go_simp;rw []) hHeld ?_
        refine tM 10 rfl (fun W hSW=>by (try dsimp only at hSW);go_simp;rw []) hHeld ?_
        refine wpAnyH_ready (rs:=[4]) (by kernel_rfl) (by simp) ?_
        refine consL rfl (fun K hK => ?_) AllReadyH.nil
        go_simp
        refine hK.out _ _ trivial (fun _ => ?_)
        clear hK K
        try simp only [Act.put,sA,sZ,sS]
        refine tM 11 rfl (fun W hSW=>by (try dsimp only at hSW);go_simp;rw []) hHeld ?_
        refine tM 12 rfl (fun W hSW=>by (try dsimp only at hSW);go_simp;rw []) hHeld ?_
        refine tM 13 rfl (fun W hSW=>by (try dsimp only at hSW);go_simp;rw []) hHeld ?_
        refine wpAnyH_ready (rs:=[14]) (by kernel_rfl) (by simp) ?_
        refine consL rfl (fun K hK => ?_) AllReadyH.nil
        go_simp
        refine hK.out _ _ trivial (fun _ => ?_)
        clear hK K
        try simp only [Act.put,sA,sZ,sS]
        refine wpAnyH_done (by kernel_rfl) ?_ _
        have hhh:=HREST
        clear HREST c8 z8
        generalize (w8.setCell ⟨R,36,none⟩ (.slice (some ⟨go,0,none⟩) q.length cpo)).drew=w9 at *
        have f0:=HF9.out.1
        have f1:=HF9.out.2.1
        have hf2:=HF9.out.2.2
        go_wp2_with fail
        refine (HLVC.out _ HS9.out).mono ?_
        rintro e10 w10 ⟨rfl,ov10,wv10,ev10,hS10,hk10⟩
        have HE10:Hid (StM w10 R g cap l hand t (turn+1) gb ov10 wv10 ev10 (lvS hand t { s' with opn:=q } a anew y)∧KR R gb w w10):=⟨hS10,HK9.out.trans hk10⟩
        clear hS10 hk10 f0 f1 hf2
        go_wp2
        go_roundg m
        case measure=>rw [HGM.out];omega
        case rel=>exact ⟨ov10,wv10,ev10,_,HE10.out.1,HLVO.out.1,Or.inl HLVO.out.2.1,HLVO.out.2.2.1,HLVO.out.2.2.2.1,HLVO.out.2.2.2.2,HE10.out.2⟩
end Go.Proofs.YtcboiapggnmpfaaGreatDoor
