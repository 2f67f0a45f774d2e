import Derived.Test.YtcboiapggnmpfaaGreatQbz
import Derived.Test.YtcboiapggnmpfaaGreatQby
namespace Go.Proofs.YtcboiapggnmpfaaGreat
set_option maxRecDepth 100000
set_option maxHeartbeats 4000000
set_option linter.unusedSimpArgs false
set_option linter.unusedVariables false
open Go.RowKit
open Value (int)
open IntKind (i64)
theorem box_mt (W:World) (m:Mt):Bx ((W.alloc (.cells #[int i64 0,int i64 0,int i64 0,int i64 0,int i64 0,int i64 0] 70)).setCells W.heap.size 0 (mtC m)) W.heap.size (mtC m)∧Nw W ((W.alloc (.cells #[int i64 0,int i64 0,int i64 0,int i64 0,int i64 0,int i64 0] 70)).setCells W.heap.size 0 (mtC m)):=by
 refine ⟨(Bx.new W (mtC ⟨0,0,0,0,0,0⟩) 70).put (by simp [mtC]),((Kp.refl _ _).alloc _).trans' (kp_setCells _ 0 _) (by intro b hb e;omega)⟩
theorem box_there (W:World) (m:Mt):(W.alloc (.cells #[int i64 0,int i64 0,int i64 0,int i64 0,int i64 0,int i64 0] 70)).there W.heap.size 0 (mtC m).toArray.size:=by
 have:=(Bx.new W (mtC ⟨0,0,0,0,0,0⟩) 70).there (n:=6) (by simp [mtC])
 simpa [mtC] using this
theorem risesM_any (p:Option Addr) (cap:Nat) (l:List Mt) (w:World) (hp:MtsP w p l) (hm:l.length≤100000) (hok:∀x∈l,MtOk x) (hr:l.Pairwise (fun a b=>a.first<b.first)) :
  Calls Tryz.prog 60 #[.slice p l.length cap] w fun e w'=>e=.returned (.bool true)∧Nw w w':=by
 have HP:Hid (MtsP w p l):=hp
 have HR:Hid (l.Pairwise (fun a b=>a.first<b.first)):=hr
 obtain ⟨dd,hu,hd⟩:=Option.map_eq_some_iff.1 Tryz.rowMt'
 clear hp hok hr
 go_enter Tryz.func60,Tryz.ntmps60
 go_wp2
 go_loopg [3] l.length (fun k v3 wr=>∃j:Nat,v3=.int .i64 ((j:Int)+1)∧k=l.length - j∧j≤l.length∧Nw w wr)
 case atStart=>exact ⟨0,by simp,rfl,by omega,Kp.refl _ _⟩
 case round =>
  obtain ⟨j,rfl,hmm,hj,hN⟩:=hrel
  have HMM:Hid (_=l.length - j):=hmm
  have HN:Hid (Nw w wr):=hN
  clear hmm hN
  by_cases hj':j+1<l.length
  ·obtain ⟨a,ha⟩:∃a,l[j]? = some a:=⟨l[j],by simp [show j<l.length by omega]⟩
   obtain ⟨b,hb⟩:∃b,l[j+1]? = some b:=⟨l[j+1],by simp [hj']⟩
   have hne:¬l=[]:=by intro e;rw [e] at ha;simp at ha
   obtain ⟨g,rfl,hgl,hcr⟩:=HP.out hne
   have HRA:Hid (∀W,Nw wr W→W.rangeAt g (j*6) (mtC a)):=fun W k i v hv=>((HN.out.trans k).cell (p:=⟨g,j*6+i,none⟩) hgl (fun h=>h)).trans (hcr j a ha i v hv)
   have HRB:Hid (∀W,Nw wr W→W.rangeAt g ((j+1)*6) (mtC b)):=fun W k i v hv=>((HN.out.trans k).cell (p:=⟨g,(j+1)*6+i,none⟩) hgl (fun h=>h)).trans (hcr (j+1) b hb i v hv)
   have hlt:a.first<b.first:=by
    obtain ⟨h1,e1⟩:=List.getElem?_eq_some_iff.1 ha
    obtain ⟨h2,e2⟩:=List.getElem?_eq_some_iff.1 hb
    have:=(List.pairwise_iff_getElem.1 HR.out) j (j+1) h1 h2 (by omega)
    rw [e1,e2] at this
    exact this
   have HLT:Hid (a.first<b.first):=hlt
   have hjj:(j:Int)+1<l.length:=by omega
   have hj0:(j:Int)<l.length:=by omega
   have hjn:(0:Int)≤(j:Int)+1:=by omega
   have hwj:IntKind.i64.wrap ((j:Int)+1)=(j:Int)+1:=IntWalk.i64_in _ (by omega)
   have hwj0:IntKind.i64.wrap (j:Int)=(j:Int):=IntWalk.i64_in _ (by omega)
   have HT:Hid (∀(W:World) (m:Mt),(W.alloc (.cells #[int i64 0,int i64 0,int i64 0,int i64 0,int i64 0,int i64 0] 70)).there W.heap.size 0 (mtC m).toArray.size):=box_there
   have HB1:=(box_mt wr a).1
   have HK1:=(box_mt wr a).2
   have HB2:Hid (Bx ((wr.alloc (.cells #[int i64 0,int i64 0,int i64 0,int i64 0,int i64 0,int i64 0] 70)).setCells wr.heap.size 0 (mtC a)) wr.heap.size (mtC a)):=HB1
   have HK2:Hid (Nw wr ((wr.alloc (.cells #[int i64 0,int i64 0,int i64 0,int i64 0,int i64 0,int i64 0] 70)).setCells wr.heap.size 0 (mtC a))):=HK1
   clear HB1 HK1 hcr ha hb hne hgl hlt
   generalize hwx:(wr.alloc (.cells #[int i64 0,int i64 0,int i64 0,int i64 0,int i64 0,int i64 0] 70)).setCells wr.heap.size 0 (mtC a)=w2 at HB2 HK2
   have HWX:Hid ((wr.alloc (.cells #[int i64 0,int i64 0,int i64 0,int i64 0,int i64 0,int i64 0] 70)).setCells wr.heap.size 0 (mtC a)=w2):=hwx
   clear hwx
   have HB4:Hid (Bx ((w2.alloc (.cells #[int i64 0,int i64 0,int i64 0,int i64 0,int i64 0,int i64 0] 70)).setCells w2.heap.size 0 (mtC b)) w2.heap.size (mtC b)):=(box_mt w2 b).1
   have HK4:Hid (Nw w2 ((w2.alloc (.cells #[int i64 0,int i64 0,int i64 0,int i64 0,int i64 0,int i64 0] 70)).setCells w2.heap.size 0 (mtC b))):=(box_mt w2 b).2
   generalize hwy:(w2.alloc (.cells #[int i64 0,int i64 0,int i64 0,int i64 0,int i64 0,int i64 0] 70)).setCells w2.heap.size 0 (mtC b)=w4 at HB4 HK4
   have HWY:Hid ((w2.alloc (.cells #[int i64 0,int i64 0,int i64 0,int i64 0,int i64 0,int i64 0] 70)).setCells w2.heap.size 0 (mtC b)=w4):=hwy
   clear hwy
   go_wp2_with (first|(with_reducible (show Go.wpList _ _ _ ({ dst:=_,op:=Op.load 70 _,type:=_,pos:=_,after:=_,guard:=_ }::_) _ _);refine wpList_load_mid rfl 70 _ rfl g (j*6) rfl (mtC a) dd (HRA.out _ (Kp.refl _ _)) hu hd (size_mt a) ?_)|(with_reducible (show Go.wpList _ _ _ ({ dst:=_,op:=Op.load 70 _,type:=_,pos:=_,after:=_,guard:=_ }::_) _ _);refine wpList_load_mid rfl 70 _ rfl g ((j+1)*6) rfl (mtC b) dd (HRB.out _ HK2.out) hu hd (size_mt b) ?_)|(with_reducible (show Go.wpList _ _ _ ({ dst:=_,op:=Op.store 70 _ _,type:=_,pos:=_,after:=_,guard:=_ }::_) _ _);refine wpList_store_mid rfl 70 _ _ rfl wr.heap.size 0 (mtC a).toArray rfl rfl (HT.out wr a) (size_mtA a) (all_oneCell_toArray (mtC_one a)) ?_;rw [HWX.out])|(with_reducible (show Go.wpList _ _ _ ({ dst:=_,op:=Op.store 70 _ _,type:=_,pos:=_,after:=_,guard:=_ }::_) _ _);refine wpList_store_mid rfl 70 _ _ rfl w2.heap.size 0 (mtC b).toArray rfl rfl (HT.out w2 b) (size_mtA b) (all_oneCell_toArray (mtC_one b)) ?_;rw [HWY.out])|fail)
   have HA0:Hid (∀W,Nw w4 W→W.cell? ⟨wr.heap.size,0,none⟩=some (.int .i64 a.first)):=fun W k=>(HB2.out.kp (by simp [mtC]) (HK4.out.trans k) (fun h=>h)).cell (k:=0) rfl
   have HB0:Hid (∀W,Nw w4 W→W.cell? ⟨w2.heap.size,0,none⟩=some (.int .i64 b.first)):=fun W k=>(HB4.out.kp (by simp [mtC]) k (fun h=>h)).cell (k:=0) rfl
   have HN4:Hid (Nw w w4):=(HN.out.trans HK2.out).trans HK4.out
   have hnf:¬a.first=b.first:=by have:=HLT.out;omega
   have hng:¬b.first<a.first:=by have:=HLT.out;omega
   have hdf:decide (a.first=b.first)=false:=by simpa using hnf
   have hdg:decide (b.first<a.first)=false:=by simpa using hng
   clear HRA HRB HT HB2 HK2 HWX HB4 HK4 HWY
   have HWO:Hid (wr=wr):=rfl
   generalize wr=wo at *
   go_loopg [6] 0 (fun k v6 wk=>v6=.int .i64 0∧Nw w4 wk)
   case atStart=>exact ⟨rfl,Kp.refl _ _⟩
   case round =>
    obtain ⟨rfl,hN5⟩:=hrel
    have HN5:Hid (Nw w4 wr):=hN5
    clear hN5
    have HA1:Hid (∀W,Nw wr W→W.cell? ⟨wo.heap.size,0,none⟩=some (.int .i64 a.first)):=fun W k=>HA0.out W (HN5.out.trans k)
    have HB1:Hid (∀W,Nw wr W→W.cell? ⟨w2.heap.size,0,none⟩=some (.int .i64 b.first)):=fun W k=>HB0.out W (HN5.out.trans k)
    go_wp2
    refine wp_region_held_drew (S:=fun W=>Nw wr W) (by kernel_rfl) ((Kp.refl _ _).drew) (fun hHeld => ?_)
    refine tL (i:=0) (v := ?_) rfl (Or.inl ⟨by rfl,fun W hSW => ?y0⟩) hHeld ?_
    case y0=>(try dsimp only at hSW);go_simp;rw []
    simp only [Act.put,sA,sZ,sS]
    refine tL (i:=1) (v := ?_) rfl (Or.inl ⟨by rfl,fun W hSW => ?y1⟩) hHeld ?_
    case y1=>(try dsimp only at hSW);have hq:=HA1.out W hSW;go_simp;rw []
    simp only [Act.put,sA,sZ,sS]
    refine tL (i:=2) (v := ?_) rfl (Or.inl ⟨by rfl,fun W hSW => ?y2⟩) hHeld ?_
    case y2=>(try dsimp only at hSW);go_simp;rw []
    simp only [Act.put,sA,sZ,sS]
    refine tL (i:=3) (v := ?_) rfl (Or.inl ⟨by rfl,fun W hSW => ?y3⟩) hHeld ?_
    case y3=>(try dsimp only at hSW);have hq:=HB1.out W hSW;go_simp;rw []
    simp only [Act.put,sA,sZ,sS]
    refine tL (i:=4) (v:=.bool false) rfl (Or.inl ⟨by rfl,fun W hSW => ?y4⟩) hHeld ?_
    case y4=>(try dsimp only at hSW);go_simp;rw []
    simp only [Act.put,sA,sZ,sS]
    refine tL (i:=5) (v := ?_) rfl (Or.inl ⟨by rfl,fun W hSW => ?y5⟩) hHeld ?_
    case y5=>(try dsimp only at hSW);go_simp;rw []
    simp only [Act.put,sA,sZ,sS]
    refine tL (i:=6) (v:=undef) rfl (Or.inr ⟨by rfl,rfl⟩) hHeld ?_
    simp only [Act.put,sA,sZ,sS]
    refine tL (i:=7) (v:=undef) rfl (Or.inr ⟨by rfl,rfl⟩) hHeld ?_
    simp only [Act.put,sA,sZ,sS]
    refine tL (i:=8) (v := ?_) rfl (Or.inl ⟨by rfl,fun W hSW => ?y8⟩) hHeld ?_
    case y8=>(try dsimp only at hSW);go_simp;rw []
    simp only [Act.put,sA,sZ,sS]
    refine tL (i:=9) (v := ?_) rfl (Or.inl ⟨by rfl,fun W hSW => ?y9⟩) hHeld ?_
    case y9=>(try dsimp only at hSW);go_simp;rw []
    simp only [Act.put,sA,sZ,sS]
    refine tL (i:=10) (v:=undef) rfl (Or.inr ⟨by rfl,rfl⟩) hHeld ?_
    simp only [Act.put,sA,sZ,sS]
    refine tL (i:=11) (v:=undef) rfl (Or.inr ⟨by rfl,rfl⟩) hHeld ?_
    simp only [Act.put,sA,sZ,sS]
    refine tL (i:=12) (v:=undef) rfl (Or.inr ⟨by rfl,rfl⟩) hHeld ?_
    simp only [Act.put,sA,sZ,sS]
    refine tL (i:=13) (v:=undef) rfl (Or.inr ⟨by rfl,rfl⟩) hHeld ?_
    simp only [Act.put,sA,sZ,sS]
    refine tL (i:=14) (v:=undef) rfl (Or.inr ⟨by rfl,rfl⟩) hHeld ?_
    simp only [Act.put,sA,sZ,sS]
    refine tL (i:=15) (v:=undef) rfl (Or.inr ⟨by rfl,rfl⟩) hHeld ?_
    simp only [Act.put,sA,sZ,sS]
    refine tL (i:=16) (v:=undef) rfl (Or.inr ⟨by rfl,rfl⟩) hHeld ?_
    simp only [Act.put,sA,sZ,sS]
    refine tL (i:=17) (v:=undef) rfl (Or.inr ⟨by rfl,rfl⟩) hHeld ?_
    simp only [Act.put,sA,sZ,sS]
    refine tL (i:=18) (v:=undef) rfl (Or.inr ⟨by rfl,rfl⟩) hHeld ?_
    simp only [Act.put,sA,sZ,sS]
    refine tL (i:=19) (v := ?_) rfl (Or.inl ⟨by rfl,fun W hSW => ?y19⟩) hHeld ?_
    case y19=>(try dsimp only at hSW);go_simp;rw []
    simp only [Act.put,sA,sZ,sS]
    refine wpAnyH_done (by kernel_rfl) ?_ _
    have HN6:Hid (Nw wr wr.drew):=(Kp.refl _ _).drew
    have HA2:Hid (∀W,Nw wr.drew W→W.cell? ⟨wo.heap.size,0,none⟩=some (.int .i64 a.first)):=fun W k=>HA1.out W (HN6.out.trans k)
    have HB2:Hid (∀W,Nw wr.drew W→W.cell? ⟨w2.heap.size,0,none⟩=some (.int .i64 b.first)):=fun W k=>HB1.out W (HN6.out.trans k)
    have HN7:Hid (Nw w wr.drew):=(HN4.out.trans HN5.out).trans HN6.out
    clear HA1 HB1 HN6 HN5
    generalize wr.drew=w6 at *
    go_wp2
    refine wp_region_held_drew (S:=fun W=>Nw w6 W) (by kernel_rfl) ((Kp.refl _ _).drew) (fun hHeld => ?_)
    refine tL (i:=0) (v := ?_) rfl (Or.inl ⟨by rfl,fun W hSW => ?y0⟩) hHeld ?_
    case y0=>(try dsimp only at hSW);go_simp;rw []
    simp only [Act.put,sA,sZ,sS]
    refine tL (i:=1) (v := ?_) rfl (Or.inl ⟨by rfl,fun W hSW => ?y1⟩) hHeld ?_
    case y1=>(try dsimp only at hSW);have hq:=HA2.out W hSW;go_simp;rw []
    simp only [Act.put,sA,sZ,sS]
    refine tL (i:=2) (v := ?_) rfl (Or.inl ⟨by rfl,fun W hSW => ?y2⟩) hHeld ?_
    case y2=>(try dsimp only at hSW);go_simp;rw []
    simp only [Act.put,sA,sZ,sS]
    refine tL (i:=3) (v := ?_) rfl (Or.inl ⟨by rfl,fun W hSW => ?y3⟩) hHeld ?_
    case y3=>(try dsimp only at hSW);have hq:=HB2.out W hSW;go_simp;rw []
    simp only [Act.put,sA,sZ,sS]
    refine tL (i:=4) (v:=.bool false) rfl (Or.inl ⟨by rfl,fun W hSW => ?y4⟩) hHeld ?_
    case y4=>(try dsimp only at hSW);go_simp;rw []
    simp only [Act.put,sA,sZ,sS]
    refine tL (i:=5) (v := ?_) rfl (Or.inl ⟨by rfl,fun W hSW => ?y5⟩) hHeld ?_
    case y5=>(try dsimp only at hSW);go_simp;rw []
    simp only [Act.put,sA,sZ,sS]
    refine tL (i:=6) (v := ?_) rfl (Or.inl ⟨by rfl,fun W hSW => ?y6⟩) hHeld ?_
    case y6=>(try dsimp only at hSW);go_simp;rw []
    simp only [Act.put,sA,sZ,sS]
    refine tL (i:=7) (v := ?_) rfl (Or.inl ⟨by rfl,fun W hSW => ?y7⟩) hHeld ?_
    case y7=>(try dsimp only at hSW);have hq:=HA2.out W hSW;go_simp;rw []
    simp only [Act.put,sA,sZ,sS]
    refine tL (i:=8) (v := ?_) rfl (Or.inl ⟨by rfl,fun W hSW => ?y8⟩) hHeld ?_
    case y8=>(try dsimp only at hSW);go_simp;rw []
    simp only [Act.put,sA,sZ,sS]
    refine tL (i:=9) (v := ?_) rfl (Or.inl ⟨by rfl,fun W hSW => ?y9⟩) hHeld ?_
    case y9=>(try dsimp only at hSW);have hq:=HB2.out W hSW;go_simp;rw []
    simp only [Act.put,sA,sZ,sS]
    refine tL (i:=10) (v:=.bool false) rfl (Or.inl ⟨by rfl,fun W hSW => ?y10⟩) hHeld ?_
    case y10=>(try dsimp only at hSW);go_simp;rw []
    simp only [Act.put,sA,sZ,sS]
    refine tL (i:=11) (v := ?_) rfl (Or.inl ⟨by rfl,fun W hSW => ?y11⟩) hHeld ?_
    case y11=>(try dsimp only at hSW);go_simp;rw []
    simp only [Act.put,sA,sZ,sS]
    refine tL (i:=12) (v:=undef) rfl (Or.inr ⟨by rfl,rfl⟩) hHeld ?_
    simp only [Act.put,sA,sZ,sS]
    refine tL (i:=13) (v:=undef) rfl (Or.inr ⟨by rfl,rfl⟩) hHeld ?_
    simp only [Act.put,sA,sZ,sS]
    refine tL (i:=14) (v:=undef) rfl (Or.inr ⟨by rfl,rfl⟩) hHeld ?_
    simp only [Act.put,sA,sZ,sS]
    refine tL (i:=15) (v:=undef) rfl (Or.inr ⟨by rfl,rfl⟩) hHeld ?_
    simp only [Act.put,sA,sZ,sS]
    refine tL (i:=16) (v:=undef) rfl (Or.inr ⟨by rfl,rfl⟩) hHeld ?_
    simp only [Act.put,sA,sZ,sS]
    refine tL (i:=17) (v:=undef) rfl (Or.inr ⟨by rfl,rfl⟩) hHeld ?_
    simp only [Act.put,sA,sZ,sS]
    refine tL (i:=18) (v:=undef) rfl (Or.inr ⟨by rfl,rfl⟩) hHeld ?_
    simp only [Act.put,sA,sZ,sS]
    refine tL (i:=19) (v:=undef) rfl (Or.inr ⟨by rfl,rfl⟩) hHeld ?_
    simp only [Act.put,sA,sZ,sS]
    refine tL (i:=20) (v:=undef) rfl (Or.inr ⟨by rfl,rfl⟩) hHeld ?_
    simp only [Act.put,sA,sZ,sS]
    refine tL (i:=21) (v := ?_) rfl (Or.inl ⟨by rfl,fun W hSW => ?y21⟩) hHeld ?_
    case y21=>(try dsimp only at hSW);go_simp;rw []
    simp only [Act.put,sA,sZ,sS]
    refine tL (i:=22) (v := ?_) rfl (Or.inl ⟨by rfl,fun W hSW => ?y22⟩) hHeld ?_
    case y22=>(try dsimp only at hSW);go_simp;rw []
    simp only [Act.put,sA,sZ,sS]
    refine wpAnyH_done (by kernel_rfl) ?_ _
    have HN8:Hid (Nw w w6.drew):=HN7.out.drew
    go_wp2
    go_roundg (l.length - (j+1))
    case measure=>rw [HMM.out];omega
    case rel=>exact ⟨j+1,by simp,rfl,by omega,HN8.out⟩
  ·have hjj:¬(j:Int)+1<l.length:=by omega
   go_wp2
   go_ret
   exact ⟨rfl,HN.out⟩
theorem joinsM_any (pa pb pc:Option Addr) (ca cb cc:Nat) (A B C:List Mt) (w:World) (ha:MtsP w pa A) (hb:MtsP w pb B) (hc:MtsP w pc C) (la:A.length≤1000) (lb:B.length≤1000) (lc:C.length≤1000) (oa:∀m∈A,MtOk m) (ob:∀m∈B,MtOk m) (oc:∀m∈C,MtOk m) (hj:JoinK A B C) :
  Calls Tryz.prog 32 #[.slice pa A.length ca,.slice pb B.length cb,.slice pc C.length cc] w fun e w'=>e=.returned (.bool true)∧Nw w w':=by
 have HA:Hid (MtsP w pa A):=ha
 have HB:Hid (MtsP w pb B):=hb
 have HC:Hid (MtsP w pc C):=hc
 have HRI:Hid (Calls Tryz.prog 60 #[.slice pa A.length ca] w fun e w'=>e=.returned (.bool true)∧Nw w w'):=risesM_any pa ca A w ha (by omega) oa hj.r
 have HHA:Hid (∀(x:Mt) (bb:Bool) (W:World),Nw w W→MtOk x→bb=decide (x∈A)→Calls Tryz.prog 61 #[.slice pa A.length ca,.agg (mtC x).toArray] W fun e w'=>e=.returned (.bool bb)∧Nw W w'):=fun x bb W k ho hbb=>hasM_any pa ca A x W (ha.nw k) (by omega) oa ho bb hbb
 have HHB:Hid (∀(x:Mt) (bb:Bool) (W:World),Nw w W→MtOk x→bb=decide (x∈B)→Calls Tryz.prog 61 #[.slice pb B.length cb,.agg (mtC x).toArray] W fun e w'=>e=.returned (.bool bb)∧Nw W w'):=fun x bb W k ho hbb=>hasM_any pb cb B x W (hb.nw k) (by omega) ob ho bb hbb
 have HHC:Hid (∀(x:Mt) (bb:Bool) (W:World),Nw w W→MtOk x→bb=decide (x∈C)→Calls Tryz.prog 61 #[.slice pc C.length cc,.agg (mtC x).toArray] W fun e w'=>e=.returned (.bool bb)∧Nw W w'):=fun x bb W k ho hbb=>hasM_any pc cc C x W (hc.nw k) (by omega) oc ho bb hbb
 have OA:Hid (∀m∈A,MtOk m):=oa
 have OB:Hid (∀m∈B,MtOk m):=ob
 have OC:Hid (∀m∈C,MtOk m):=oc
 have HJ:Hid (JoinK A B C):=hj
 obtain ⟨dd,hu,hd⟩:=Option.map_eq_some_iff.1 Tryz.rowMt'
 clear ha hb hc oa ob oc hj
 go_enter Tryz.func32,Tryz.ntmps32
 go_wp2_with fail
 refine HRI.out.mono ?_
 rintro e1 w1 ⟨rfl,k1⟩
 have K1:Hid (Nw w w1):=k1
 clear k1 HRI
 go_wp2
 go_loopg [8] A.length (fun m v8 wr=>∃i:Nat,v8=.int .i64 i∧m=A.length - i∧i≤A.length∧Nw w wr)
 case atStart=>exact ⟨0,rfl,rfl,by omega,K1.out⟩
 case round =>
  obtain ⟨i,rfl,hmm,hil,hN⟩:=hrel
  have HMM:Hid (_=A.length - i):=hmm
  have HN:Hid (Nw w wr):=hN
  clear hmm hN
  by_cases hi:i<A.length
  ·obtain ⟨x,hx⟩:∃x,A[i]? = some x:=⟨A[i],by simp [hi]⟩
   have hne:¬A=[]:=by intro e;rw [e] at hx;simp at hx
   obtain ⟨g,rfl,hgl,hcr⟩:=HA.out hne
   have HR:Hid (∀W,Nw wr W→W.rangeAt g (i*6) (mtC x)):=fun W k j v hv=>((HN.out.trans k).cell (p:=⟨g,i*6+j,none⟩) hgl (fun h=>h)).trans (hcr i x hx j v hv)
   have HXO:Hid (MtOk x):=OA.out x (List.mem_of_getElem? hx)
   have HXJ:Hid (x∈B∨x∈C):=HJ.out.a x (List.mem_of_getElem? hx)
   have hii:(i:Int)<A.length:=by omega
   clear hcr hx hne hgl
   by_cases hxb:x∈B
   ·go_wp2_with (first|(with_reducible (show Go.wpList _ _ _ ({ dst:=_,op:=Op.load 70 _,type:=_,pos:=_,after:=_,guard:=_ }::_) _ _);refine wpList_load_mid rfl 70 _ rfl g (i*6) rfl (mtC x) dd (HR.out _ (Kp.refl _ _)) hu hd (size_mt x) ?_)|fail)
    refine (HHB.out x true _ HN.out HXO.out (by simp [hxb])).mono ?_
    rintro e2 w2 ⟨rfl,k2⟩
    have K2:Hid (Nw wr w2):=k2
    clear k2 hxb
    go_wp2_with (first|(with_reducible (show Go.wpList _ _ _ ({ dst:=_,op:=Op.load 70 _,type:=_,pos:=_,after:=_,guard:=_ }::_) _ _);refine wpList_load_mid rfl 70 _ rfl g (i*6) rfl (mtC x) dd (HR.out _ K2.out) hu hd (size_mt x) ?_)|fail)
    refine (HHC.out x (decide (x∈C)) _ (HN.out.trans K2.out) HXO.out rfl).mono ?_
    rintro e3 w3 ⟨rfl,k3⟩
    have K3:Hid (Nw w w3):=(HN.out.trans K2.out).trans k3
    clear k3 HXJ
    generalize decide (x∈C)=bz
    go_wp2
    go_roundg (A.length - (i+1))
    case measure=>rw [HMM.out];omega
    case rel=>exact ⟨i+1,by simp,rfl,by omega,K3.out⟩
   ·have HXC:Hid (x∈C):=by rcases HXJ.out with h|h;exact absurd h hxb;exact h
    go_wp2_with (first|(with_reducible (show Go.wpList _ _ _ ({ dst:=_,op:=Op.load 70 _,type:=_,pos:=_,after:=_,guard:=_ }::_) _ _);refine wpList_load_mid rfl 70 _ rfl g (i*6) rfl (mtC x) dd (HR.out _ (Kp.refl _ _)) hu hd (size_mt x) ?_)|fail)
    refine (HHB.out x false _ HN.out HXO.out (by simp [hxb])).mono ?_
    rintro e2 w2 ⟨rfl,k2⟩
    have K2:Hid (Nw wr w2):=k2
    clear k2 hxb HXJ
    go_wp2_with (first|(with_reducible (show Go.wpList _ _ _ ({ dst:=_,op:=Op.load 70 _,type:=_,pos:=_,after:=_,guard:=_ }::_) _ _);refine wpList_load_mid rfl 70 _ rfl g (i*6) rfl (mtC x) dd (HR.out _ K2.out) hu hd (size_mt x) ?_)|fail)
    refine (HHC.out x true _ (HN.out.trans K2.out) HXO.out (by have:=HXC.out;simp [this])).mono ?_
    rintro e3 w3 ⟨rfl,k3⟩
    have K3:Hid (Nw w w3):=(HN.out.trans K2.out).trans k3
    clear k3 HXC
    go_wp2
    go_roundg (A.length - (i+1))
    case measure=>rw [HMM.out];omega
    case rel=>exact ⟨i+1,by simp,rfl,by omega,K3.out⟩
  ·have hii:¬(i:Int)<A.length:=by omega
   generalize wr=wp at *
   go_wp2
   clear hi hii hil HMM
   go_loopg [11] B.length (fun m v11 wr=>∃i:Nat,v11=.int .i64 i∧m=B.length - i∧i≤B.length∧Nw w wr)
   case atStart=>exact ⟨0,rfl,rfl,by omega,HN.out⟩
   case round =>
    clear HN
    obtain ⟨i,rfl,hmm,hil,hN⟩:=hrel
    have HMM:Hid (_=B.length - i):=hmm
    have HN:Hid (Nw w wr):=hN
    clear hmm hN
    by_cases hi:i<B.length
    ·obtain ⟨x,hx⟩:∃x,B[i]? = some x:=⟨B[i],by simp [hi]⟩
     have hne:¬B=[]:=by intro e;rw [e] at hx;simp at hx
     obtain ⟨g,rfl,hgl,hcr⟩:=HB.out hne
     have HR:Hid (∀W,Nw wr W→W.rangeAt g (i*6) (mtC x)):=fun W k j v hv=>((HN.out.trans k).cell (p:=⟨g,i*6+j,none⟩) hgl (fun h=>h)).trans (hcr i x hx j v hv)
     have HXO:Hid (MtOk x):=OB.out x (List.mem_of_getElem? hx)
     have HXJ:Hid (x∈A):=HJ.out.b x (List.mem_of_getElem? hx)
     have hii:(i:Int)<B.length:=by omega
     clear hcr hx hne hgl
     go_wp2_with (first|(with_reducible (show Go.wpList _ _ _ ({ dst:=_,op:=Op.load 70 _,type:=_,pos:=_,after:=_,guard:=_ }::_) _ _);refine wpList_load_mid rfl 70 _ rfl g (i*6) rfl (mtC x) dd (HR.out _ (Kp.refl _ _)) hu hd (size_mt x) ?_)|fail)
     refine (HHA.out x true _ HN.out HXO.out (by have:=HXJ.out;simp [this])).mono ?_
     rintro e2 w2 ⟨rfl,k2⟩
     have K3:Hid (Nw w w2):=HN.out.trans k2
     clear k2
     go_wp2
     go_roundg (B.length - (i+1))
     case measure=>rw [HMM.out];omega
     case rel=>exact ⟨i+1,by simp,rfl,by omega,K3.out⟩
    ·have hii:¬(i:Int)<B.length:=by omega
     generalize wr=ws at *
     go_wp2
     clear hi hii hil HMM
     go_loopg [13] C.length (fun m v13 wr=>∃i:Nat,v13=.int .i64 i∧m=C.length - i∧i≤C.length∧Nw w wr)
     case atStart=>exact ⟨0,rfl,rfl,by omega,HN.out⟩
     case round =>
      clear HN
      obtain ⟨i,rfl,hmm,hil,hN⟩:=hrel
      have HMM:Hid (_=C.length - i):=hmm
      have HN:Hid (Nw w wr):=hN
      clear hmm hN
      by_cases hi:i<C.length
      ·obtain ⟨x,hx⟩:∃x,C[i]? = some x:=⟨C[i],by simp [hi]⟩
       have hne:¬C=[]:=by intro e;rw [e] at hx;simp at hx
       obtain ⟨g,rfl,hgl,hcr⟩:=HC.out hne
       have HR:Hid (∀W,Nw wr W→W.rangeAt g (i*6) (mtC x)):=fun W k j v hv=>((HN.out.trans k).cell (p:=⟨g,i*6+j,none⟩) hgl (fun h=>h)).trans (hcr i x hx j v hv)
       have HXO:Hid (MtOk x):=OC.out x (List.mem_of_getElem? hx)
       have HXJ:Hid (x∈A):=HJ.out.c x (List.mem_of_getElem? hx)
       have hii:(i:Int)<C.length:=by omega
       clear hcr hx hne hgl
       go_wp2_with (first|(with_reducible (show Go.wpList _ _ _ ({ dst:=_,op:=Op.load 70 _,type:=_,pos:=_,after:=_,guard:=_ }::_) _ _);refine wpList_load_mid rfl 70 _ rfl g (i*6) rfl (mtC x) dd (HR.out _ (Kp.refl _ _)) hu hd (size_mt x) ?_)|fail)
       refine (HHA.out x true _ HN.out HXO.out (by have:=HXJ.out;simp [this])).mono ?_
       rintro e2 w2 ⟨rfl,k2⟩
       have K3:Hid (Nw w w2):=HN.out.trans k2
       clear k2
       go_wp2
       go_roundg (C.length - (i+1))
       case measure=>rw [HMM.out];omega
       case rel=>exact ⟨i+1,by simp,rfl,by omega,K3.out⟩
      ·have hii:¬(i:Int)<C.length:=by omega
       generalize wr=wt at *
       go_wp2
       clear hi hii hil HMM
       go_ret
       exact ⟨rfl,HN.out⟩
theorem dot_run {sc:List Int}:∀(L:List Evt) (n:Nat) (last:Int),GoesE sc last L→(∀i e,L[i]? = some e→(feedS sc ncode10 [1] 200 200 (runS sc ncode10 [1] 200 200 ⟨[],n,last,false⟩ (L.take i)) e).2.2=0)∧(∀i,i<L.length→(outS sc ncode10 [1] 200 200 ⟨[],n,last,false⟩ L)[i]? = some [⟨(n+i:Nat),(n+i:Nat),-1,-1,-1,-1⟩]):=by
 intro L
 induction L with
 | nil=>intro n last _;exact ⟨fun i e h=>by simp at h,fun i h=>by simp at h⟩
 | cons x L ih =>
  intro n last h
  obtain ⟨_,hg,ht,hr⟩:=h
  have hf:=dot_feed (sc:=sc) (n:=n) hg ht
  obtain ⟨i1,i2⟩:=ih (n+1) x.at' hr
  refine ⟨?_,?_⟩
  ·intro i e hi
   match i,hi with
   | 0,hi =>
    simp only [List.getElem?_cons_zero,Option.some.injEq] at hi
    subst hi
    show (feedS sc ncode10 [1] 200 200 ⟨[],n,last,false⟩ x).2.2=0
    rw [hf]
   | i+1,hi =>
    rw [List.take_succ_cons,runS_cons,hf]
    exact i1 i e (by simpa using hi)
  ·intro i hi
   unfold outS
   rw [hf]
   match i,hi with
   | 0,_=>rfl
   | i+1,hi =>
    rw [List.getElem?_cons_succ,i2 i (by simpa using hi),show n+1+i=n+(i+1) by omega]
theorem dot_pat {L:List Evt} (h:GoesE (bI ⟨#[49,49,49]⟩) 0 L):PatK ⟨#[46]⟩ ncode10 L:=by
 refine ⟨nprog10,by decide,?_⟩
 rw [dot_begins]
 exact (dot_run L 0 0 h).1
theorem awake_any (p:Option Addr) (ec:Nat) (L:List Evt) (w:World) (he:EvsP w p L) (hge:∀g,p=some ⟨g,0,none⟩→g<w.heap.size) (hL:L.length≤1000) (hev:∀e∈L,EvOk e) (hgo:GoesE (bI ⟨#[49,49,49]⟩) 0 L) :
  Calls Tryz.prog 31 #[.slice p L.length ec] w fun e w'=>e=.returned (.bool true)∧Nw w w':=by
 have HFO:Hid (Calls Tryz.prog 30 #[.string ⟨#[46]⟩,.slice p L.length ec] w fun e w'=>∃v hs,e=.returned (.tuple #[v,.bool true])∧Mds w' w.heap.size v hs∧hs.map (·.2)=outS (bI ⟨#[49,49,49]⟩) ncode10 (beginsS ncode10) 200 200 ⟨[],0,0,false⟩ L∧Nw w w'):=found_any _ _ p ec L w (dot_pat hgo) he hge hL hev
 have HDO:Hid (∀i,i<L.length→(outS (bI ⟨#[49,49,49]⟩) ncode10 (beginsS ncode10) 200 200 ⟨[],0,0,false⟩ L)[i]? = some [⟨(i:Nat),(i:Nat),-1,-1,-1,-1⟩]):=by
  intro i hi
  rw [dot_begins,(dot_run L 0 0 hgo).2 i hi,Nat.zero_add]
 have HLO:Hid ((outS (bI ⟨#[49,49,49]⟩) ncode10 (beginsS ncode10) 200 200 ⟨[],0,0,false⟩ L).length=L.length):=outS_len _ _ _ _ _ _ _
 clear he hge hev hgo
 generalize outS (bI ⟨#[49,49,49]⟩) ncode10 (beginsS ncode10) 200 200 ⟨[],0,0,false⟩ L=O at HFO HDO HLO
 obtain ⟨dd,hu,hd⟩:=Option.map_eq_some_iff.1 Tryz.rowMt'
 go_enter Tryz.func31,Tryz.ntmps31
 go_wp2_with fail
 refine HFO.out.mono ?_
 rintro e1 w1 ⟨v,hs,rfl,hm,ho,k1⟩
 obtain ⟨vp,vc,rfl⟩:=ownsLenX hm.row
 have hlen:hs.length=L.length:=by rw [←HLO.out,←ho];simp
 have HM:Hid (Mds w1 w.heap.size (.slice vp L.length vc) hs):=by rw [hlen] at hm;exact hm
 have HO:Hid (hs.map (·.2)=O):=ho
 have HLN:Hid (hs.length=L.length):=hlen
 have K1:Hid (Nw w w1):=k1
 rw [hlen]
 clear hm ho k1 HFO hlen
 go_wp2
 go_loopg [5] L.length (fun m v5 wr=>∃i:Nat,v5=.int .i64 i∧m=L.length - i∧i≤L.length∧Nw w1 wr)
 case atStart=>exact ⟨0,rfl,rfl,by omega,Kp.refl _ _⟩
 case round =>
  obtain ⟨i,rfl,hmm,hil,hN⟩:=hrel
  have HMM:Hid (_=L.length - i):=hmm
  have HN:Hid (Nw w1 wr):=hN
  clear hmm
  by_cases hi:i<L.length
  ·obtain ⟨x,hx⟩:∃x,hs[i]? = some x:=⟨hs[i]'(by rw [HLN.out];exact hi),by simp [HLN.out,hi]⟩
   obtain ⟨mv,ml⟩:=x
   have hml:ml=[⟨i,i,-1,-1,-1,-1⟩]:=by
    have h1:(hs.map (·.2))[i]? = some ml:=by simp [hx]
    rw [HO.out,HDO.out i hi] at h1
    simpa using h1.symm
   subst hml
   have hme:=HM.out.each _ (List.mem_of_getElem? hx)
   obtain ⟨gm,cm,e2⟩:=owns_some hme (by simp)
   simp only at e2
   subst e2
   have HCA:Hid (∀W,Nw wr W→∀ga,vp=some ⟨ga,0,none⟩→W.cell? ⟨ga,i,none⟩=some (.slice (some ⟨gm,0,none⟩) 1 cm)):=by
    intro W kW ga ega
    subst ega
    have hr:=owns_kp HM.out.row (HN.out.trans kW) (fun _ _ h=>h)
    rw [HLN.out] at hr
    exact owns_cell hr i (by simp [hx])
   have HRA:Hid (∀W,Nw wr W→W.rangeAt gm 0 (mtC ⟨i,i,-1,-1,-1,-1⟩)):=by
    intro W kW j v hv
    rw [Nat.zero_add]
    exact owns_cell (owns_kp hme (HN.out.trans kW) (fun _ _ h=>h)) j hv
   have hmo:MtOk ⟨i,i,-1,-1,-1,-1⟩:=by constructor <;> (unfold In64;constructor <;> (simp only [];omega))
   have HMO:Hid (MtOk ⟨i,i,-1,-1,-1,-1⟩):=hmo
   have hrow:=HM.out.row
   rw [HLN.out] at hrow
   obtain ⟨ga,ca,e3⟩:=owns_some hrow (by omega)
   simp only [Value.slice.injEq,true_and] at e3
   obtain ⟨rfl,rfl⟩:=e3
   have HCA2:Hid (∀W,Nw wr W→W.cell? ⟨ga,i,none⟩=some (.slice (some ⟨gm,0,none⟩) 1 cm)):=fun W kW=>HCA.out W kW ga rfl
   clear HCA
   have HCA:=HCA2
   clear HCA2 hme hrow hx hmo hN
   have hii:(i:Int)<L.length:=by omega
   have hz:0≤(i:Int):=by omega
   go_wp2
   refine wp_region_held_drew (S:=fun W=>Nw wr W) (by kernel_rfl) ((Kp.refl _ _).drew) (fun hHeld => ?_)
   refine tL (i:=0) (v := ?_) rfl (Or.inl ⟨by rfl,fun W hSW => ?y0⟩) hHeld ?_
   case y0=>(try dsimp only at hSW);go_simp;rw []
   simp only [Act.put,sA,sZ,sS]
   refine tL (i:=1) (v := ?_) rfl (Or.inl ⟨by rfl,fun W hSW => ?y1⟩) hHeld ?_
   case y1=>(try dsimp only at hSW);go_simp;rw []
   simp only [Act.put,sA,sZ,sS]
   refine tL (i:=2) (v := ?_) rfl (Or.inl ⟨by rfl,fun W hSW => ?y2⟩) hHeld ?_
   case y2=>(try dsimp only at hSW);go_simp;rw []
   simp only [Act.put,sA,sZ,sS]
   refine tL (i:=3) (v := ?_) rfl (Or.inl ⟨by rfl,fun W hSW => ?y3⟩) hHeld ?_
   case y3=>(try dsimp only at hSW);have hq:=HCA.out W hSW;go_simp;rw []
   simp only [Act.put,sA,sZ,sS]
   refine tL (i:=4) (v := ?_) rfl (Or.inl ⟨by rfl,fun W hSW => ?y4⟩) hHeld ?_
   case y4=>(try dsimp only at hSW);go_simp;rw []
   simp only [Act.put,sA,sZ,sS]
   refine tL (i:=5) (v := ?_) rfl (Or.inl ⟨by rfl,fun W hSW => ?y5⟩) hHeld ?_
   case y5=>(try dsimp only at hSW);go_simp;rw []
   simp only [Act.put,sA,sZ,sS]
   refine tL (i:=6) (v := ?_) rfl (Or.inl ⟨by rfl,fun W hSW => ?y6⟩) hHeld ?_
   case y6=>(try dsimp only at hSW);go_simp;rw []
   simp only [Act.put,sA,sZ,sS]
   refine tL (i:=7) (v := ?_) rfl (Or.inl ⟨by rfl,fun W hSW => ?y7⟩) hHeld ?_
   case y7=>(try dsimp only at hSW);go_simp;rw []
   simp only [Act.put,sA,sZ,sS]
   refine tL (i:=8) (v := ?_) rfl (Or.inl ⟨by rfl,fun W hSW => ?y8⟩) hHeld ?_
   case y8=>(try dsimp only at hSW);go_simp;rw []
   simp only [Act.put,sA,sZ,sS]
   refine tL (i:=9) (v := ?_) rfl (Or.inl ⟨by rfl,fun W hSW => ?y9⟩) hHeld ?_
   case y9=>(try dsimp only at hSW);go_simp;rw []
   simp only [Act.put,sA,sZ,sS]
   refine tL (i:=10) (v := ?_) rfl (Or.inl ⟨by rfl,fun W hSW => ?y10⟩) hHeld ?_
   case y10=>(try dsimp only at hSW);have hq:=HCA.out W hSW;go_simp;rw []
   simp only [Act.put,sA,sZ,sS]
   refine tL (i:=11) (v := ?_) rfl (Or.inl ⟨by rfl,fun W hSW => ?y11⟩) hHeld ?_
   case y11=>(try dsimp only at hSW);go_simp;rw []
   simp only [Act.put,sA,sZ,sS]
   refine tL (i:=12) (v:=_) rfl (yieldsIf_load_mid (by rfl) 70 _ rfl gm (0) rfl (mtC ⟨i,i,-1,-1,-1,-1⟩) dd HRA.out hu hd (size_mt _)) hHeld ?_
   simp only [Act.put,sA,sZ,sS]
   refine tL (i:=13) (v := ?_) rfl (Or.inl ⟨by rfl,fun W hSW => ?y13⟩) hHeld ?_
   case y13=>(try dsimp only at hSW);go_simp;rw []
   simp only [Act.put,sA,sZ,sS]
   refine tL (i:=14) (v := ?_) rfl (Or.inl ⟨by rfl,fun W hSW => ?y14⟩) hHeld ?_
   case y14=>(try dsimp only at hSW);go_simp;rw []
   simp only [Act.put,sA,sZ,sS]
   refine wpAnyH_ready (rs:=[15]) (by kernel_rfl) (by simp) ?_
   refine consL rfl (fun K hK => ?_) AllReadyH.nil
   go_simp
   refine (none_any _).mono ?_
   rintro e5 w5 ⟨rfl,k5⟩
   have k8:Nw wr w5:=((Kp.refl _ _).drew).trans k5
   try dsimp only
   refine hK.out _ _ k8 (fun _ => ?_)
   clear hK K
   try simp only [Act.put,sA,sZ,sS]
   refine tL (i:=16) (v := ?_) rfl (Or.inl ⟨by rfl,fun W hSW => ?y16⟩) k8 ?_
   case y16=>(try dsimp only at hSW);go_simp;rw []
   simp only [Act.put,sA,sZ,sS]
   refine tL (i:=17) (v:=.bool false) rfl (Or.inl ⟨by rfl,fun W hSW=>exec_neqS (u:=⟨i,i,-1,-1,-1,-1⟩) rfl rfl rfl HMO.out W⟩) k8 ?_
   simp only [Act.put,sA,sZ,sS]
   refine tL (i:=18) (v := ?_) rfl (Or.inl ⟨by rfl,fun W hSW => ?y18⟩) k8 ?_
   case y18=>(try dsimp only at hSW);go_simp;rw []
   simp only [Act.put,sA,sZ,sS]
   refine wpAnyH_done (by kernel_rfl) ?_ _
   have K5:Hid (Nw w1 w5):=HN.out.trans k8
   clear k5 k8 HCA HRA
   go_wp2
   go_roundg (L.length - (i+1))
   case measure=>rw [HMM.out];omega
   case rel=>exact ⟨i+1,by simp,rfl,by omega,K5.out⟩
  ·have hii:¬(i:Int)<L.length:=by omega
   go_wp2
   go_ret
   exact ⟨by simp,K1.out.trans HN.out⟩
end Go.Proofs.YtcboiapggnmpfaaGreat
