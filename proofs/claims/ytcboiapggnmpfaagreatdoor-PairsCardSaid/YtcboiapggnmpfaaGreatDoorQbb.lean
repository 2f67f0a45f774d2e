import Derived.Test.YtcboiapggnmpfaaGreatDoorQba
import Derived.Test.YtcboiapggnmpfaaGreatDoorQaw
namespace Go.Proofs.YtcboiapggnmpfaaGreatDoor
set_option maxRecDepth 100000
set_option maxHeartbeats 16000000
set_option linter.unusedSimpArgs false
set_option linter.unusedVariables false
open Go.RowKit
structure HoldA (A:Array Value) (hp:Nat→Int):Prop where
 size:A.size=26
 get:∀j,j<26→A[j]? = some (.int .i64 (hp j))
def plTm (hp:Nat→Int) (t:Tm):Tm:=⟨if 0≤t.of - 2∧t.of - 2<26 then 2+hp (t.of - 2).toNat else t.of,t.field,t.num⟩
def tmVD (t:Tm):Value:=.agg #[.int .i64 t.of,.int .i64 t.field,.int .i64 t.num]
theorem Tryz.rowTm:(Tryz.prog.underlying 116).map TypeDesc.isRow=some true:=by kernel_rfl
theorem Tryz.sizeTm:(Tryz.prog.info? 116).map (·.size)=some 3:=by kernel_rfl
theorem load_tm {w:World} {B:Nat} {t:Tm} (h0:w.cell? ⟨B,0,none⟩=some (.int .i64 t.of)) (h1:w.cell? ⟨B,1,none⟩=some (.int .i64 t.field)) (h2:w.cell? ⟨B,2,none⟩=some (.int .i64 t.num)):(loadVar 116 ⟨B,0,none⟩).run Tryz.prog w=.ok (tmVD t) w:=by
 obtain ⟨dd,hu,hd⟩:=Option.map_eq_some_iff.1 Tryz.rowTm
 refine run_loadVar_mid w B 0 116 [.int .i64 t.of,.int .i64 t.field,.int .i64 t.num] dd ?_ hu hd Tryz.sizeTm
 intro k v hv
 rw [Nat.zero_add]
 match k,hv with
 | 0,hv=>simp at hv;rw [h0,hv]
 | 1,hv=>simp at hv;rw [h1,hv]
 | 2,hv=>simp at hv;rw [h2,hv]
theorem placedTerm_any (A:Array Value) (hp:Nat→Int) (hA:HoldA A hp) (hb:∀j,0≤hp j∧hp j≤100000) (t:Tm) (ht:0≤t.of∧t.of≤100) (w:World) :
  Calls Tryz.prog 110 #[.agg A,tmVD t] w fun e w'=>e=.returned (tmVD (plTm hp t))∧Nw w w':=by
 obtain ⟨of,fd,num⟩:=t
 unfold tmVD plTm
 simp only at ht ⊢
 obtain ⟨ht0,ht1⟩:=ht
 by_cases h:0≤of - 2∧of - 2<26
 ·rw [if_pos h]
  obtain ⟨j,hj⟩:∃j:Nat,of - 2=j:=⟨(of - 2).toNat,by omega⟩
  have hj26:j<26:=by omega
  have hof:of=(j:Int)+2:=by omega
  subst hof
  have e1:((j:Int)+2 - 2).toNat=j:=by omega
  rw [e1]
  have hg:=hA.get j hj26
  have hbj:=hb j
  have hsz:=hA.size
  obtain ⟨hlt,hgg⟩:=Array.getElem?_eq_some_iff.1 hg
  clear h hj e1 hg
  generalize hp j=hj at *
  go_enter Tryz.func110,Tryz.ntmps110
  go_wp2
  refine bodyPost_ret (results_cX Tryz.results110 _ _ _ ⟨w.heap.size+1+1,0,none⟩ rfl _ (load_tm (t:=⟨2+hj,fd,num⟩) ?_ ?_ ?_)) rfl ?_
  ·simp [go_sem,World.cell?_alloc_at]
  ·simp [go_sem,World.cell?_alloc_at]
  ·simp [go_sem,World.cell?_alloc_at]
  ·exact ⟨rfl,(((Kp.refl _ w).alloc _).alloc _).alloc _⟩
 ·rw [if_neg h]
  go_enter Tryz.func110,Tryz.ntmps110
  go_wp2
  all_goals
   refine bodyPost_ret (results_cX Tryz.results110 _ _ _ ⟨w.heap.size+1+1,0,none⟩ rfl _ (load_tm (t:=⟨of,fd,num⟩) ?_ ?_ ?_)) rfl ?_
   ·simp [go_sem,World.cell?_alloc_at]
   ·simp [go_sem,World.cell?_alloc_at]
   ·simp [go_sem,World.cell?_alloc_at]
   ·exact ⟨rfl,(((Kp.refl _ w).alloc _).alloc _).alloc _⟩
def plTst (hp:Nat→Int) (t:Tst):Tst:=⟨plTm hp t.left,t.rel,plTm hp t.right,t.arith,plTm hp t.more⟩
theorem Tryz.rowHo:(Tryz.prog.underlying 164).map TypeDesc.isRow=some true:=by kernel_rfl
theorem Tryz.sizeHo:(Tryz.prog.info? 164).map (·.size)=some 26:=by kernel_rfl
theorem size_ho {LL:List Value} (h:LL.length=26):(Tryz.prog.info? 164).map (·.size)=some LL.length:=by rw [h];exact Tryz.sizeHo
theorem range_of {w W:World} {LL:List Value} {t:TypeId} {B:Nat} (hB:B=w.heap.size) {S:Nat→Prop} (k:Kp S (w.alloc (.cells LL.toArray t)) W) (hS:¬S B):W.rangeAt B 0 LL:=by
 subst hB
 intro j v hv
 rw [Nat.zero_add,k.cell (p:=⟨w.heap.size,j,none⟩) (by show w.heap.size<_;simp) hS,World.cell?_alloc_at (w:=w) LL.toArray t _ j rfl]
 simpa using hv
structure TB (w:World) (B:Nat) (t:Tst):Prop where
 at':TstAt' w B t.left.of t.left.field t.left.num t.rel t.right.of t.right.field t.right.num t.arith t.more.of t.more.field t.more.num
 fz:∀o,w.frozen? ⟨B,o,none⟩=false
theorem TB.lt {w:World} {B:Nat} {t:Tst} (h:TB w B t):B<w.heap.size:=World.block_lt_of_cell? w ⟨B,0,none⟩ h.at'.c0
theorem TB.kp {S:Nat→Prop} {w w':World} {B:Nat} {t:Tst} (h:TB w B t) (k:Kp S w w') (hs:¬S B):TB w' B t:=by
 have c:∀o,w'.cell? ⟨B,o,none⟩=w.cell? ⟨B,o,none⟩:=fun o=>k.cell (p:=⟨B,o,none⟩) h.lt hs
 have a:=h.at'
 exact ⟨⟨(c 0).trans a.c0,(c 1).trans a.c1,(c 2).trans a.c2,(c 3).trans a.c3,(c 4).trans a.c4,(c 5).trans a.c5,(c 6).trans a.c6,(c 7).trans a.c7,(c 8).trans a.c8,(c 9).trans a.c9,(c 10).trans a.c10⟩,fun o=>(k.frozen (p:=⟨B,o,none⟩) h.lt hs).trans (h.fz o)⟩
def set3 (w:World) (B o:Nat) (t:Tm):World:=((w.setCell ⟨B,o,none⟩ (.int .i64 t.of)).setCell ⟨B,o+1,none⟩ (.int .i64 t.field)).setCell ⟨B,o+2,none⟩ (.int .i64 t.num)
theorem set3_kp (w:World) (B o:Nat) (t:Tm):Kp (fun b=>b=B) w (set3 w B o t):=(((Kp.refl (fun b=>b=B) w).setCell (p:=⟨B,o,none⟩) (Or.inr rfl) _).setCell (p:=⟨B,o+1,none⟩) (Or.inr rfl) _).setCell (p:=⟨B,o+2,none⟩) (Or.inr rfl) _
theorem TB.set0 {w:World} {B:Nat} {t:Tst} (h:TB w B t) (x:Tm):TB (set3 w B 0 x) B ⟨x,t.rel,t.right,t.arith,t.more⟩:=by
 obtain ⟨⟨c0,c1,c2,c3,c4,c5,c6,c7,c8,c9,c10⟩,fz⟩:=h
 unfold set3
 refine ⟨?_,fun o=>by simp [go_sem,fz]⟩
 constructor <;> simp [go_sem,c0,c1,c2,c3,c4,c5,c6,c7,c8,c9,c10]
theorem TB.set4 {w:World} {B:Nat} {t:Tst} (h:TB w B t) (x:Tm):TB (set3 w B 4 x) B ⟨t.left,t.rel,x,t.arith,t.more⟩:=by
 obtain ⟨⟨c0,c1,c2,c3,c4,c5,c6,c7,c8,c9,c10⟩,fz⟩:=h
 unfold set3
 refine ⟨?_,fun o=>by simp [go_sem,fz]⟩
 constructor <;> simp [go_sem,c0,c1,c2,c3,c4,c5,c6,c7,c8,c9,c10]
theorem TB.set8 {w:World} {B:Nat} {t:Tst} (h:TB w B t) (x:Tm):TB (set3 w B 8 x) B ⟨t.left,t.rel,t.right,t.arith,x⟩:=by
 obtain ⟨⟨c0,c1,c2,c3,c4,c5,c6,c7,c8,c9,c10⟩,fz⟩:=h
 unfold set3
 refine ⟨?_,fun o=>by simp [go_sem,fz]⟩
 constructor <;> simp [go_sem,c0,c1,c2,c3,c4,c5,c6,c7,c8,c9,c10]
theorem TB.range {w:World} {B:Nat} {t:Tst} (h:TB w B t):w.rangeAt B 0 (tstC t):=by
 obtain ⟨⟨c0,c1,c2,c3,c4,c5,c6,c7,c8,c9,c10⟩,fz⟩:=h
 intro j v hv
 rw [Nat.zero_add]
 match j,hv with
 | 0,hv=>simp [tstC] at hv;rw [c0,hv]
 | 1,hv=>simp [tstC] at hv;rw [c1,hv]
 | 2,hv=>simp [tstC] at hv;rw [c2,hv]
 | 3,hv=>simp [tstC] at hv;rw [c3,hv]
 | 4,hv=>simp [tstC] at hv;rw [c4,hv]
 | 5,hv=>simp [tstC] at hv;rw [c5,hv]
 | 6,hv=>simp [tstC] at hv;rw [c6,hv]
 | 7,hv=>simp [tstC] at hv;rw [c7,hv]
 | 8,hv=>simp [tstC] at hv;rw [c8,hv]
 | 9,hv=>simp [tstC] at hv;rw [c9,hv]
 | 10,hv=>simp [tstC] at hv;rw [c10,hv]
def set11D (w:World) (B:Nat) (t:Tst):World:=(((((((((((w.setCell ⟨B,0,none⟩ (.int .i64 t.left.of)).setCell ⟨B,1,none⟩ (.int .i64 t.left.field)).setCell ⟨B,2,none⟩ (.int .i64 t.left.num)).setCell ⟨B,3,none⟩ (.int .i64 t.rel)).setCell ⟨B,4,none⟩ (.int .i64 t.right.of)).setCell ⟨B,5,none⟩ (.int .i64 t.right.field)).setCell ⟨B,6,none⟩ (.int .i64 t.right.num)).setCell ⟨B,7,none⟩ (.int .i64 t.arith)).setCell ⟨B,8,none⟩ (.int .i64 t.more.of)).setCell ⟨B,9,none⟩ (.int .i64 t.more.field)).setCell ⟨B,10,none⟩ (.int .i64 t.more.num))
theorem set11D_kp (w:World) (B:Nat) (t:Tst):Kp (fun b=>b=B) w (set11D w B t):=((((((((((((Kp.refl (fun b=>b=B) w).setCell (p:=⟨B,0,none⟩) (Or.inr rfl) _).setCell (p:=⟨B,1,none⟩) (Or.inr rfl) _).setCell (p:=⟨B,2,none⟩) (Or.inr rfl) _).setCell (p:=⟨B,3,none⟩) (Or.inr rfl) _).setCell (p:=⟨B,4,none⟩) (Or.inr rfl) _).setCell (p:=⟨B,5,none⟩) (Or.inr rfl) _).setCell (p:=⟨B,6,none⟩) (Or.inr rfl) _).setCell (p:=⟨B,7,none⟩) (Or.inr rfl) _).setCell (p:=⟨B,8,none⟩) (Or.inr rfl) _).setCell (p:=⟨B,9,none⟩) (Or.inr rfl) _).setCell (p:=⟨B,10,none⟩) (Or.inr rfl) _)
theorem TB.set11D {w:World} {B:Nat} {t0:Tst} (h:TB w B t0) (t:Tst):TB (set11D w B t) B t:=by
 obtain ⟨⟨c0,c1,c2,c3,c4,c5,c6,c7,c8,c9,c10⟩,fz⟩:=h
 unfold Go.Proofs.YtcboiapggnmpfaaGreatDoor.set11D
 refine ⟨?_,fun o=>by simp [go_sem,fz]⟩
 constructor <;> simp [go_sem,c0,c1,c2,c3,c4,c5,c6,c7,c8,c9,c10]
def tstVD (t:Tst):Value:=.agg #[.int .i64 t.left.of,.int .i64 t.left.field,.int .i64 t.left.num,.int .i64 t.rel,.int .i64 t.right.of,.int .i64 t.right.field,.int .i64 t.right.num,.int .i64 t.arith,.int .i64 t.more.of,.int .i64 t.more.field,.int .i64 t.more.num]
theorem placedTst_any (LL:List Value) (hp:Nat→Int) (hA:HoldA LL.toArray hp) (hb:∀j,0≤hp j∧hp j≤100000) (t:Tst) (ht:(0≤t.left.of∧t.left.of≤100)∧(0≤t.right.of∧t.right.of≤100)∧(0≤t.more.of∧t.more.of≤100)) (w:World) :
  Calls Tryz.prog 100 #[.agg LL.toArray,tstVD t] w fun e w'=>e=.returned (tstVD (plTst hp t))∧Nw w w':=by
 have HP:Hid (∀(x:Tm) W,0≤x.of∧x.of≤100→Calls Tryz.prog 110 #[.agg LL.toArray,.agg #[.int .i64 x.of,.int .i64 x.field,.int .i64 x.num]] W fun e w'=>e=.returned (tmVD (plTm hp x))∧Nw W w'):=fun x W hx=>placedTerm_any LL.toArray hp hA hb x hx W
 have hLL:LL.length=26:=by simpa using hA.size
 have HLL:Hid (LL.length=26):=hLL
 obtain ⟨h1,h2,h3⟩:=ht
 obtain ⟨dd,hu,hd⟩:=Option.map_eq_some_iff.1 Tryz.rowHo
 have HU:Hid (Tryz.prog.underlying 164=some dd):=hu
 have HD:Hid (dd.isRow=true):=hd
 clear hu hd hA hb hLL
 unfold tstVD
 go_enter Tryz.func100,Tryz.ntmps100
 go_upto_region 1 with fail
 have hB1:(w.alloc (.cells LL.toArray 164)).heap.size=w.heap.size+1:=by simp
 have HRG:Hid (∀W,Kp (fun b=>b=w.heap.size+1) (((w.alloc (.cells LL.toArray 164)).alloc (.cells #[.int .i64 t.left.of,.int .i64 t.left.field,.int .i64 t.left.num,.int .i64 t.rel,.int .i64 t.right.of,.int .i64 t.right.field,.int .i64 t.right.num,.int .i64 t.arith,.int .i64 t.more.of,.int .i64 t.more.field,.int .i64 t.more.num] 118)).alloc (.cells #[.int .i64 0,.int .i64 0,.int .i64 0,.int .i64 0,.int .i64 0,.int .i64 0,.int .i64 0,.int .i64 0,.int .i64 0,.int .i64 0,.int .i64 0] 118)) W→W.rangeAt w.heap.size 0 LL):=by
  intro W kW
  exact range_of rfl ((((Kp.refl _ _).alloc _).alloc _).trans kW) (by show ¬w.heap.size=w.heap.size+1;omega)
 have HT1:Hid (TB (((w.alloc (.cells LL.toArray 164)).alloc (.cells #[.int .i64 t.left.of,.int .i64 t.left.field,.int .i64 t.left.num,.int .i64 t.rel,.int .i64 t.right.of,.int .i64 t.right.field,.int .i64 t.right.num,.int .i64 t.arith,.int .i64 t.more.of,.int .i64 t.more.field,.int .i64 t.more.num] 118)).alloc (.cells #[.int .i64 0,.int .i64 0,.int .i64 0,.int .i64 0,.int .i64 0,.int .i64 0,.int .i64 0,.int .i64 0,.int .i64 0,.int .i64 0,.int .i64 0] 118)) (w.heap.size+1) t):=by
  have h0:TB ((w.alloc (.cells LL.toArray 164)).alloc (.cells #[.int .i64 t.left.of,.int .i64 t.left.field,.int .i64 t.left.num,.int .i64 t.rel,.int .i64 t.right.of,.int .i64 t.right.field,.int .i64 t.right.num,.int .i64 t.arith,.int .i64 t.more.of,.int .i64 t.more.field,.int .i64 t.more.num] 118)) (w.heap.size+1) t:=by
   refine ⟨?_,fun o=>by simp [go_sem,World.frozen?_alloc_at]⟩
   constructor <;> simp [go_sem,World.cell?_alloc_at]
  exact h0.kp ((Kp.refl (fun _=>False) _).alloc _) (fun h=>h)
 have HT2:Hid (TB (((w.alloc (.cells LL.toArray 164)).alloc (.cells #[.int .i64 t.left.of,.int .i64 t.left.field,.int .i64 t.left.num,.int .i64 t.rel,.int .i64 t.right.of,.int .i64 t.right.field,.int .i64 t.right.num,.int .i64 t.arith,.int .i64 t.more.of,.int .i64 t.more.field,.int .i64 t.more.num] 118)).alloc (.cells #[.int .i64 0,.int .i64 0,.int .i64 0,.int .i64 0,.int .i64 0,.int .i64 0,.int .i64 0,.int .i64 0,.int .i64 0,.int .i64 0,.int .i64 0] 118)) (w.heap.size+1+1) tst0):=by
  refine ⟨?_,fun o=>by simp [go_sem,World.frozen?_alloc_at]⟩
  constructor <;> simp [go_sem,World.cell?_alloc_at,tst0,tm0]
 have HK0:Hid (Nw w (((w.alloc (.cells LL.toArray 164)).alloc (.cells #[.int .i64 t.left.of,.int .i64 t.left.field,.int .i64 t.left.num,.int .i64 t.rel,.int .i64 t.right.of,.int .i64 t.right.field,.int .i64 t.right.num,.int .i64 t.arith,.int .i64 t.more.of,.int .i64 t.more.field,.int .i64 t.more.num] 118)).alloc (.cells #[.int .i64 0,.int .i64 0,.int .i64 0,.int .i64 0,.int .i64 0,.int .i64 0,.int .i64 0,.int .i64 0,.int .i64 0,.int .i64 0,.int .i64 0] 118))):=(((Kp.refl _ w).alloc _).alloc _).alloc _
 generalize (((w.alloc (.cells LL.toArray 164)).alloc (.cells #[.int .i64 t.left.of,.int .i64 t.left.field,.int .i64 t.left.num,.int .i64 t.rel,.int .i64 t.right.of,.int .i64 t.right.field,.int .i64 t.right.num,.int .i64 t.arith,.int .i64 t.more.of,.int .i64 t.more.field,.int .i64 t.more.num] 118)).alloc (.cells #[.int .i64 0,.int .i64 0,.int .i64 0,.int .i64 0,.int .i64 0,.int .i64 0,.int .i64 0,.int .i64 0,.int .i64 0,.int .i64 0,.int .i64 0] 118))=W0 at *
 have q12:¬w.heap.size+1=w.heap.size+1+1:=by omega
 have q10:¬w.heap.size=w.heap.size+1:=by omega
 obtain ⟨⟨x0,x1,x2,x3,x4,x5,x6,x7,x8,x9,x10⟩,xz⟩:=HT1.out
 go_wp2_with (first|(with_reducible (show Go.wpList _ _ _ ({ dst:=_,op:=Op.load 164 _,type:=_,pos:=_,after:=_,guard:=_ }::_) _ _);refine wpList_load_mid rfl 164 _ rfl w.heap.size 0 rfl LL dd (HRG.out _ (Kp.refl _ _)) HU.out HD.out (size_ho HLL.out) ?_)|fail)
 refine (HP.out t.left _ h1).mono ?_
 rintro e w1 ⟨rfl,k1⟩
 have T1:Hid (TB (set3 w1 (w.heap.size+1) 0 (plTm hp t.left)) (w.heap.size+1) ⟨plTm hp t.left,t.rel,t.right,t.arith,t.more⟩):=(HT1.out.kp k1 (fun h=>h)).set0 _
 have K1:Hid (Kp (fun b=>b=w.heap.size+1) W0 (set3 w1 (w.heap.size+1) 0 (plTm hp t.left))):=(k1.mono (fun _ _ h=>h.elim)).trans (set3_kp _ _ _ _)
 have G1:Hid ((set3 w1 (w.heap.size+1) 0 (plTm hp t.left)).rangeAt w.heap.size 0 LL):=HRG.out _ K1.out
 clear x0 x1 x2 x3 x4 x5 x6 x7 x8 x9 x10 xz
 obtain ⟨⟨x0,x1,x2,x3,x4,x5,x6,x7,x8,x9,x10⟩,xz⟩:=HT1.out.kp k1 (fun h=>h)
 clear k1
 have hE1:set3 w1 (w.heap.size+1) 0 (plTm hp t.left)=((w1.setCell ⟨w.heap.size+1,0,none⟩ (.int .i64 (plTm hp t.left).of)).setCell ⟨w.heap.size+1,1,none⟩ (.int .i64 (plTm hp t.left).field)).setCell ⟨w.heap.size+1,2,none⟩ (.int .i64 (plTm hp t.left).num):=rfl
 have HE1:Hid (((w1.setCell ⟨w.heap.size+1,0,none⟩ (.int .i64 (plTm hp t.left).of)).setCell ⟨w.heap.size+1,1,none⟩ (.int .i64 (plTm hp t.left).field)).setCell ⟨w.heap.size+1,2,none⟩ (.int .i64 (plTm hp t.left).num)=set3 w1 (w.heap.size+1) 0 (plTm hp t.left)):=hE1.symm
 clear hE1
 unfold tmVD
 go_upto_region 2 with fail
 rw [HE1.out]
 generalize set3 w1 (w.heap.size+1) 0 (plTm hp t.left)=w2 at *
 clear x0 x1 x2 x3 x4 x5 x6 x7 x8 x9 x10 xz HE1
 obtain ⟨⟨x0,x1,x2,x3,x4,x5,x6,x7,x8,x9,x10⟩,xz⟩:=T1.out
 simp only at x0 x1 x2 x3 x4 x5 x6 x7 x8 x9 x10
 go_wp2_with (first|(with_reducible (show Go.wpList _ _ _ ({ dst:=_,op:=Op.load 164 _,type:=_,pos:=_,after:=_,guard:=_ }::_) _ _);refine wpList_load_mid rfl 164 _ rfl w.heap.size 0 rfl LL dd G1.out HU.out HD.out (size_ho HLL.out) ?_)|fail)
 refine (HP.out t.right _ h2).mono ?_
 rintro e w3 ⟨rfl,k3⟩
 have T3:Hid (TB (set3 w3 (w.heap.size+1) 4 (plTm hp t.right)) (w.heap.size+1) ⟨plTm hp t.left,t.rel,plTm hp t.right,t.arith,t.more⟩):=(T1.out.kp k3 (fun h=>h)).set4 _
 have K3:Hid (Kp (fun b=>b=w.heap.size+1) W0 (set3 w3 (w.heap.size+1) 4 (plTm hp t.right))):=(K1.out.trans (k3.mono (fun _ _ h=>h.elim))).trans (set3_kp _ _ _ _)
 have G3:Hid ((set3 w3 (w.heap.size+1) 4 (plTm hp t.right)).rangeAt w.heap.size 0 LL):=HRG.out _ K3.out
 clear x0 x1 x2 x3 x4 x5 x6 x7 x8 x9 x10 xz
 obtain ⟨⟨x0,x1,x2,x3,x4,x5,x6,x7,x8,x9,x10⟩,xz⟩:=T1.out.kp k3 (fun h=>h)
 clear k3
 have HE3:Hid (((w3.setCell ⟨w.heap.size+1,4,none⟩ (.int .i64 (plTm hp t.right).of)).setCell ⟨w.heap.size+1,5,none⟩ (.int .i64 (plTm hp t.right).field)).setCell ⟨w.heap.size+1,6,none⟩ (.int .i64 (plTm hp t.right).num)=set3 w3 (w.heap.size+1) 4 (plTm hp t.right)):=rfl
 unfold tmVD
 go_upto_region 3 with fail
 rw [HE3.out]
 generalize set3 w3 (w.heap.size+1) 4 (plTm hp t.right)=w4 at *
 clear x0 x1 x2 x3 x4 x5 x6 x7 x8 x9 x10 xz HE3
 obtain ⟨⟨x0,x1,x2,x3,x4,x5,x6,x7,x8,x9,x10⟩,xz⟩:=T3.out
 simp only at x0 x1 x2 x3 x4 x5 x6 x7 x8 x9 x10
 go_wp2_with (first|(with_reducible (show Go.wpList _ _ _ ({ dst:=_,op:=Op.load 164 _,type:=_,pos:=_,after:=_,guard:=_ }::_) _ _);refine wpList_load_mid rfl 164 _ rfl w.heap.size 0 rfl LL dd G3.out HU.out HD.out (size_ho HLL.out) ?_)|fail)
 refine (HP.out t.more _ h3).mono ?_
 rintro e w5 ⟨rfl,k5⟩
 have T5:Hid (TB (set3 w5 (w.heap.size+1) 8 (plTm hp t.more)) (w.heap.size+1) ⟨plTm hp t.left,t.rel,plTm hp t.right,t.arith,plTm hp t.more⟩):=(T3.out.kp k5 (fun h=>h)).set8 _
 have K5:Hid (Kp (fun b=>b=w.heap.size+1) W0 (set3 w5 (w.heap.size+1) 8 (plTm hp t.more))):=(K3.out.trans (k5.mono (fun _ _ h=>h.elim))).trans (set3_kp _ _ _ _)
 have G5:Hid ((set3 w5 (w.heap.size+1) 8 (plTm hp t.more)).rangeAt w.heap.size 0 LL):=HRG.out _ K5.out
 clear x0 x1 x2 x3 x4 x5 x6 x7 x8 x9 x10 xz
 obtain ⟨⟨x0,x1,x2,x3,x4,x5,x6,x7,x8,x9,x10⟩,xz⟩:=T3.out.kp k5 (fun h=>h)
 clear k5
 have HE5:Hid (((w5.setCell ⟨w.heap.size+1,8,none⟩ (.int .i64 (plTm hp t.more).of)).setCell ⟨w.heap.size+1,9,none⟩ (.int .i64 (plTm hp t.more).field)).setCell ⟨w.heap.size+1,10,none⟩ (.int .i64 (plTm hp t.more).num)=set3 w5 (w.heap.size+1) 8 (plTm hp t.more)):=rfl
 unfold tmVD
 go_upto_region 4 with fail
 rw [HE5.out]
 generalize set3 w5 (w.heap.size+1) 8 (plTm hp t.more)=w6 at *
 clear x0 x1 x2 x3 x4 x5 x6 x7 x8 x9 x10 xz HE5
 obtain ⟨⟨x0,x1,x2,x3,x4,x5,x6,x7,x8,x9,x10⟩,xz⟩:=T5.out
 simp only at x0 x1 x2 x3 x4 x5 x6 x7 x8 x9 x10
 have HZ:Hid (TB w6 (w.heap.size+1+1) tst0):=HT2.out.kp K5.out (by show ¬w.heap.size+1+1=w.heap.size+1;omega)
 obtain ⟨⟨y0,y1,y2,y3,y4,y5,y6,y7,y8,y9,y10⟩,yz⟩:=HZ.out
 have HE11:Hid ((((((((((((w6.setCell ⟨w.heap.size+1+1,0,none⟩ (.int .i64 (plTm hp t.left).of)).setCell ⟨w.heap.size+1+1,1,none⟩ (.int .i64 (plTm hp t.left).field)).setCell ⟨w.heap.size+1+1,2,none⟩ (.int .i64 (plTm hp t.left).num)).setCell ⟨w.heap.size+1+1,3,none⟩ (.int .i64 t.rel)).setCell ⟨w.heap.size+1+1,4,none⟩ (.int .i64 (plTm hp t.right).of)).setCell ⟨w.heap.size+1+1,5,none⟩ (.int .i64 (plTm hp t.right).field)).setCell ⟨w.heap.size+1+1,6,none⟩ (.int .i64 (plTm hp t.right).num)).setCell ⟨w.heap.size+1+1,7,none⟩ (.int .i64 t.arith)).setCell ⟨w.heap.size+1+1,8,none⟩ (.int .i64 (plTm hp t.more).of)).setCell ⟨w.heap.size+1+1,9,none⟩ (.int .i64 (plTm hp t.more).field)).setCell ⟨w.heap.size+1+1,10,none⟩ (.int .i64 (plTm hp t.more).num))=set11D w6 (w.heap.size+1+1) (plTst hp t)):=by
  show _=_
  unfold set11D plTst
  rfl
 have HR11:Hid ((set11D w6 (w.heap.size+1+1) (plTst hp t)).rangeAt (w.heap.size+1+1) 0 (tstC (plTst hp t))):=(HZ.out.set11D (plTst hp t)).range
 have HK11:Hid (Nw w (set11D w6 (w.heap.size+1+1) (plTst hp t))):=HK0.out.trans' (K5.out.mono (T:=fun b=>w.heap.size≤b) (fun b _ e=>by omega)) (fun b hb e=>by omega) |>.trans' (set11D_kp _ _ _) (fun b hb e=>by omega)
 go_wp2
 rw [HE11.out]
 clear HE11
 generalize set11D w6 (w.heap.size+1+1) (plTst hp t)=w7 at *
 obtain ⟨d11,hu11,hd11⟩:=Option.map_eq_some_iff.1 Tryz.row118
 refine bodyPost_ret (v:=.agg (tstC (plTst hp t)).toArray) (results_cX Tryz.results100 _ _ _ ⟨w.heap.size+1+1,0,none⟩ rfl _ (run_loadVar_mid _ (w.heap.size+1+1) 0 118 (tstC (plTst hp t)) d11 HR11.out hu11 hd11 (by rw [show (tstC (plTst hp t)).length=11 from rfl];exact Tryz.size118))) rfl ?_
 exact ⟨rfl,HK11.out⟩
open Value (int)
open IntKind (i64)
def ValPost (p:Int×Bool) (w:World) (e:Ending) (w':World):Prop:=e=.returned (.tuple #[.int .i64 p.1,.bool p.2])∧Nw w w'
theorem valueS_any (R:Nat) (hand:Nmb) (t:Thr) (x:Tm) (anew:Nat) (ha:anew<16) (hx:0≤x.of∧x.of≤100) (w:World) (hh:w.rangeAt R 1 (nmC hand)) (hf:w.rangeAt R 7 (thC t)) :
  Calls Tryz.prog 122 #[.pointer (some ⟨R,0,none⟩),tmVD x,.int .i64 (anew:Int)] w (ValPost (valS hand t anew x) w):=by
 obtain ⟨of,fd,num⟩:=x
 simp only at hx
 unfold tmVD valS
 simp only
 have hRl:R<w.heap.size:=range_lt hh (by simp [nmC])
 have HV:Hid (∀(e:Evt) W,Calls Tryz.prog 83 #[evV e,.int .i64 fd] W fun r w'=>r=.returned (.int .i64 (evF e fd))∧Nw W w'):=fun e W=>valueE_any e fd W
 by_cases h0:of=0
 ·subst h0
  rw [if_pos rfl]
  go_enter Tryz.func122,Tryz.ntmps122
  go_wp2
  go_ret2
  exact ⟨rfl,(Kp.refl _ w).alloc _⟩
 ·rw [if_neg h0]
  have g0:(of == 0)=false:=by simpa using h0
  by_cases h1:of=1
  ·subst h1
   rw [if_pos rfl]
   have HSW:Hid (∀W,Nw (w.alloc (.cells #[.int .i64 1,.int .i64 fd,.int .i64 num] 116)) W→W.cell? ⟨R,2,none⟩=some (.int .i64 hand.e.at')∧W.cell? ⟨R,3,none⟩=some (.int .i64 hand.e.kind)∧W.cell? ⟨R,4,none⟩=some (.int .i64 hand.e.x)∧W.cell? ⟨R,5,none⟩=some (.int .i64 hand.e.y)∧W.cell? ⟨R,6,none⟩=some (.int .i64 hand.e.z)∧W.cell? ⟨w.heap.size,1,none⟩=some (.int .i64 fd)):=by
    intro W kW
    have k0:Nw w W:=((Kp.refl (fun _=>False) w).alloc _).trans kW
    have hr:=range_kp hh hRl k0 (fun h=>h)
    have hb:=(Bx.new w [.int .i64 1,.int .i64 fd,.int .i64 num] 116).kp (by simp) kW (fun h=>h)
    exact ⟨hr 1 _ rfl,hr 2 _ rfl,hr 3 _ rfl,hr 4 _ rfl,hr 5 _ rfl,hb.cell (k:=1) rfl⟩
   have HK:Hid (Nw w (w.alloc (.cells #[.int .i64 1,.int .i64 fd,.int .i64 num] 116))):=(Kp.refl _ w).alloc _
   have HVE:=HV.out hand.e
   have HFE:Hid (∀W,Nw w W→ValPost (evF hand.e fd,true) w (.returned (.tuple #[.int .i64 (evF hand.e fd),.bool true])) W):=fun W kW=>⟨rfl,kW⟩
   clear hh hf HV
   obtain ⟨hn,he⟩:=hand
   simp only at *
   unfold evV at HVE
   generalize evF he fd=vf at *
   have hRl':R<(w.alloc (.cells #[.int .i64 1,.int .i64 fd,.int .i64 num] 116)).heap.size:=by simp;omega
   go_enter Tryz.func122,Tryz.ntmps122
   go_wp2
   generalize w.alloc (.cells #[.int .i64 1,.int .i64 fd,.int .i64 num] 116)=W0 at *
   go_region_held3 (fun W=>W.cell? ⟨R,2,none⟩=some (.int .i64 he.at')∧W.cell? ⟨R,3,none⟩=some (.int .i64 he.kind)∧W.cell? ⟨R,4,none⟩=some (.int .i64 he.x)∧W.cell? ⟨R,5,none⟩=some (.int .i64 he.y)∧W.cell? ⟨R,6,none⟩=some (.int .i64 he.z)∧W.cell? ⟨w.heap.size,1,none⟩=some (.int .i64 fd)) ((refine HSW.out _ ?_;repeat' (first|with_reducible exact Kp.refl _ _|with_reducible assumption|with_reducible refine Kp.drew ?_|with_reducible refine Kp.alloc ?_ _)))
    ((go_at_call 83;refine (HVE _).mono ?_;rintro e7 w7 ⟨rfl,k7⟩;have k8:Nw W0 w7:=((Kp.refl _ _).drew).trans k7))
   all_goals
    have HK8:Hid (Nw w w7):=HK.out.trans k8
    clear k8 k7
    go_wp2
    go_ret2
    exact HFE.out _ HK8.out
  ·rw [if_neg h1]
   have g1:(of == 1)=false:=by simpa using h1
   have HHA:Hid (∀W,Nw w W→Calls Tryz.prog 120 #[.pointer (some ⟨R,0,none⟩),.int .i64 (of - 2),.int .i64 (anew:Int)] W fun r w'=>r=.returned (.agg (nmC (heldS hand t (of - 2) anew)).toArray)∧Nw W w'):=fun W kW=>heldAt_any R hand t (of - 2) anew ha W (range_kp hh hRl kW (fun h=>h)) (range_kp hf hRl kW (fun h=>h))
   have HBT:Hid (∀W,Nw (w.alloc (.cells #[.int .i64 of,.int .i64 fd,.int .i64 num] 116)) W→W.cell? ⟨w.heap.size,1,none⟩=some (.int .i64 fd)):=by
    intro W kW
    exact ((Bx.new w [.int .i64 of,.int .i64 fd,.int .i64 num] 116).kp (by simp) kW (fun h=>h)).cell (k:=1) rfl
   have HK:Hid (Nw w (w.alloc (.cells #[.int .i64 of,.int .i64 fd,.int .i64 num] 116))):=(Kp.refl _ w).alloc _
   have HSZ:Hid (w.heap.size<(w.alloc (.cells #[.int .i64 of,.int .i64 fd,.int .i64 num] 116)).heap.size):=by show _<_;simp
   generalize heldS hand t (of - 2) anew=x at *
   have HVE:=HV.out x.e
   have HFE:Hid (∀W,Nw w W→ValPost (evF x.e fd,decide (¬x.n = -1)) w (.returned (.tuple #[.int .i64 (evF x.e fd),.bool (x.n != -1)])) W):=fun W kW=>⟨by congr 4;by_cases hx:x.n = -1 <;> simp [hx],kW⟩
   have hRl':R<(w.alloc (.cells #[.int .i64 of,.int .i64 fd,.int .i64 num] 116)).heap.size:=by simp;omega
   clear hh hf HV h0 h1 ha
   obtain ⟨hx1,hx2⟩:=hx
   go_enter Tryz.func122,Tryz.ntmps122
   go_wp2_with fail
   refine (HHA.out _ HK.out).mono ?_
   rintro e2 w2 ⟨rfl,k2⟩
   have K2:Hid (Nw (w.alloc (.cells #[.int .i64 of,.int .i64 fd,.int .i64 num] 116)) w2):=k2
   have hsz:=HSZ.out
   generalize (w.alloc (.cells #[.int .i64 of,.int .i64 fd,.int .i64 num] 116))=W0 at *
   have HBX:Hid (Bx ((w2.alloc (.cells #[int i64 0,int i64 0,int i64 0,int i64 0,int i64 0,int i64 0] 126)).setCells w2.heap.size 0 (nmC x)) w2.heap.size (nmC x)):=(Bx.new w2 (nmC nz) 126).put (by rw [nmC_len,nmC_len])
   have HTX:Hid ((w2.alloc (.cells #[int i64 0,int i64 0,int i64 0,int i64 0,int i64 0,int i64 0] 126)).there w2.heap.size 0 (nmC x).toArray.size):=(Bx.new w2 (nmC nz) 126).there (by rw [List.size_toArray,nmC_len,nmC_len])
   have K3:Hid (Nw W0 ((w2.alloc (.cells #[int i64 0,int i64 0,int i64 0,int i64 0,int i64 0,int i64 0] 126)).setCells w2.heap.size 0 (nmC x))):=(K2.out.alloc _).trans' (kp_setCells _ 0 _) (by intro b hb e;have:=K2.out.size;omega)
   have hs2:W0.heap.size≤w2.heap.size:=k2.size
   have hs3:w2.heap.size<((w2.alloc (.cells #[int i64 0,int i64 0,int i64 0,int i64 0,int i64 0,int i64 0] 126)).setCells w2.heap.size 0 (nmC x)).heap.size:=HBX.out.lt (by rw [nmC_len];omega)
   clear k2
   go_wp2_with (first
    | (with_reducible (show Go.wpList _ _ _ ({ dst:=_,op:=Op.store 126 _ _,type:=_,pos:=_,after:=_,guard:=_ }::_) _ _);refine wpList_store_mid rfl 126 _ _ rfl w2.heap.size 0 (nmC x).toArray rfl rfl HTX.out (size_nmA _) (all_oneCell_toArray (nmC_one _)) ?_)
    | fail)
   generalize (w2.alloc (.cells #[int i64 0,int i64 0,int i64 0,int i64 0,int i64 0,int i64 0] 126)).setCells w2.heap.size 0 (nmC x)=W3 at *
   have HSW:Hid (∀W,Nw W3 W→W.cell? ⟨w2.heap.size,0,none⟩=some (.int .i64 x.n)∧W.cell? ⟨w2.heap.size,1,none⟩=some (.int .i64 x.e.at')∧W.cell? ⟨w2.heap.size,2,none⟩=some (.int .i64 x.e.kind)∧W.cell? ⟨w2.heap.size,3,none⟩=some (.int .i64 x.e.x)∧W.cell? ⟨w2.heap.size,4,none⟩=some (.int .i64 x.e.y)∧W.cell? ⟨w2.heap.size,5,none⟩=some (.int .i64 x.e.z)∧W.cell? ⟨w.heap.size,1,none⟩=some (.int .i64 fd)):=by
    intro W kW
    have hb:=HBX.out.kp (by rw [nmC_len];omega) kW (fun h=>h)
    exact ⟨hb.cell (k:=0) rfl,hb.cell (k:=1) rfl,hb.cell (k:=2) rfl,hb.cell (k:=3) rfl,hb.cell (k:=4) rfl,hb.cell (k:=5) rfl,HBT.out W (K3.out.trans kW)⟩
   obtain ⟨xn,xe⟩:=x
   simp only at *
   unfold evV at HVE
   generalize evF xe fd=vf at *
   have hwz:w.heap.size<W3.heap.size:=by omega
   go_region_held3 (fun W=>W.cell? ⟨w2.heap.size,0,none⟩=some (.int .i64 xn)∧W.cell? ⟨w2.heap.size,1,none⟩=some (.int .i64 xe.at')∧W.cell? ⟨w2.heap.size,2,none⟩=some (.int .i64 xe.kind)∧W.cell? ⟨w2.heap.size,3,none⟩=some (.int .i64 xe.x)∧W.cell? ⟨w2.heap.size,4,none⟩=some (.int .i64 xe.y)∧W.cell? ⟨w2.heap.size,5,none⟩=some (.int .i64 xe.z)∧W.cell? ⟨w.heap.size,1,none⟩=some (.int .i64 fd)) ((refine HSW.out _ ?_;repeat' (first|with_reducible exact Kp.refl _ _|with_reducible assumption|with_reducible refine Kp.drew ?_|with_reducible refine Kp.alloc ?_ _)))
    ((go_at_call 83;refine (HVE _).mono ?_;rintro e7 w7 ⟨rfl,k7⟩;have k8:Nw W3 w7:=((Kp.refl _ _).drew).trans k7))
   all_goals
    have HK8:Hid (Nw w w7):=HK.out.trans (K3.out.trans k8)
    clear k8 k7
    go_wp2
    go_ret2
    exact HFE.out _ HK8.out
end Go.Proofs.YtcboiapggnmpfaaGreatDoor
