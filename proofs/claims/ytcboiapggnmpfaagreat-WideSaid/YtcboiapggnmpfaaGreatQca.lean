import Derived.Test.YtcboiapggnmpfaaGreatQbz
namespace Go.Proofs.YtcboiapggnmpfaaGreat
set_option maxRecDepth 100000
set_option maxHeartbeats 4000000
set_option linter.unusedSimpArgs false
set_option linter.unusedVariables false
open Go.RowKit
theorem wprog_0_0:ProgIs ⟨#[51]⟩ ⟨#[97,91,120,60,121,43,122,93]⟩ (wcode 0 1):=progB_is (n:=20) (by kernel_rfl) (by kernel_rfl) (by kernel_rfl)
theorem wprog_0_1:ProgIs ⟨#[51]⟩ ⟨#[97,91,120,60,121,45,122,93]⟩ (wcode 0 2):=progB_is (n:=20) (by kernel_rfl) (by kernel_rfl) (by kernel_rfl)
theorem wprog_0_2:ProgIs ⟨#[51]⟩ ⟨#[97,91,120,60,121,42,122,93]⟩ (wcode 0 3):=progB_is (n:=20) (by kernel_rfl) (by kernel_rfl) (by kernel_rfl)
theorem wprog_1_0:ProgIs ⟨#[51]⟩ ⟨#[97,91,120,62,121,43,122,93]⟩ (wcode 1 1):=progB_is (n:=20) (by kernel_rfl) (by kernel_rfl) (by kernel_rfl)
theorem wprog_1_1:ProgIs ⟨#[51]⟩ ⟨#[97,91,120,62,121,45,122,93]⟩ (wcode 1 2):=progB_is (n:=20) (by kernel_rfl) (by kernel_rfl) (by kernel_rfl)
theorem wprog_1_2:ProgIs ⟨#[51]⟩ ⟨#[97,91,120,62,121,42,122,93]⟩ (wcode 1 3):=progB_is (n:=20) (by kernel_rfl) (by kernel_rfl) (by kernel_rfl)
theorem wprog_2_0:ProgIs ⟨#[51]⟩ ⟨#[97,91,120,61,121,43,122,93]⟩ (wcode 2 1):=progB_is (n:=20) (by kernel_rfl) (by kernel_rfl) (by kernel_rfl)
theorem wprog_2_1:ProgIs ⟨#[51]⟩ ⟨#[97,91,120,61,121,45,122,93]⟩ (wcode 2 2):=progB_is (n:=20) (by kernel_rfl) (by kernel_rfl) (by kernel_rfl)
theorem wprog_2_2:ProgIs ⟨#[51]⟩ ⟨#[97,91,120,61,121,42,122,93]⟩ (wcode 2 3):=progB_is (n:=20) (by kernel_rfl) (by kernel_rfl) (by kernel_rfl)
theorem wprog_3_0:ProgIs ⟨#[51]⟩ ⟨#[97,91,120,35,121,43,122,93]⟩ (wcode 3 1):=progB_is (n:=20) (by kernel_rfl) (by kernel_rfl) (by kernel_rfl)
theorem wprog_3_1:ProgIs ⟨#[51]⟩ ⟨#[97,91,120,35,121,45,122,93]⟩ (wcode 3 2):=progB_is (n:=20) (by kernel_rfl) (by kernel_rfl) (by kernel_rfl)
theorem wprog_3_2:ProgIs ⟨#[51]⟩ ⟨#[97,91,120,35,121,42,122,93]⟩ (wcode 3 3):=progB_is (n:=20) (by kernel_rfl) (by kernel_rfl) (by kernel_rfl)
theorem great_any (w:World):Calls Tryz.prog 22 #[] w fun e w'=>e=.returned (.agg #[.int .i64 200,.int .i64 200])∧Nw w w':=by
 have HL:∀W:World,W.cell? ⟨w.heap.size,0,none⟩=some (.int .i64 200)→W.cell? ⟨w.heap.size,1,none⟩=some (.int .i64 200)→(loadVar 27 ⟨w.heap.size,0,none⟩).run Tryz.prog W=.ok (.agg #[.int .i64 200,.int .i64 200]) W:=by
  intro W h0 h1
  obtain ⟨dd,hu,hd⟩:=Option.map_eq_some_iff.1 (show (Tryz.prog.underlying 27).map TypeDesc.isRow=some true by kernel_rfl)
  refine run_loadVar_mid W w.heap.size 0 27 [.int .i64 200,.int .i64 200] dd ?_ hu hd (by kernel_rfl)
  intro k v hv
  rw [Nat.zero_add]
  match k,hv with
  | 0,hv=>simp at hv;rw [h0,hv]
  | 1,hv=>simp at hv;rw [h1,hv]
 have HLL:Hid (∀W:World,W.cell? ⟨w.heap.size,0,none⟩=some (.int .i64 200)→W.cell? ⟨w.heap.size,1,none⟩=some (.int .i64 200)→(loadVar 27 ⟨w.heap.size,0,none⟩).run Tryz.prog W=.ok (.agg #[.int .i64 200,.int .i64 200]) W):=HL
 clear HL
 go_enter Tryz.func22,Tryz.ntmps22
 go_wp2
 refine bodyPost_ret (results_cX Tryz.results22 _ _ _ ⟨w.heap.size,0,none⟩ rfl _ (HLL.out _ ?_ ?_)) rfl ?_
 ·simp [go_sem,World.cell?_alloc_at]
 ·simp [go_sem,World.cell?_alloc_at]
 ·exact ⟨rfl,(Kp.refl _ w).alloc _⟩
theorem none_any (w:World):Calls Tryz.prog 27 #[] w fun e w'=>e=.returned (.agg #[.int .i64 (-1),.int .i64 (-1),.int .i64 (-1),.int .i64 (-1)])∧Nw w w':=by
 have HLL:Hid (∀W:World,(∀k,k<4→W.cell? ⟨w.heap.size,k,none⟩=some (.int .i64 (-1)))→(loadVar 68 ⟨w.heap.size,0,none⟩).run Tryz.prog W=.ok (.agg #[.int .i64 (-1),.int .i64 (-1),.int .i64 (-1),.int .i64 (-1)]) W):=by
  intro W h0
  obtain ⟨dd,hu,hd⟩:=Option.map_eq_some_iff.1 (show (Tryz.prog.underlying 68).map TypeDesc.isRow=some true by kernel_rfl)
  refine run_loadVar_mid W w.heap.size 0 68 [.int .i64 (-1),.int .i64 (-1),.int .i64 (-1),.int .i64 (-1)] dd ?_ hu hd (by kernel_rfl)
  intro k v hv
  rw [Nat.zero_add]
  match k,hv with
  | 0,hv=>simp at hv;rw [h0 0 (by omega),hv]
  | 1,hv=>simp at hv;rw [h0 1 (by omega),hv]
  | 2,hv=>simp at hv;rw [h0 2 (by omega),hv]
  | 3,hv=>simp at hv;rw [h0 3 (by omega),hv]
 go_enter Tryz.func27,Tryz.ntmps27
 go_wp2
 refine bodyPost_ret (results_cX Tryz.results27 _ _ _ ⟨w.heap.size,0,none⟩ rfl _ (HLL.out _ ?_)) rfl ?_
 ·intro k hk
  match k,hk with
  | 0,_=>simp [go_sem,World.cell?_alloc_at]
  | 1,_=>simp [go_sem,World.cell?_alloc_at]
  | 2,_=>simp [go_sem,World.cell?_alloc_at]
  | 3,_=>simp [go_sem,World.cell?_alloc_at]
 ·exact ⟨rfl,(Kp.refl _ w).alloc _⟩
theorem eq_none (W:World):(Op.equalIn 9999 68 (.agg #[.int .i64 (-1),.int .i64 (-1),.int .i64 (-1),.int .i64 (-1)]) (.agg #[.int .i64 (-1),.int .i64 (-1),.int .i64 (-1),.int .i64 (-1)])).run Tryz.prog W=.ok true W:=by
 have hk:Tryz.prog.keyLits 2 68 (Value.agg #[.int .i64 (-1),.int .i64 (-1),.int .i64 (-1),.int .i64 (-1)]).cells.toList=some [.int .i64 (-1),.int .i64 (-1),.int .i64 (-1),.int .i64 (-1)]:=by kernel_rfl
 have hf:(Value.agg #[.int .i64 (-1),.int .i64 (-1),.int .i64 (-1),.int .i64 (-1)]).formed Tryz.prog 68=true:=by kernel_rfl
 obtain ⟨r,hr,hiff⟩:=run_equalIn_deep 9997 2 68 (by kernel_rfl) W 2 2 (.agg #[.int .i64 (-1),.int .i64 (-1),.int .i64 (-1),.int .i64 (-1)]) (.agg #[.int .i64 (-1),.int .i64 (-1),.int .i64 (-1),.int .i64 (-1)]) _ _ hf hf hk hk
 have:r=true:=hiff.2 rfl
 rw [this] at hr
 exact hr
theorem wide_new (r a:Nat) (hr4:r<4) (ha3:a<3) (rs az:ByteArray) (hrs:([.string ⟨#[60]⟩,.string ⟨#[62]⟩,.string ⟨#[61]⟩,.string ⟨#[35]⟩]:List Value)[r]? = some (.string rs)) (has:([.string ⟨#[43]⟩,.string ⟨#[45]⟩,.string ⟨#[42]⟩]:List Value)[a]? = some (.string az)):rs.size=1∧az.size=1∧ProgIs ⟨#[51]⟩ ({ data:=#[97,91,120] }++rs++{ data:=#[121] }++az++{ data:=#[122,93] }:ByteArray) (wcode r (a+1)):=by
 match r,hr4,a,ha3 with
 | 0,_,0,_ =>
  simp only [List.getElem?_cons_zero,List.getElem?_cons_succ,Option.some.injEq,Value.string.injEq] at hrs has
  subst hrs;subst has
  have e:({ data:=#[97,91,120] }++{ data:=#[60] }++{ data:=#[121] }++{ data:=#[43] }++{ data:=#[122,93] }:ByteArray)=⟨#[97,91,120,60,121,43,122,93]⟩:=by kernel_rfl
  refine ⟨rfl,rfl,?_⟩
  rw [e]
  exact wprog_0_0
 | 0,_,1,_ =>
  simp only [List.getElem?_cons_zero,List.getElem?_cons_succ,Option.some.injEq,Value.string.injEq] at hrs has
  subst hrs;subst has
  have e:({ data:=#[97,91,120] }++{ data:=#[60] }++{ data:=#[121] }++{ data:=#[45] }++{ data:=#[122,93] }:ByteArray)=⟨#[97,91,120,60,121,45,122,93]⟩:=by kernel_rfl
  refine ⟨rfl,rfl,?_⟩
  rw [e]
  exact wprog_0_1
 | 0,_,2,_ =>
  simp only [List.getElem?_cons_zero,List.getElem?_cons_succ,Option.some.injEq,Value.string.injEq] at hrs has
  subst hrs;subst has
  have e:({ data:=#[97,91,120] }++{ data:=#[60] }++{ data:=#[121] }++{ data:=#[42] }++{ data:=#[122,93] }:ByteArray)=⟨#[97,91,120,60,121,42,122,93]⟩:=by kernel_rfl
  refine ⟨rfl,rfl,?_⟩
  rw [e]
  exact wprog_0_2
 | 1,_,0,_ =>
  simp only [List.getElem?_cons_zero,List.getElem?_cons_succ,Option.some.injEq,Value.string.injEq] at hrs has
  subst hrs;subst has
  have e:({ data:=#[97,91,120] }++{ data:=#[62] }++{ data:=#[121] }++{ data:=#[43] }++{ data:=#[122,93] }:ByteArray)=⟨#[97,91,120,62,121,43,122,93]⟩:=by kernel_rfl
  refine ⟨rfl,rfl,?_⟩
  rw [e]
  exact wprog_1_0
 | 1,_,1,_ =>
  simp only [List.getElem?_cons_zero,List.getElem?_cons_succ,Option.some.injEq,Value.string.injEq] at hrs has
  subst hrs;subst has
  have e:({ data:=#[97,91,120] }++{ data:=#[62] }++{ data:=#[121] }++{ data:=#[45] }++{ data:=#[122,93] }:ByteArray)=⟨#[97,91,120,62,121,45,122,93]⟩:=by kernel_rfl
  refine ⟨rfl,rfl,?_⟩
  rw [e]
  exact wprog_1_1
 | 1,_,2,_ =>
  simp only [List.getElem?_cons_zero,List.getElem?_cons_succ,Option.some.injEq,Value.string.injEq] at hrs has
  subst hrs;subst has
  have e:({ data:=#[97,91,120] }++{ data:=#[62] }++{ data:=#[121] }++{ data:=#[42] }++{ data:=#[122,93] }:ByteArray)=⟨#[97,91,120,62,121,42,122,93]⟩:=by kernel_rfl
  refine ⟨rfl,rfl,?_⟩
  rw [e]
  exact wprog_1_2
 | 2,_,0,_ =>
  simp only [List.getElem?_cons_zero,List.getElem?_cons_succ,Option.some.injEq,Value.string.injEq] at hrs has
  subst hrs;subst has
  have e:({ data:=#[97,91,120] }++{ data:=#[61] }++{ data:=#[121] }++{ data:=#[43] }++{ data:=#[122,93] }:ByteArray)=⟨#[97,91,120,61,121,43,122,93]⟩:=by kernel_rfl
  refine ⟨rfl,rfl,?_⟩
  rw [e]
  exact wprog_2_0
 | 2,_,1,_ =>
  simp only [List.getElem?_cons_zero,List.getElem?_cons_succ,Option.some.injEq,Value.string.injEq] at hrs has
  subst hrs;subst has
  have e:({ data:=#[97,91,120] }++{ data:=#[61] }++{ data:=#[121] }++{ data:=#[45] }++{ data:=#[122,93] }:ByteArray)=⟨#[97,91,120,61,121,45,122,93]⟩:=by kernel_rfl
  refine ⟨rfl,rfl,?_⟩
  rw [e]
  exact wprog_2_1
 | 2,_,2,_ =>
  simp only [List.getElem?_cons_zero,List.getElem?_cons_succ,Option.some.injEq,Value.string.injEq] at hrs has
  subst hrs;subst has
  have e:({ data:=#[97,91,120] }++{ data:=#[61] }++{ data:=#[121] }++{ data:=#[42] }++{ data:=#[122,93] }:ByteArray)=⟨#[97,91,120,61,121,42,122,93]⟩:=by kernel_rfl
  refine ⟨rfl,rfl,?_⟩
  rw [e]
  exact wprog_2_2
 | 3,_,0,_ =>
  simp only [List.getElem?_cons_zero,List.getElem?_cons_succ,Option.some.injEq,Value.string.injEq] at hrs has
  subst hrs;subst has
  have e:({ data:=#[97,91,120] }++{ data:=#[35] }++{ data:=#[121] }++{ data:=#[43] }++{ data:=#[122,93] }:ByteArray)=⟨#[97,91,120,35,121,43,122,93]⟩:=by kernel_rfl
  refine ⟨rfl,rfl,?_⟩
  rw [e]
  exact wprog_3_0
 | 3,_,1,_ =>
  simp only [List.getElem?_cons_zero,List.getElem?_cons_succ,Option.some.injEq,Value.string.injEq] at hrs has
  subst hrs;subst has
  have e:({ data:=#[97,91,120] }++{ data:=#[35] }++{ data:=#[121] }++{ data:=#[45] }++{ data:=#[122,93] }:ByteArray)=⟨#[97,91,120,35,121,45,122,93]⟩:=by kernel_rfl
  refine ⟨rfl,rfl,?_⟩
  rw [e]
  exact wprog_3_1
 | 3,_,2,_ =>
  simp only [List.getElem?_cons_zero,List.getElem?_cons_succ,Option.some.injEq,Value.string.injEq] at hrs has
  subst hrs;subst has
  have e:({ data:=#[97,91,120] }++{ data:=#[35] }++{ data:=#[121] }++{ data:=#[42] }++{ data:=#[122,93] }:ByteArray)=⟨#[97,91,120,35,121,42,122,93]⟩:=by kernel_rfl
  refine ⟨rfl,rfl,?_⟩
  rw [e]
  exact wprog_3_2
theorem wide_any (x y z rel arith:Int) (w:World) (hx:In64 x) (hy:In64 y) (hz:In64 z) (hr:In64 rel) (ha:In64 arith) :
  Calls Tryz.prog 11 #[.int .i64 x,.int .i64 y,.int .i64 z,.int .i64 rel,.int .i64 arith] w fun e w'=>e=.returned (.bool true)∧Nw w w':=by
 have HP1:Hid (∀W,Calls Tryz.prog 17 #[.int .i64 rel,.int .i64 4] W fun e w'=>e=.returned (.int .i64 (pickK rel 4))∧w'=W):=fun W=>pickK_any rel 4 W hr (by omega) (by omega)
 have HP2:Hid (∀W,Calls Tryz.prog 17 #[.int .i64 arith,.int .i64 3] W fun e w'=>e=.returned (.int .i64 (pickK arith 3))∧w'=W):=fun W=>pickK_any arith 3 W ha (by omega) (by omega)
 obtain ⟨r,hr'⟩:∃r:Nat,pickK rel 4=r:=⟨(pickK rel 4).toNat,by have:=pickK_lt (c:=rel) (n:=4) (by omega);omega⟩
 obtain ⟨a,ha'⟩:∃a:Nat,pickK arith 3=a:=⟨(pickK arith 3).toNat,by have:=pickK_lt (c:=arith) (n:=3) (by omega);omega⟩
 have hr4:r<4:=by have:=pickK_lt (c:=rel) (n:=4) (by omega);omega
 have ha3:a<3:=by have:=pickK_lt (c:=arith) (n:=3) (by omega);omega
 rw [hr'] at HP1
 rw [ha'] at HP2
 have HGR:Hid (∀W,Calls Tryz.prog 22 #[] W fun e w'=>e=.returned (.agg #[.int .i64 200,.int .i64 200])∧Nw W w'):=great_any
 clear hr ha hr' ha'
 obtain ⟨rs,hrs⟩:∃rs:ByteArray,([.string ⟨#[60]⟩,.string ⟨#[62]⟩,.string ⟨#[61]⟩,.string ⟨#[35]⟩]:List Value)[r]? = some (.string rs):=by
  match r,hr4 with
  | 0,_=>exact ⟨_,rfl⟩
  | 1,_=>exact ⟨_,rfl⟩
  | 2,_=>exact ⟨_,rfl⟩
  | 3,_=>exact ⟨_,rfl⟩
 obtain ⟨az,has⟩:∃az:ByteArray,([.string ⟨#[43]⟩,.string ⟨#[45]⟩,.string ⟨#[42]⟩]:List Value)[a]? = some (.string az):=by
  match a,ha3 with
  | 0,_=>exact ⟨_,rfl⟩
  | 1,_=>exact ⟨_,rfl⟩
  | 2,_=>exact ⟨_,rfl⟩
 have HRS:Hid (([.string ⟨#[60]⟩,.string ⟨#[62]⟩,.string ⟨#[61]⟩,.string ⟨#[35]⟩]:List Value)[r]? = some (.string rs)):=hrs
 have HAS:Hid (([.string ⟨#[43]⟩,.string ⟨#[45]⟩,.string ⟨#[42]⟩]:List Value)[a]? = some (.string az)):=has
 have s1:∀W,Nw ((w.alloc (.cells #[.string ⟨#[60]⟩,.string ⟨#[62]⟩,.string ⟨#[61]⟩,.string ⟨#[35]⟩] 55)).alloc (.cells #[.string ⟨#[43]⟩,.string ⟨#[45]⟩,.string ⟨#[42]⟩] 56)) W→W.cell? ⟨w.heap.size,r,none⟩=some (.string rs):=fun W kW=>((Bx.new w [.string ⟨#[60]⟩,.string ⟨#[62]⟩,.string ⟨#[61]⟩,.string ⟨#[35]⟩] 55).kp (by simp) (((Kp.refl (fun _=>False) _).alloc _).trans kW) (fun h=>h)).cell hrs
 have s2:∀W,Nw ((w.alloc (.cells #[.string ⟨#[60]⟩,.string ⟨#[62]⟩,.string ⟨#[61]⟩,.string ⟨#[35]⟩] 55)).alloc (.cells #[.string ⟨#[43]⟩,.string ⟨#[45]⟩,.string ⟨#[42]⟩] 56)) W→W.cell? ⟨w.heap.size+1,a,none⟩=some (.string az):=fun W kW=>by
  have:=((Bx.new (w.alloc (.cells #[.string ⟨#[60]⟩,.string ⟨#[62]⟩,.string ⟨#[61]⟩,.string ⟨#[35]⟩] 55)) [.string ⟨#[43]⟩,.string ⟨#[45]⟩,.string ⟨#[42]⟩] 56).kp (by simp) kW (fun h=>h)).cell has
  rwa [show (w.alloc (.cells #[.string ⟨#[60]⟩,.string ⟨#[62]⟩,.string ⟨#[61]⟩,.string ⟨#[35]⟩] 55)).heap.size=w.heap.size+1 by simp] at this
 have HK0:Hid (Nw w ((w.alloc (.cells #[.string ⟨#[60]⟩,.string ⟨#[62]⟩,.string ⟨#[61]⟩,.string ⟨#[35]⟩] 55)).alloc (.cells #[.string ⟨#[43]⟩,.string ⟨#[45]⟩,.string ⟨#[42]⟩] 56))):=((Kp.refl _ w).alloc _).alloc _
 have hr4':(r:Int)<4:=by omega
 have ha3':(a:Int)<3:=by omega
 obtain ⟨zr,za,hpi⟩:=wide_new r a hr4 ha3 rs az hrs has
 have HNW:Hid (∀W,Calls Tryz.prog 21 #[.string ⟨#[51]⟩,.agg #[.int .i64 200,.int .i64 200],.string ({ data:=#[97,91,120] }++rs++{ data:=#[121] }++az++{ data:=#[122,93] }:ByteArray)] W (LdPost W (bI ⟨#[51]⟩) 200 200 (wcode r (a+1)))):=fun W=>new_any _ _ 200 200 _ W (by unfold maxLen;decide) (by unfold maxLen;simp [ByteArray.size_append,zr,za];decide) hpi (by omega) (by omega) (by omega) (by omega)
 clear hpi
 clear hrs has
 go_enter Tryz.func11,Tryz.ntmps11
 go_wp2_with fail
 refine (HP1.out _).mono ?_
 rintro e1 w1 ⟨rfl,rfl⟩
 go_wp2_with fail
 refine (HP2.out _).mono ?_
 rintro e2 w2 ⟨rfl,rfl⟩
 go_wp2
 generalize ((w.alloc (.cells #[.string ⟨#[60]⟩,.string ⟨#[62]⟩,.string ⟨#[61]⟩,.string ⟨#[35]⟩] 55)).alloc (.cells #[.string ⟨#[43]⟩,.string ⟨#[45]⟩,.string ⟨#[42]⟩] 56))=w0 at *
 refine wp_region_held_drew (S:=fun W=>Nw w0 W) (by kernel_rfl) ((Kp.refl _ _).drew) (fun hHeld => ?_)
 refine takeL (i:=1) (v := ?_) rfl (by kernel_rfl) (by kernel_rfl) (by kernel_rfl) (fun _ _ _ h=>h) (Or.inl ⟨by rfl,fun W hSW => ?y1⟩) hHeld ?_
 case y1=>(try dsimp only at hSW);go_simp;rw []
 simp only [Act.put,sA,sZ,sS]
 refine takeL (i:=2) (v := ?_) rfl (by kernel_rfl) (by kernel_rfl) (by kernel_rfl) (fun _ _ _ h=>h) (Or.inl ⟨by rfl,fun W hSW => ?y2⟩) hHeld ?_
 case y2=>(try dsimp only at hSW);go_simp;rw []
 simp only [Act.put,sA,sZ,sS]
 refine takeL (i:=3) (v := ?_) rfl (by kernel_rfl) (by kernel_rfl) (by kernel_rfl) (fun _ _ _ h=>h) (Or.inl ⟨by rfl,fun W hSW => ?y3⟩) hHeld ?_
 case y3=>(try dsimp only at hSW);go_simp;rw []
 simp only [Act.put,sA,sZ,sS]
 refine takeL (i:=4) (v := ?_) rfl (by kernel_rfl) (by kernel_rfl) (by kernel_rfl) (fun _ _ _ h=>h) (Or.inl ⟨by rfl,fun W hSW => ?y4⟩) hHeld ?_
 case y4=>(try dsimp only at hSW);go_simp;rw []
 simp only [Act.put,sA,sZ,sS]
 refine takeL (i:=5) (v := ?_) rfl (by kernel_rfl) (by kernel_rfl) (by kernel_rfl) (fun _ _ _ h=>h) (Or.inl ⟨by rfl,fun W hSW => ?y5⟩) hHeld ?_
 case y5=>(try dsimp only at hSW);go_simp;rw []
 simp only [Act.put,sA,sZ,sS]
 refine takeL (i:=6) (v := ?_) rfl (by kernel_rfl) (by kernel_rfl) (by kernel_rfl) (fun _ _ _ h=>h) (Or.inl ⟨by rfl,fun W hSW => ?y6⟩) hHeld ?_
 case y6=>(try dsimp only at hSW);go_simp;rw []
 simp only [Act.put,sA,sZ,sS]
 refine takeL (i:=7) (v := ?_) rfl (by kernel_rfl) (by kernel_rfl) (by kernel_rfl) (fun _ _ _ h=>h) (Or.inl ⟨by rfl,fun W hSW => ?y7⟩) hHeld ?_
 case y7=>(try dsimp only at hSW);go_simp;rw []
 simp only [Act.put,sA,sZ,sS]
 refine takeL (i:=8) (v := ?_) rfl (by kernel_rfl) (by kernel_rfl) (by kernel_rfl) (fun _ _ _ h=>h) (Or.inl ⟨by rfl,fun W hSW => ?y8⟩) hHeld ?_
 case y8=>(try dsimp only at hSW);go_simp;rw []
 simp only [Act.put,sA,sZ,sS]
 refine takeL (i:=9) (v := ?_) rfl (by kernel_rfl) (by kernel_rfl) (by kernel_rfl) (fun _ _ _ h=>h) (Or.inl ⟨by rfl,fun W hSW => ?y9⟩) hHeld ?_
 case y9=>(try dsimp only at hSW);go_simp;rw []
 simp only [Act.put,sA,sZ,sS]
 refine takeL (i:=10) (v := ?_) rfl (by kernel_rfl) (by kernel_rfl) (by kernel_rfl) (fun _ _ _ h=>h) (Or.inl ⟨by rfl,fun W hSW => ?y10⟩) hHeld ?_
 case y10=>(try dsimp only at hSW);go_simp;rw []
 simp only [Act.put,sA,sZ,sS]
 refine wpAnyH_ready (rs:=[0]) (by kernel_rfl) (by simp) ?_
 refine consL rfl (fun K hK => ?_) AllReadyH.nil
 go_simp
 refine (HGR.out _).mono ?_
 rintro e3 w3 ⟨rfl,k3⟩
 have k4:Nw w0 w3:=((Kp.refl _ _).drew).trans k3
 try dsimp only
 refine hK.out _ _ k4 (fun _ => ?_)
 clear hK K
 try simp only [Act.put,sA,sZ,sS]
 refine wpAnyH_ready (rs:=[11]) (by kernel_rfl) (by simp) ?_
 refine consL rfl (fun K hK => ?_) AllReadyH.nil
 go_simp
 refine (HNW.out _).mono ?_
 rintro e5 w5 ⟨X,rfl,hnr⟩
 have k5:Nw w0 w5:=k4.trans hnr.n
 try dsimp only
 refine hK.out _ _ k5 (fun _ => ?_)
 clear hK K
 try simp only [Act.put,sA,sZ,sS]
 refine takeL (i:=12) (v := ?_) rfl (by kernel_rfl) (by kernel_rfl) (by kernel_rfl) (fun _ _ _ h=>h) (Or.inl ⟨by rfl,fun W hSW => ?y12⟩) k5 ?_
 case y12=>(try dsimp only at hSW);go_simp;rw []
 simp only [Act.put,sA,sZ,sS]
 refine takeL (i:=13) (v := ?_) rfl (by kernel_rfl) (by kernel_rfl) (by kernel_rfl) (fun _ _ _ h=>h) (Or.inl ⟨by rfl,fun W hSW => ?y13⟩) k5 ?_
 case y13=>(try dsimp only at hSW);go_simp;rw []
 simp only [Act.put,sA,sZ,sS]
 refine takeL (i:=14) (v := ?_) rfl (by kernel_rfl) (by kernel_rfl) (by kernel_rfl) (fun _ _ _ h=>h) (Or.inl ⟨by rfl,fun W hSW => ?y14⟩) k5 ?_
 case y14=>(try dsimp only at hSW);go_simp;rw []
 simp only [Act.put,sA,sZ,sS]
 refine takeL (i:=15) (v := ?_) rfl (by kernel_rfl) (by kernel_rfl) (by kernel_rfl) (fun _ _ _ h=>h) (Or.inl ⟨by rfl,fun W hSW => ?y15⟩) k5 ?_
 case y15=>(try dsimp only at hSW);go_simp;rw []
 simp only [Act.put,sA,sZ,sS]
 refine takeL (i:=16) (v := ?_) rfl (by kernel_rfl) (by kernel_rfl) (by kernel_rfl) (fun _ _ _ h=>h) (Or.inl ⟨by rfl,fun W hSW => ?y16⟩) k5 ?_
 case y16=>(try dsimp only at hSW);go_simp;rw []
 simp only [Act.put,sA,sZ,sS]
 refine wpAnyH_done (by kernel_rfl) ?_ _
 have HKW:Hid (Nw w w5):=HK0.out.trans k5
 have HW3S:Hid (w.heap.size≤w3.heap.size):=(HK0.out.trans k4).size
 have HNR:Hid (NewRun w3 w5 X (bI ⟨#[51]⟩) 200 200 (wcode r (a+1))):=hnr
 clear hHeld s1 s2 k3 k4 k5 hnr HNW HGR HP1 HP2 zr za
 obtain ⟨g',cap',bv,hrk,_,_⟩:=HNR.out.k
 have HSP:Hid (∀W,Calls Tryz.prog 23 #[.int .i64 y,.int .i64 z,.int .i64 1] W fun e w'=>∃v,e=.returned (.tuple #[.int .i64 v,.bool (arS 1 y z).2])∧((arS 1 y z).2=true→v=(arS 1 y z).1)∧w'=W):=fun W=>(sumK_any y z 1 W hy hz (Or.inl rfl)).mono (fun e w' h=>by
  obtain ⟨rfl,rfl⟩:=h
  have e1:y+1*z=y+z:=by omega
  by_cases hi:In64 (y+z)
  ·have h5:sumS y z 1=(y+z,true):=by unfold sumS;rw [e1,if_pos hi]
   have h6:(arS 1 y z).2=true:=by simp [arS,hi]
   refine ⟨y+z,by rw [h5,h6],fun _ => ?_,rfl⟩
   show y+z=wrap64 (y+z)
   unfold wrap64;unfold In64 at hi;omega
  ·have h5:sumS y z 1=(0,false):=by unfold sumS;rw [e1,if_neg hi]
   have h6:(arS 1 y z).2=false:=by simp [arS,hi]
   exact ⟨0,by rw [h5,h6],fun h=>by rw [h6] at h;simp at h,rfl⟩)
 have HSM:Hid (∀W,Calls Tryz.prog 23 #[.int .i64 y,.int .i64 z,.int .i64 (-1)] W fun e w'=>∃v,e=.returned (.tuple #[.int .i64 v,.bool (arS 2 y z).2])∧((arS 2 y z).2=true→v=(arS 2 y z).1)∧w'=W):=fun W=>(sumK_any y z (-1) W hy hz (Or.inr rfl)).mono (fun e w' h=>by
  obtain ⟨rfl,rfl⟩:=h
  have e1:y + -1*z=y - z:=by omega
  by_cases hi:In64 (y - z)
  ·have h5:sumS y z (-1)=(y - z,true):=by unfold sumS;rw [e1,if_pos hi]
   have h6:(arS 2 y z).2=true:=by simp [arS,hi]
   refine ⟨y - z,by rw [h5,h6],fun _ => ?_,rfl⟩
   show y - z=wrap64 (y - z)
   unfold wrap64;unfold In64 at hi;omega
  ·have h5:sumS y z (-1)=(0,false):=by unfold sumS;rw [e1,if_neg hi]
   have h6:(arS 2 y z).2=false:=by simp [arS,hi]
   exact ⟨0,by rw [h5,h6],fun h=>by rw [h6] at h;simp at h,rfl⟩)
 have HPD:Hid (∀W,Calls Tryz.prog 24 #[.int .i64 y,.int .i64 z] W fun e w'=>∃v,e=.returned (.tuple #[.int .i64 v,.bool (arS 3 y z).2])∧((arS 3 y z).2=true→v=(arS 3 y z).1)∧w'=W):=fun W=>(prodK_any y z W hy hz).mono (fun e w' h=>by
  obtain ⟨v,rfl,h1,h2,rfl⟩:=h
  refine ⟨v,rfl,fun hh => ?_,rfl⟩
  have hi:In64 (y*z):=by simpa [arS] using hh
  rw [h1 hi]
  show y*z=wrap64 (y*z)
  unfold In64 at hi
  generalize y*z=p at *
  unfold wrap64;omega)
 have HFD:Hid (∀W,Nw w5 W→Calls Tryz.prog 26 #[.pointer (some ⟨X,0,none⟩),.agg #[.int .i64 0,.int .i64 0,.int .i64 x,.int .i64 y,.int .i64 z]] W fun e w'=>∃v,e=.returned (.tuple #[v,.int .i64 0])∧w'.ownsRow W.heap.size 70 6 v (if wso r (a+1) x y z=true then 1 else 0) (mtsC (if wso r (a+1) x y z=true then [⟨0,0,-1,-1,-1,-1⟩] else []))∧W.heap.size≤w'.heap.size∧Kp (fun b=>b=X) W w'):=fun W kW=>by
  obtain ⟨⟨wv',hM⟩,hn',hk'⟩:=hrk
  refine (feedX_any X (bI ⟨#[51]⟩) 200 200 g' cap' _ bv _ ⟨[],0,0,false⟩ ⟨0,0,x,y,z⟩ W HNR.out.c ⟨⟨wv',hM.nw kW⟩,hn',hk'⟩ ⟨by show In64 (0:Int);decide,by show In64 (0:Int);decide,hx,hy,hz⟩ (by simp)).mono ?_
  rintro e w' ⟨v,rfl,ho,_,hk2⟩
  have hf:=w_feed r (a+1) x y z
  have hb:bI ⟨#[51]⟩=[51]:=by kernel_rfl
  rw [hb] at ho ⊢
  rw [hf] at ho ⊢
  refine ⟨v,rfl,?_,hk2.size,hk2⟩
  by_cases hc:wso r (a+1) x y z=true
  ·rw [if_pos hc] at ho;rw [if_pos hc,if_pos hc];exact ho
  ·rw [if_neg hc] at ho;rw [if_neg hc,if_neg hc];exact ho
 clear hrk hx hy hz
 have HK0S:Hid (w.heap.size≤w3.heap.size):=HW3S.out
 have ha012:a=0∨a=1∨a=2:=by omega
 rcases ha012 with rfl|rfl|rfl
 ·have ek:((0:Nat):Int)+1=1:=rfl
  rw [ek] at HFD
  go_wp2_with fail
  refine (HSP.out _).mono ?_
  rintro e6 w6 ⟨v,rfl,hv,rfl⟩
  have HRL:Hid (∀W,Calls Tryz.prog 25 #[.int .i64 (r:Int),.int .i64 x,.int .i64 v] W fun e w'=>e=.returned (.bool (relS r x v))∧w'=W):=fun W=>related_any r x v W (by omega) (by omega)
  have HWS:Hid (wso r 1 x y z=((arS 1 y z).2&&relS r x v)):=by
   show _=_
   unfold wso
   cases ho:(arS 1 y z).2 with
   | false=>rfl
   | true=>rw [hv ho]
  generalize (arS 1 y z).2=okb at *
  generalize relS (r:Int) x v=sob at *
  generalize wso r 1 x y z=wsb at *
  clear hv HSP HSM HPD
  go_wp2_with fail
  refine (HRL.out _).mono ?_
  rintro e7 w7 ⟨rfl,rfl⟩
  go_wp2_with fail
  refine (HFD.out _ (Kp.refl _ _)).mono ?_
  rintro e8 w8 ⟨mv,rfl,hmo,hsz,hk8⟩
  have HK8:Hid (Nw w w8):=HKW.out.trans' hk8 (fun b hb e=>by have:=HNR.out.x;have:=HK0S.out;omega)
  have HMO:Hid (w8.ownsRow w7.heap.size 70 6 mv (if wsb=true then 1 else 0) (mtsC (if wsb=true then [⟨0,0,-1,-1,-1,-1⟩] else []))):=hmo
  clear hmo hk8 HFD HRL
  cases okb with
  | false =>
   have hw:=HWS.out
   simp only [Bool.false_and] at hw
   subst hw
   have hm:=HMO.out
   rw [if_neg (by simp)] at hm
   obtain ⟨mp,mc,rfl⟩:=ownsLenX hm
   clear hm
   go_wp2
   go_ret
   exact ⟨rfl,HK8.out⟩
  | true =>
   have hw:=HWS.out
   simp only [Bool.true_and] at hw
   subst hw
   cases wsb with
   | false =>
    have hm:=HMO.out
    rw [if_neg (by simp)] at hm
    obtain ⟨mp,mc,rfl⟩:=ownsLenX hm
    clear hm
    go_wp2
    go_ret
    exact ⟨rfl,HK8.out⟩
   | true =>
    have hm:=HMO.out
    rw [if_pos rfl,if_pos rfl] at hm
    obtain ⟨gm,cm,rfl⟩:=owns_some hm (by omega)
    have u1:∀W,Nw w8 W→W.cell? ⟨gm,0,none⟩=some (.int .i64 0)∧W.cell? ⟨gm,1,none⟩=some (.int .i64 0)∧W.cell? ⟨gm,2,none⟩=some (.int .i64 (-1))∧W.cell? ⟨gm,3,none⟩=some (.int .i64 (-1))∧W.cell? ⟨gm,4,none⟩=some (.int .i64 (-1))∧W.cell? ⟨gm,5,none⟩=some (.int .i64 (-1)):=fun W kW=>by
     have ho:=owns_kp hm kW (fun _ _ h=>h)
     exact ⟨owns_cell ho 0 rfl,owns_cell ho 1 rfl,owns_cell ho 2 rfl,owns_cell ho 3 rfl,owns_cell ho 4 rfl,owns_cell ho 5 rfl⟩
    have hgm:gm<w8.heap.size:=(hm.lt gm rfl).2
    have HNO:Hid (∀W,Calls Tryz.prog 27 #[] W fun e w'=>e=.returned (.agg #[.int .i64 (-1),.int .i64 (-1),.int .i64 (-1),.int .i64 (-1)])∧Nw W w'):=none_any
    have heq:=eq_none
    clear hm
    go_wp2
    refine wp_region_held_drew (S:=fun W=>Nw w8 W) (by kernel_rfl) ((Kp.refl _ _).drew) (fun hHeld => ?_)
    refine takeL (i:=0) (v := ?_) rfl (by kernel_rfl) (by kernel_rfl) (by kernel_rfl) (fun _ _ _ h=>h) (Or.inl ⟨by rfl,fun W hSW => ?y0⟩) hHeld ?_
    case y0=>(try dsimp only at hSW);go_simp;rw []
    simp only [Act.put,sA,sZ,sS]
    refine takeL (i:=1) (v := ?_) rfl (by kernel_rfl) (by kernel_rfl) (by kernel_rfl) (fun _ _ _ h=>h) (Or.inl ⟨by rfl,fun W hSW => ?y1⟩) hHeld ?_
    case y1=>(try dsimp only at hSW);go_simp;rw []
    simp only [Act.put,sA,sZ,sS]
    refine takeL (i:=2) (v := ?_) rfl (by kernel_rfl) (by kernel_rfl) (by kernel_rfl) (fun _ _ _ h=>h) (Or.inl ⟨by rfl,fun W hSW => ?y2⟩) hHeld ?_
    case y2=>(try dsimp only at hSW);go_simp;rw []
    simp only [Act.put,sA,sZ,sS]
    refine takeL (i:=3) (v := ?_) rfl (by kernel_rfl) (by kernel_rfl) (by kernel_rfl) (fun _ _ _ h=>h) (Or.inl ⟨by rfl,fun W hSW => ?y3⟩) hHeld ?_
    case y3=>(try dsimp only at hSW);go_simp;rw []
    simp only [Act.put,sA,sZ,sS]
    refine takeL (i:=4) (v := ?_) rfl (by kernel_rfl) (by kernel_rfl) (by kernel_rfl) (fun _ _ _ h=>h) (Or.inl ⟨by rfl,fun W hSW => ?y4⟩) hHeld ?_
    case y4=>(try dsimp only at hSW);go_simp;rw []
    simp only [Act.put,sA,sZ,sS]
    refine takeL (i:=5) (v := ?_) rfl (by kernel_rfl) (by kernel_rfl) (by kernel_rfl) (fun _ _ _ h=>h) (Or.inl ⟨by rfl,fun W hSW => ?y5⟩) hHeld ?_
    case y5=>(try dsimp only at hSW);go_simp;rw []
    simp only [Act.put,sA,sZ,sS]
    refine takeL (i:=6) (v := ?_) rfl (by kernel_rfl) (by kernel_rfl) (by kernel_rfl) (fun _ _ _ h=>h) (Or.inl ⟨by rfl,fun W hSW => ?y6⟩) hHeld ?_
    case y6=>(try dsimp only at hSW);go_simp;rw []
    simp only [Act.put,sA,sZ,sS]
    refine wpAnyH_ready (rs:=[7]) (by kernel_rfl) (by simp) ?_
    refine consL rfl (fun K hK => ?_) AllReadyH.nil
    go_simp
    refine (HNO.out _).mono ?_
    rintro e9 w9 ⟨rfl,k9⟩
    have k10:Nw w8 w9:=((Kp.refl _ _).drew).trans k9
    try dsimp only
    refine hK.out _ _ k10 (fun _ => ?_)
    clear hK K
    try simp only [Act.put,sA,sZ,sS]
    refine takeL (i:=8) (v := ?_) rfl (by kernel_rfl) (by kernel_rfl) (by kernel_rfl) (fun _ _ _ h=>h) (Or.inl ⟨by rfl,fun W hSW => ?y8⟩) k10 ?_
    case y8=>(try dsimp only at hSW);go_simp;rw []
    simp only [Act.put,sA,sZ,sS]
    refine takeL (i:=9) (v := ?_) rfl (by kernel_rfl) (by kernel_rfl) (by kernel_rfl) (fun _ _ _ h=>h) (Or.inl ⟨by rfl,fun W hSW => ?y9⟩) k10 ?_
    case y9=>(try dsimp only at hSW);go_simp;rw []
    simp only [Act.put,sA,sZ,sS]
    refine takeL (i:=10) (v := ?_) rfl (by kernel_rfl) (by kernel_rfl) (by kernel_rfl) (fun _ _ _ h=>h) (Or.inl ⟨by rfl,fun W hSW => ?y10⟩) k10 ?_
    case y10=>(try dsimp only at hSW);go_simp;rw []
    simp only [Act.put,sA,sZ,sS]
    refine takeL (i:=11) (v := ?_) rfl (by kernel_rfl) (by kernel_rfl) (by kernel_rfl) (fun _ _ _ h=>h) (Or.inl ⟨by rfl,fun W hSW => ?y11⟩) k10 ?_
    case y11=>(try dsimp only at hSW);go_simp;rw []
    simp only [Act.put,sA,sZ,sS]
    refine wpAnyH_done (by kernel_rfl) ?_ _
    have HK9:Hid (Nw w w9):=HK8.out.trans k10
    clear u1 hHeld k9 k10
    go_wp2
    go_ret
    exact ⟨rfl,HK9.out⟩
 ·have ek:((1:Nat):Int)+1=2:=rfl
  rw [ek] at HFD
  go_wp2_with fail
  refine (HSM.out _).mono ?_
  rintro e6 w6 ⟨v,rfl,hv,rfl⟩
  have HRL:Hid (∀W,Calls Tryz.prog 25 #[.int .i64 (r:Int),.int .i64 x,.int .i64 v] W fun e w'=>e=.returned (.bool (relS r x v))∧w'=W):=fun W=>related_any r x v W (by omega) (by omega)
  have HWS:Hid (wso r 2 x y z=((arS 2 y z).2&&relS r x v)):=by
   show _=_
   unfold wso
   cases ho:(arS 2 y z).2 with
   | false=>rfl
   | true=>rw [hv ho]
  generalize (arS 2 y z).2=okb at *
  generalize relS (r:Int) x v=sob at *
  generalize wso r 2 x y z=wsb at *
  clear hv HSP HSM HPD
  go_wp2_with fail
  refine (HRL.out _).mono ?_
  rintro e7 w7 ⟨rfl,rfl⟩
  go_wp2_with fail
  refine (HFD.out _ (Kp.refl _ _)).mono ?_
  rintro e8 w8 ⟨mv,rfl,hmo,hsz,hk8⟩
  have HK8:Hid (Nw w w8):=HKW.out.trans' hk8 (fun b hb e=>by have:=HNR.out.x;have:=HK0S.out;omega)
  have HMO:Hid (w8.ownsRow w7.heap.size 70 6 mv (if wsb=true then 1 else 0) (mtsC (if wsb=true then [⟨0,0,-1,-1,-1,-1⟩] else []))):=hmo
  clear hmo hk8 HFD HRL
  cases okb with
  | false =>
   have hw:=HWS.out
   simp only [Bool.false_and] at hw
   subst hw
   have hm:=HMO.out
   rw [if_neg (by simp)] at hm
   obtain ⟨mp,mc,rfl⟩:=ownsLenX hm
   clear hm
   go_wp2
   go_ret
   exact ⟨rfl,HK8.out⟩
  | true =>
   have hw:=HWS.out
   simp only [Bool.true_and] at hw
   subst hw
   cases wsb with
   | false =>
    have hm:=HMO.out
    rw [if_neg (by simp)] at hm
    obtain ⟨mp,mc,rfl⟩:=ownsLenX hm
    clear hm
    go_wp2
    go_ret
    exact ⟨rfl,HK8.out⟩
   | true =>
    have hm:=HMO.out
    rw [if_pos rfl,if_pos rfl] at hm
    obtain ⟨gm,cm,rfl⟩:=owns_some hm (by omega)
    have u1:∀W,Nw w8 W→W.cell? ⟨gm,0,none⟩=some (.int .i64 0)∧W.cell? ⟨gm,1,none⟩=some (.int .i64 0)∧W.cell? ⟨gm,2,none⟩=some (.int .i64 (-1))∧W.cell? ⟨gm,3,none⟩=some (.int .i64 (-1))∧W.cell? ⟨gm,4,none⟩=some (.int .i64 (-1))∧W.cell? ⟨gm,5,none⟩=some (.int .i64 (-1)):=fun W kW=>by
     have ho:=owns_kp hm kW (fun _ _ h=>h)
     exact ⟨owns_cell ho 0 rfl,owns_cell ho 1 rfl,owns_cell ho 2 rfl,owns_cell ho 3 rfl,owns_cell ho 4 rfl,owns_cell ho 5 rfl⟩
    have hgm:gm<w8.heap.size:=(hm.lt gm rfl).2
    have HNO:Hid (∀W,Calls Tryz.prog 27 #[] W fun e w'=>e=.returned (.agg #[.int .i64 (-1),.int .i64 (-1),.int .i64 (-1),.int .i64 (-1)])∧Nw W w'):=none_any
    have heq:=eq_none
    clear hm
    go_wp2
    refine wp_region_held_drew (S:=fun W=>Nw w8 W) (by kernel_rfl) ((Kp.refl _ _).drew) (fun hHeld => ?_)
    refine takeL (i:=0) (v := ?_) rfl (by kernel_rfl) (by kernel_rfl) (by kernel_rfl) (fun _ _ _ h=>h) (Or.inl ⟨by rfl,fun W hSW => ?y0⟩) hHeld ?_
    case y0=>(try dsimp only at hSW);go_simp;rw []
    simp only [Act.put,sA,sZ,sS]
    refine takeL (i:=1) (v := ?_) rfl (by kernel_rfl) (by kernel_rfl) (by kernel_rfl) (fun _ _ _ h=>h) (Or.inl ⟨by rfl,fun W hSW => ?y1⟩) hHeld ?_
    case y1=>(try dsimp only at hSW);go_simp;rw []
    simp only [Act.put,sA,sZ,sS]
    refine takeL (i:=2) (v := ?_) rfl (by kernel_rfl) (by kernel_rfl) (by kernel_rfl) (fun _ _ _ h=>h) (Or.inl ⟨by rfl,fun W hSW => ?y2⟩) hHeld ?_
    case y2=>(try dsimp only at hSW);go_simp;rw []
    simp only [Act.put,sA,sZ,sS]
    refine takeL (i:=3) (v := ?_) rfl (by kernel_rfl) (by kernel_rfl) (by kernel_rfl) (fun _ _ _ h=>h) (Or.inl ⟨by rfl,fun W hSW => ?y3⟩) hHeld ?_
    case y3=>(try dsimp only at hSW);go_simp;rw []
    simp only [Act.put,sA,sZ,sS]
    refine takeL (i:=4) (v := ?_) rfl (by kernel_rfl) (by kernel_rfl) (by kernel_rfl) (fun _ _ _ h=>h) (Or.inl ⟨by rfl,fun W hSW => ?y4⟩) hHeld ?_
    case y4=>(try dsimp only at hSW);go_simp;rw []
    simp only [Act.put,sA,sZ,sS]
    refine takeL (i:=5) (v := ?_) rfl (by kernel_rfl) (by kernel_rfl) (by kernel_rfl) (fun _ _ _ h=>h) (Or.inl ⟨by rfl,fun W hSW => ?y5⟩) hHeld ?_
    case y5=>(try dsimp only at hSW);go_simp;rw []
    simp only [Act.put,sA,sZ,sS]
    refine takeL (i:=6) (v := ?_) rfl (by kernel_rfl) (by kernel_rfl) (by kernel_rfl) (fun _ _ _ h=>h) (Or.inl ⟨by rfl,fun W hSW => ?y6⟩) hHeld ?_
    case y6=>(try dsimp only at hSW);go_simp;rw []
    simp only [Act.put,sA,sZ,sS]
    refine wpAnyH_ready (rs:=[7]) (by kernel_rfl) (by simp) ?_
    refine consL rfl (fun K hK => ?_) AllReadyH.nil
    go_simp
    refine (HNO.out _).mono ?_
    rintro e9 w9 ⟨rfl,k9⟩
    have k10:Nw w8 w9:=((Kp.refl _ _).drew).trans k9
    try dsimp only
    refine hK.out _ _ k10 (fun _ => ?_)
    clear hK K
    try simp only [Act.put,sA,sZ,sS]
    refine takeL (i:=8) (v := ?_) rfl (by kernel_rfl) (by kernel_rfl) (by kernel_rfl) (fun _ _ _ h=>h) (Or.inl ⟨by rfl,fun W hSW => ?y8⟩) k10 ?_
    case y8=>(try dsimp only at hSW);go_simp;rw []
    simp only [Act.put,sA,sZ,sS]
    refine takeL (i:=9) (v := ?_) rfl (by kernel_rfl) (by kernel_rfl) (by kernel_rfl) (fun _ _ _ h=>h) (Or.inl ⟨by rfl,fun W hSW => ?y9⟩) k10 ?_
    case y9=>(try dsimp only at hSW);go_simp;rw []
    simp only [Act.put,sA,sZ,sS]
    refine takeL (i:=10) (v := ?_) rfl (by kernel_rfl) (by kernel_rfl) (by kernel_rfl) (fun _ _ _ h=>h) (Or.inl ⟨by rfl,fun W hSW => ?y10⟩) k10 ?_
    case y10=>(try dsimp only at hSW);go_simp;rw []
    simp only [Act.put,sA,sZ,sS]
    refine takeL (i:=11) (v := ?_) rfl (by kernel_rfl) (by kernel_rfl) (by kernel_rfl) (fun _ _ _ h=>h) (Or.inl ⟨by rfl,fun W hSW => ?y11⟩) k10 ?_
    case y11=>(try dsimp only at hSW);go_simp;rw []
    simp only [Act.put,sA,sZ,sS]
    refine wpAnyH_done (by kernel_rfl) ?_ _
    have HK9:Hid (Nw w w9):=HK8.out.trans k10
    clear u1 hHeld k9 k10
    go_wp2
    go_ret
    exact ⟨rfl,HK9.out⟩
 ·have ek:((2:Nat):Int)+1=3:=rfl
  rw [ek] at HFD
  go_wp2_with fail
  refine (HPD.out _).mono ?_
  rintro e6 w6 ⟨v,rfl,hv,rfl⟩
  have HRL:Hid (∀W,Calls Tryz.prog 25 #[.int .i64 (r:Int),.int .i64 x,.int .i64 v] W fun e w'=>e=.returned (.bool (relS r x v))∧w'=W):=fun W=>related_any r x v W (by omega) (by omega)
  have HWS:Hid (wso r 3 x y z=((arS 3 y z).2&&relS r x v)):=by
   show _=_
   unfold wso
   cases ho:(arS 3 y z).2 with
   | false=>rfl
   | true=>rw [hv ho]
  generalize (arS 3 y z).2=okb at *
  generalize relS (r:Int) x v=sob at *
  generalize wso r 3 x y z=wsb at *
  clear hv HSP HSM HPD
  go_wp2_with fail
  refine (HRL.out _).mono ?_
  rintro e7 w7 ⟨rfl,rfl⟩
  go_wp2_with fail
  refine (HFD.out _ (Kp.refl _ _)).mono ?_
  rintro e8 w8 ⟨mv,rfl,hmo,hsz,hk8⟩
  have HK8:Hid (Nw w w8):=HKW.out.trans' hk8 (fun b hb e=>by have:=HNR.out.x;have:=HK0S.out;omega)
  have HMO:Hid (w8.ownsRow w7.heap.size 70 6 mv (if wsb=true then 1 else 0) (mtsC (if wsb=true then [⟨0,0,-1,-1,-1,-1⟩] else []))):=hmo
  clear hmo hk8 HFD HRL
  cases okb with
  | false =>
   have hw:=HWS.out
   simp only [Bool.false_and] at hw
   subst hw
   have hm:=HMO.out
   rw [if_neg (by simp)] at hm
   obtain ⟨mp,mc,rfl⟩:=ownsLenX hm
   clear hm
   go_wp2
   go_ret
   exact ⟨rfl,HK8.out⟩
  | true =>
   have hw:=HWS.out
   simp only [Bool.true_and] at hw
   subst hw
   cases wsb with
   | false =>
    have hm:=HMO.out
    rw [if_neg (by simp)] at hm
    obtain ⟨mp,mc,rfl⟩:=ownsLenX hm
    clear hm
    go_wp2
    go_ret
    exact ⟨rfl,HK8.out⟩
   | true =>
    have hm:=HMO.out
    rw [if_pos rfl,if_pos rfl] at hm
    obtain ⟨gm,cm,rfl⟩:=owns_some hm (by omega)
    have u1:∀W,Nw w8 W→W.cell? ⟨gm,0,none⟩=some (.int .i64 0)∧W.cell? ⟨gm,1,none⟩=some (.int .i64 0)∧W.cell? ⟨gm,2,none⟩=some (.int .i64 (-1))∧W.cell? ⟨gm,3,none⟩=some (.int .i64 (-1))∧W.cell? ⟨gm,4,none⟩=some (.int .i64 (-1))∧W.cell? ⟨gm,5,none⟩=some (.int .i64 (-1)):=fun W kW=>by
     have ho:=owns_kp hm kW (fun _ _ h=>h)
     exact ⟨owns_cell ho 0 rfl,owns_cell ho 1 rfl,owns_cell ho 2 rfl,owns_cell ho 3 rfl,owns_cell ho 4 rfl,owns_cell ho 5 rfl⟩
    have hgm:gm<w8.heap.size:=(hm.lt gm rfl).2
    have HNO:Hid (∀W,Calls Tryz.prog 27 #[] W fun e w'=>e=.returned (.agg #[.int .i64 (-1),.int .i64 (-1),.int .i64 (-1),.int .i64 (-1)])∧Nw W w'):=none_any
    have heq:=eq_none
    clear hm
    go_wp2
    refine wp_region_held_drew (S:=fun W=>Nw w8 W) (by kernel_rfl) ((Kp.refl _ _).drew) (fun hHeld => ?_)
    refine takeL (i:=0) (v := ?_) rfl (by kernel_rfl) (by kernel_rfl) (by kernel_rfl) (fun _ _ _ h=>h) (Or.inl ⟨by rfl,fun W hSW => ?y0⟩) hHeld ?_
    case y0=>(try dsimp only at hSW);go_simp;rw []
    simp only [Act.put,sA,sZ,sS]
    refine takeL (i:=1) (v := ?_) rfl (by kernel_rfl) (by kernel_rfl) (by kernel_rfl) (fun _ _ _ h=>h) (Or.inl ⟨by rfl,fun W hSW => ?y1⟩) hHeld ?_
    case y1=>(try dsimp only at hSW);go_simp;rw []
    simp only [Act.put,sA,sZ,sS]
    refine takeL (i:=2) (v := ?_) rfl (by kernel_rfl) (by kernel_rfl) (by kernel_rfl) (fun _ _ _ h=>h) (Or.inl ⟨by rfl,fun W hSW => ?y2⟩) hHeld ?_
    case y2=>(try dsimp only at hSW);go_simp;rw []
    simp only [Act.put,sA,sZ,sS]
    refine takeL (i:=3) (v := ?_) rfl (by kernel_rfl) (by kernel_rfl) (by kernel_rfl) (fun _ _ _ h=>h) (Or.inl ⟨by rfl,fun W hSW => ?y3⟩) hHeld ?_
    case y3=>(try dsimp only at hSW);go_simp;rw []
    simp only [Act.put,sA,sZ,sS]
    refine takeL (i:=4) (v := ?_) rfl (by kernel_rfl) (by kernel_rfl) (by kernel_rfl) (fun _ _ _ h=>h) (Or.inl ⟨by rfl,fun W hSW => ?y4⟩) hHeld ?_
    case y4=>(try dsimp only at hSW);go_simp;rw []
    simp only [Act.put,sA,sZ,sS]
    refine takeL (i:=5) (v := ?_) rfl (by kernel_rfl) (by kernel_rfl) (by kernel_rfl) (fun _ _ _ h=>h) (Or.inl ⟨by rfl,fun W hSW => ?y5⟩) hHeld ?_
    case y5=>(try dsimp only at hSW);go_simp;rw []
    simp only [Act.put,sA,sZ,sS]
    refine takeL (i:=6) (v := ?_) rfl (by kernel_rfl) (by kernel_rfl) (by kernel_rfl) (fun _ _ _ h=>h) (Or.inl ⟨by rfl,fun W hSW => ?y6⟩) hHeld ?_
    case y6=>(try dsimp only at hSW);go_simp;rw []
    simp only [Act.put,sA,sZ,sS]
    refine wpAnyH_ready (rs:=[7]) (by kernel_rfl) (by simp) ?_
    refine consL rfl (fun K hK => ?_) AllReadyH.nil
    go_simp
    refine (HNO.out _).mono ?_
    rintro e9 w9 ⟨rfl,k9⟩
    have k10:Nw w8 w9:=((Kp.refl _ _).drew).trans k9
    try dsimp only
    refine hK.out _ _ k10 (fun _ => ?_)
    clear hK K
    try simp only [Act.put,sA,sZ,sS]
    refine takeL (i:=8) (v := ?_) rfl (by kernel_rfl) (by kernel_rfl) (by kernel_rfl) (fun _ _ _ h=>h) (Or.inl ⟨by rfl,fun W hSW => ?y8⟩) k10 ?_
    case y8=>(try dsimp only at hSW);go_simp;rw []
    simp only [Act.put,sA,sZ,sS]
    refine takeL (i:=9) (v := ?_) rfl (by kernel_rfl) (by kernel_rfl) (by kernel_rfl) (fun _ _ _ h=>h) (Or.inl ⟨by rfl,fun W hSW => ?y9⟩) k10 ?_
    case y9=>(try dsimp only at hSW);go_simp;rw []
    simp only [Act.put,sA,sZ,sS]
    refine takeL (i:=10) (v := ?_) rfl (by kernel_rfl) (by kernel_rfl) (by kernel_rfl) (fun _ _ _ h=>h) (Or.inl ⟨by rfl,fun W hSW => ?y10⟩) k10 ?_
    case y10=>(try dsimp only at hSW);go_simp;rw []
    simp only [Act.put,sA,sZ,sS]
    refine takeL (i:=11) (v := ?_) rfl (by kernel_rfl) (by kernel_rfl) (by kernel_rfl) (fun _ _ _ h=>h) (Or.inl ⟨by rfl,fun W hSW => ?y11⟩) k10 ?_
    case y11=>(try dsimp only at hSW);go_simp;rw []
    simp only [Act.put,sA,sZ,sS]
    refine wpAnyH_done (by kernel_rfl) ?_ _
    have HK9:Hid (Nw w w9):=HK8.out.trans k10
    clear u1 hHeld k9 k10
    go_wp2
    go_ret
    exact ⟨rfl,HK9.out⟩
end Go.Proofs.YtcboiapggnmpfaaGreat
