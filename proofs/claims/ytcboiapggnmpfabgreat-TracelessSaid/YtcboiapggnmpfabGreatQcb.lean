import Derived.Test.YtcboiapggnmpfabGreatQbz
import Derived.Test.YtcboiapggnmpfabGreatQca
namespace Go.Proofs.YtcboiapggnmpfabGreat
set_option maxRecDepth 100000
set_option maxHeartbeats 4000000
set_option linter.unusedSimpArgs false
set_option linter.unusedVariables false
open Go.RowKit
open Value (int)
open IntKind (i64)
theorem Tryz.sizeE10:(Tryz.prog.info? 73).map (·.size)=some 50:=by kernel_rfl
def spCe (now:Int):List Value:=[.int .i64 (now - 1),.int .i64 0,.int .i64 0,.int .i64 0,.int .i64 0,.int .i64 (-1),.int .i64 0,.int .i64 0,.int .i64 0,.int .i64 0,.int .i64 now,.int .i64 3,.int .i64 0,.int .i64 0,.int .i64 0,.int .i64 now,.int .i64 (-1),.int .i64 0,.int .i64 0,.int .i64 0,.int .i64 now,.int .i64 4,.int .i64 0,.int .i64 0,.int .i64 0,.int .i64 now,.int .i64 0,.int .i64 0,.int .i64 1,.int .i64 0,.int .i64 now,.int .i64 2,.int .i64 0,.int .i64 0,.int .i64 (-1),.int .i64 1000000000000001,.int .i64 0,.int .i64 0,.int .i64 0,.int .i64 0,.int .i64 now,.int .i64 9223372036854775807,.int .i64 0,.int .i64 0,.int .i64 0,.int .i64 (-9223372036854775808),.int .i64 0,.int .i64 0,.int .i64 0,.int .i64 0]
theorem spo_one (now:Int):∀u∈spCe now,u.oneCell'=true:=by
 intro u hu
 simp only [spCe,List.mem_cons,List.not_mem_nil,or_false] at hu
 have:∃n:Int,u=.int .i64 n:=by
  rcases hu with h|h|h|h|h|h|h|h|h|h|h|h|h|h|h|h|h|h|h|h|h|h|h|h|h|h|h|h|h|h|h|h|h|h|h|h|h|h|h|h|h|h|h|h|h|h|h|h|h|h <;> first|exact ⟨_,h⟩
 obtain ⟨n,rfl⟩:=this
 rfl
theorem spCe_at (now:Int) (k:Nat) (hk:k<10) {e:Evt} (he:(spL now)[k]? = some e):(spCe now)[k*5]? = some (.int .i64 e.at')∧(spCe now)[k*5+1]? = some (.int .i64 e.kind)∧(spCe now)[k*5+2]? = some (.int .i64 e.x)∧(spCe now)[k*5+3]? = some (.int .i64 e.y)∧(spCe now)[k*5+4]? = some (.int .i64 e.z):=by
 rcases (show k=0∨k=1∨k=2∨k=3∨k=4∨k=5∨k=6∨k=7∨k=8∨k=9 by omega) with rfl|rfl|rfl|rfl|rfl|rfl|rfl|rfl|rfl|rfl <;> (cases he;exact ⟨rfl,rfl,rfl,rfl,rfl⟩)
theorem size_spC (now:Int):(Tryz.prog.info? 73).map (·.size)=some (spCe now).toArray.size:=by
 have e:(spCe now).toArray.size=50:=by simp [spCe]
 rw [e];exact Tryz.sizeE10
theorem spoilt_any (c now:Int) (w:World) (hc:In64 c) (h0:0≤now) (h1:now≤100000):Calls Tryz.prog 20 #[.int .i64 c,.int .i64 now] w fun r w'=>∃e,r=.returned (.agg #[.int .i64 e.at',.int .i64 e.kind,.int .i64 e.x,.int .i64 e.y,.int .i64 e.z])∧EvOk e∧(e.at'<now∨goodE (bI ⟨#[49,49,49]⟩) e=false)∧Nw w w':=by
 have HP:Hid (∀W,Calls Tryz.prog 14 #[.int .i64 c,.int .i64 10] W fun e w'=>e=.returned (.int .i64 (pickK c 10))∧w'=W):=fun W=>pickK_any c 10 W hc (by omega) (by omega)
 obtain ⟨k,hk⟩:∃k:Nat,pickK c 10=k:=⟨(pickK c 10).toNat,by have:=pickK_lt (c:=c) (n:=10) (by omega);omega⟩
 have hk10:k<10:=by have:=pickK_lt (c:=c) (n:=10) (by omega);omega
 rw [hk] at HP
 obtain ⟨e,he,hok,hbad⟩:=sp_bad now h0 h1 k hk10
 have HOK:Hid (EvOk e∧(e.at'<now∨goodE (bI ⟨#[49,49,49]⟩) e=false)):=⟨hok,hbad⟩
 obtain ⟨dd,hu,hd⟩:=Option.map_eq_some_iff.1 Tryz.rowEv2
 have hB0:Bx ((w.alloc (.cells #[.int .i64 0,.int .i64 0,.int .i64 0,.int .i64 0,.int .i64 0] 47)).alloc (.cells #[int i64 0,int i64 0,int i64 0,int i64 0,int i64 0,int i64 0,int i64 0,int i64 0,int i64 0,int i64 0,int i64 0,int i64 0,int i64 0,int i64 0,int i64 0,int i64 0,int i64 0,int i64 0,int i64 0,int i64 0,int i64 0,int i64 0,int i64 0,int i64 0,int i64 0,int i64 0,int i64 0,int i64 0,int i64 0,int i64 0,int i64 0,int i64 0,int i64 0,int i64 0,int i64 0,int i64 0,int i64 0,int i64 0,int i64 0,int i64 0,int i64 0,int i64 0,int i64 0,int i64 0,int i64 0,int i64 0,int i64 0,int i64 0,int i64 0,int i64 0] 73)) (w.heap.size+1) (List.replicate 50 (.int .i64 0)):=by
  have:=Bx.new (w.alloc (.cells #[.int .i64 0,.int .i64 0,.int .i64 0,.int .i64 0,.int .i64 0] 47)) (List.replicate 50 (.int .i64 0)) 73
  rwa [show (w.alloc (.cells #[.int .i64 0,.int .i64 0,.int .i64 0,.int .i64 0,.int .i64 0] 47)).heap.size=w.heap.size+1 by simp] at this
 have hl50:(List.replicate 50 (int .i64 0)).length=(spCe now).length:=rfl
 have HT50:Hid (((w.alloc (.cells #[.int .i64 0,.int .i64 0,.int .i64 0,.int .i64 0,.int .i64 0] 47)).alloc (.cells #[int i64 0,int i64 0,int i64 0,int i64 0,int i64 0,int i64 0,int i64 0,int i64 0,int i64 0,int i64 0,int i64 0,int i64 0,int i64 0,int i64 0,int i64 0,int i64 0,int i64 0,int i64 0,int i64 0,int i64 0,int i64 0,int i64 0,int i64 0,int i64 0,int i64 0,int i64 0,int i64 0,int i64 0,int i64 0,int i64 0,int i64 0,int i64 0,int i64 0,int i64 0,int i64 0,int i64 0,int i64 0,int i64 0,int i64 0,int i64 0,int i64 0,int i64 0,int i64 0,int i64 0,int i64 0,int i64 0,int i64 0,int i64 0,int i64 0,int i64 0] 73)).there (w.heap.size+1) 0 (spCe now).toArray.size):=hB0.there hl50
 have HB1:Hid (Bx (((w.alloc (.cells #[.int .i64 0,.int .i64 0,.int .i64 0,.int .i64 0,.int .i64 0] 47)).alloc (.cells #[int i64 0,int i64 0,int i64 0,int i64 0,int i64 0,int i64 0,int i64 0,int i64 0,int i64 0,int i64 0,int i64 0,int i64 0,int i64 0,int i64 0,int i64 0,int i64 0,int i64 0,int i64 0,int i64 0,int i64 0,int i64 0,int i64 0,int i64 0,int i64 0,int i64 0,int i64 0,int i64 0,int i64 0,int i64 0,int i64 0,int i64 0,int i64 0,int i64 0,int i64 0,int i64 0,int i64 0,int i64 0,int i64 0,int i64 0,int i64 0,int i64 0,int i64 0,int i64 0,int i64 0,int i64 0,int i64 0,int i64 0,int i64 0,int i64 0,int i64 0] 73)).setCells (w.heap.size+1) 0 (spCe now).toArray.toList) (w.heap.size+1) (spCe now)):=hB0.put hl50
 have HBZ:Hid (Bx (((w.alloc (.cells #[.int .i64 0,.int .i64 0,.int .i64 0,.int .i64 0,.int .i64 0] 47)).alloc (.cells #[int i64 0,int i64 0,int i64 0,int i64 0,int i64 0,int i64 0,int i64 0,int i64 0,int i64 0,int i64 0,int i64 0,int i64 0,int i64 0,int i64 0,int i64 0,int i64 0,int i64 0,int i64 0,int i64 0,int i64 0,int i64 0,int i64 0,int i64 0,int i64 0,int i64 0,int i64 0,int i64 0,int i64 0,int i64 0,int i64 0,int i64 0,int i64 0,int i64 0,int i64 0,int i64 0,int i64 0,int i64 0,int i64 0,int i64 0,int i64 0,int i64 0,int i64 0,int i64 0,int i64 0,int i64 0,int i64 0,int i64 0,int i64 0,int i64 0,int i64 0] 73)).setCells (w.heap.size+1) 0 (spCe now).toArray.toList) w.heap.size [.int .i64 0,.int .i64 0,.int .i64 0,.int .i64 0,.int .i64 0]):=((Bx.new w [.int .i64 0,.int .i64 0,.int .i64 0,.int .i64 0,.int .i64 0] 47).kp (by simp) ((Kp.refl (fun _=>False) _).alloc _) (fun h=>h)).kp (by simp) (kp_setCells _ 0 _) (by simp)
 have HKW:Hid (Nw w (((w.alloc (.cells #[.int .i64 0,.int .i64 0,.int .i64 0,.int .i64 0,.int .i64 0] 47)).alloc (.cells #[int i64 0,int i64 0,int i64 0,int i64 0,int i64 0,int i64 0,int i64 0,int i64 0,int i64 0,int i64 0,int i64 0,int i64 0,int i64 0,int i64 0,int i64 0,int i64 0,int i64 0,int i64 0,int i64 0,int i64 0,int i64 0,int i64 0,int i64 0,int i64 0,int i64 0,int i64 0,int i64 0,int i64 0,int i64 0,int i64 0,int i64 0,int i64 0,int i64 0,int i64 0,int i64 0,int i64 0,int i64 0,int i64 0,int i64 0,int i64 0,int i64 0,int i64 0,int i64 0,int i64 0,int i64 0,int i64 0,int i64 0,int i64 0,int i64 0,int i64 0] 73)).setCells (w.heap.size+1) 0 (spCe now).toArray.toList)):=(((Kp.refl _ w).alloc _).alloc _).trans' (kp_setCells _ 0 _) (by intro b hb h;omega)
 obtain ⟨s0,s1,s2,s3,s4⟩:=spCe_at now k hk10 he
 have d0:=HB1.out.cell s0
 have d1:=HB1.out.cell s1
 have d2:=HB1.out.cell s2
 have d3:=HB1.out.cell s3
 have d4:=HB1.out.cell s4
 have hki:(k:Int)<10:=by omega
 have HN1:Hid (wrap64 (now - 1)=now - 1):=wrap64_eq (by unfold In64;omega)
 clear hk he hok hbad HB1 hB0 hl50 s0 s1 s2 s3 s4
 go_enter Tryz.func20,Tryz.ntmps20
 go_wp2_with (first|(with_reducible (show Go.wpList _ _ _ ({ dst:=_,op:=Op.store 73 _ _,type:=_,pos:=_,after:=_,guard:=_ }::_) _ _);refine wpList_store_mid rfl 73 _ _ rfl (w.heap.size+1) 0 (spCe now).toArray rfl rfl HT50.out (size_spC now) (all_oneCell_toArray (spo_one now)) ?_;generalize ((w.alloc (.cells #[.int .i64 0,.int .i64 0,.int .i64 0,.int .i64 0,.int .i64 0] 47)).alloc (.cells #[int i64 0,int i64 0,int i64 0,int i64 0,int i64 0,int i64 0,int i64 0,int i64 0,int i64 0,int i64 0,int i64 0,int i64 0,int i64 0,int i64 0,int i64 0,int i64 0,int i64 0,int i64 0,int i64 0,int i64 0,int i64 0,int i64 0,int i64 0,int i64 0,int i64 0,int i64 0,int i64 0,int i64 0,int i64 0,int i64 0,int i64 0,int i64 0,int i64 0,int i64 0,int i64 0,int i64 0,int i64 0,int i64 0,int i64 0,int i64 0,int i64 0,int i64 0,int i64 0,int i64 0,int i64 0,int i64 0,int i64 0,int i64 0,int i64 0,int i64 0] 73)).setCells (w.heap.size+1) 0 (spCe now).toArray.toList=W1 at *)|fail)
 refine (HP.out _).mono ?_
 rintro e1 w1 ⟨rfl,rfl⟩
 have z0:=HBZ.out.cell (k:=0) (v:=.int .i64 0) rfl
 have z1:=HBZ.out.cell (k:=1) (v:=.int .i64 0) rfl
 have z2:=HBZ.out.cell (k:=2) (v:=.int .i64 0) rfl
 have z3:=HBZ.out.cell (k:=3) (v:=.int .i64 0) rfl
 have z4:=HBZ.out.cell (k:=4) (v:=.int .i64 0) rfl
 have hfz:=HBZ.out.z
 go_wp2
 refine bodyPost_ret (v:=.agg #[.int .i64 e.at',.int .i64 e.kind,.int .i64 e.x,.int .i64 e.y,.int .i64 e.z]) (results_cX Tryz.results20 _ _ _ ⟨w.heap.size,0,none⟩ rfl _ (run_loadVar_mid _ w.heap.size 0 47 (evC5 e) dd ?_ hu hd Tryz.sizeEv2)) rfl ?_
 ·exact (((((HBZ.out.set 0 (.int .i64 e.at')).set 1 (.int .i64 e.kind)).set 2 (.int .i64 e.x)).set 3 (.int .i64 e.y)).set 4 (.int .i64 e.z)).r
 ·refine ⟨e,rfl,HOK.out.1,HOK.out.2,?_⟩
  exact ((((HKW.out.setCell (p:=⟨w.heap.size,0,none⟩) (Or.inl (Nat.le_refl _)) _).setCell (p:=⟨w.heap.size,1,none⟩) (Or.inl (Nat.le_refl _)) _).setCell (p:=⟨w.heap.size,2,none⟩) (Or.inl (Nat.le_refl _)) _).setCell (p:=⟨w.heap.size,3,none⟩) (Or.inl (Nat.le_refl _)) _).setCell (p:=⟨w.heap.size,4,none⟩) (Or.inl (Nat.le_refl _)) _
theorem spoilt_ok:SpoiltOk:=fun c now w hc h0 h1=>spoilt_any c now w hc h0 h1
theorem traceless_holds:Rows.TracelessSaid:=traceless_of spoilt_ok
#print axioms traceless_holds
end Go.Proofs.YtcboiapggnmpfabGreat
