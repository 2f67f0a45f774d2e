import Derived.Test.YtcboiapggnmpfaaGreatDoorQam
import Derived.Test.YtcboiapggnmpfaaGreatDoorQal
import Derived.Test.YtcboiapggnmpfaaGreatDoorQad
namespace Go.Proofs.YtcboiapggnmpfaaGreatDoor
set_option maxRecDepth 100000
set_option maxHeartbeats 4000000
set_option linter.unusedSimpArgs false
set_option linter.unusedVariables false
open Go.RowKit
open Value (int)
open IntKind (i64)
theorem size_thA (t:Thr):(Tryz.prog.info? 129).map (·.size)=some (thC t).toArray.size:=by rw [List.size_toArray,thC_len];exact Tryz.sizeTh
theorem load_th {w:World} {B:Nat} {t:Thr} (h:w.rangeAt B 0 (thC t)):(loadVar 129 ⟨B,0,none⟩).run Tryz.prog w=.ok (.agg (thC t).toArray) w:=by
 obtain ⟨dd,hu,hd⟩:=Option.map_eq_some_iff.1 Tryz.rowTh
 exact run_loadVar_mid w B 0 129 (thC t) dd h hu hd (size_th t)
def nz:Nmb:=⟨0,ev0⟩
def th0:Thr:=⟨0,0,0,nz,nz,nz,nz⟩
theorem zerosTh:(thC th0).toArray=#[int i64 0,int i64 0,int i64 0,int i64 0,int i64 0,int i64 0,int i64 0,int i64 0,int i64 0,int i64 0,int i64 0,int i64 0,int i64 0,int i64 0,int i64 0,int i64 0,int i64 0,int i64 0,int i64 0,int i64 0,int i64 0,int i64 0,int i64 0,int i64 0,int i64 0,int i64 0,int i64 0]:=rfl
def ntF (a n b:Int) (i:Nat):Thr:=⟨a,n,b,if 0<i then nmb0 else nz,if 1<i then nmb0 else nz,if 2<i then nmb0 else nz,if 3<i then nmb0 else nz⟩
theorem ntF_next (a n b:Int) (i:Nat) (hi:i<4):(thC (ntF a n b i)).set (3+i*6) (.int .i64 (-1))=thC (ntF a n b (i+1)):=by
 match i,hi with
 | 0,_=>rfl
 | 1,_=>rfl
 | 2,_=>rfl
 | 3,_=>rfl
theorem newThread_any (a:Int) (e:Nmb) (w:World) :
  Calls Tryz.prog 86 #[.int .i64 a,nmV e] w fun r w'=>r=.returned (.agg (thC (newT a e)).toArray)∧Nw w w':=by
 obtain ⟨n,⟨ea,ek,ex,ey,ez⟩⟩:=e
 unfold nmV
 simp only
 obtain ⟨dd,hu,hd⟩:=Option.map_eq_some_iff.1 Tryz.rowTh
 have HU:Hid (Tryz.prog.underlying 129=some dd):=hu
 have HD:Hid (dd.isRow=true):=hd
 have HT0:Hid ((((w.alloc (.cells #[.int .i64 n,.int .i64 ea,.int .i64 ek,.int .i64 ex,.int .i64 ey,.int .i64 ez] 126)).alloc (.cells #[int i64 0,int i64 0,int i64 0,int i64 0,int i64 0,int i64 0,int i64 0,int i64 0,int i64 0,int i64 0,int i64 0,int i64 0,int i64 0,int i64 0,int i64 0,int i64 0,int i64 0,int i64 0,int i64 0,int i64 0,int i64 0,int i64 0,int i64 0,int i64 0,int i64 0,int i64 0,int i64 0] 129)).alloc (.cells #[int i64 0,int i64 0,int i64 0,int i64 0,int i64 0,int i64 0,int i64 0,int i64 0,int i64 0,int i64 0,int i64 0,int i64 0,int i64 0,int i64 0,int i64 0,int i64 0,int i64 0,int i64 0,int i64 0,int i64 0,int i64 0,int i64 0,int i64 0,int i64 0,int i64 0,int i64 0,int i64 0] 129)).there (w.heap.size+1+1) 0 (thC (ntF a n ea 0)).toArray.size):=by
  have:=(Bx.new ((w.alloc (.cells #[.int .i64 n,.int .i64 ea,.int .i64 ek,.int .i64 ex,.int .i64 ey,.int .i64 ez] 126)).alloc (.cells #[int i64 0,int i64 0,int i64 0,int i64 0,int i64 0,int i64 0,int i64 0,int i64 0,int i64 0,int i64 0,int i64 0,int i64 0,int i64 0,int i64 0,int i64 0,int i64 0,int i64 0,int i64 0,int i64 0,int i64 0,int i64 0,int i64 0,int i64 0,int i64 0,int i64 0,int i64 0,int i64 0] 129)) (thC th0) 129).there (n:=(thC (ntF a n ea 0)).length) (by rw [thC_len,thC_len])
  rw [zerosTh] at this
  show World.there _ _ _ _
  simpa using this
 have HB5:Hid (Bx ((((w.alloc (.cells #[.int .i64 n,.int .i64 ea,.int .i64 ek,.int .i64 ex,.int .i64 ey,.int .i64 ez] 126)).alloc (.cells #[int i64 0,int i64 0,int i64 0,int i64 0,int i64 0,int i64 0,int i64 0,int i64 0,int i64 0,int i64 0,int i64 0,int i64 0,int i64 0,int i64 0,int i64 0,int i64 0,int i64 0,int i64 0,int i64 0,int i64 0,int i64 0,int i64 0,int i64 0,int i64 0,int i64 0,int i64 0,int i64 0] 129)).alloc (.cells #[int i64 0,int i64 0,int i64 0,int i64 0,int i64 0,int i64 0,int i64 0,int i64 0,int i64 0,int i64 0,int i64 0,int i64 0,int i64 0,int i64 0,int i64 0,int i64 0,int i64 0,int i64 0,int i64 0,int i64 0,int i64 0,int i64 0,int i64 0,int i64 0,int i64 0,int i64 0,int i64 0] 129)).setCells (w.heap.size+1+1) 0 (thC (ntF a n ea 0))) (w.heap.size+1+1) (thC (ntF a n ea 0))):=by
  have:=(Bx.new ((w.alloc (.cells #[.int .i64 n,.int .i64 ea,.int .i64 ek,.int .i64 ex,.int .i64 ey,.int .i64 ez] 126)).alloc (.cells #[int i64 0,int i64 0,int i64 0,int i64 0,int i64 0,int i64 0,int i64 0,int i64 0,int i64 0,int i64 0,int i64 0,int i64 0,int i64 0,int i64 0,int i64 0,int i64 0,int i64 0,int i64 0,int i64 0,int i64 0,int i64 0,int i64 0,int i64 0,int i64 0,int i64 0,int i64 0,int i64 0] 129)) (thC th0) 129).put (vs:=thC (ntF a n ea 0)) (by rw [thC_len,thC_len])
  rw [zerosTh] at this
  show Bx _ _ _
  simpa using this
 have HB4:Hid (Bx ((((w.alloc (.cells #[.int .i64 n,.int .i64 ea,.int .i64 ek,.int .i64 ex,.int .i64 ey,.int .i64 ez] 126)).alloc (.cells #[int i64 0,int i64 0,int i64 0,int i64 0,int i64 0,int i64 0,int i64 0,int i64 0,int i64 0,int i64 0,int i64 0,int i64 0,int i64 0,int i64 0,int i64 0,int i64 0,int i64 0,int i64 0,int i64 0,int i64 0,int i64 0,int i64 0,int i64 0,int i64 0,int i64 0,int i64 0,int i64 0] 129)).alloc (.cells #[int i64 0,int i64 0,int i64 0,int i64 0,int i64 0,int i64 0,int i64 0,int i64 0,int i64 0,int i64 0,int i64 0,int i64 0,int i64 0,int i64 0,int i64 0,int i64 0,int i64 0,int i64 0,int i64 0,int i64 0,int i64 0,int i64 0,int i64 0,int i64 0,int i64 0,int i64 0,int i64 0] 129)).setCells (w.heap.size+1+1) 0 (thC (ntF a n ea 0))) (w.heap.size+1) (thC th0)):=by
  have:=Bx.new (w.alloc (.cells #[.int .i64 n,.int .i64 ea,.int .i64 ek,.int .i64 ex,.int .i64 ey,.int .i64 ez] 126)) (thC th0) 129
  rw [zerosTh] at this
  have h2:=(this.kp (by simp [thC_len]) ((Kp.refl (fun _=>False) _).alloc (.cells #[int i64 0,int i64 0,int i64 0,int i64 0,int i64 0,int i64 0,int i64 0,int i64 0,int i64 0,int i64 0,int i64 0,int i64 0,int i64 0,int i64 0,int i64 0,int i64 0,int i64 0,int i64 0,int i64 0,int i64 0,int i64 0,int i64 0,int i64 0,int i64 0,int i64 0,int i64 0,int i64 0] 129)) (fun h=>h))
  have h3:=h2.kp (by simp [thC_len]) (kp_setCells (g:=w.heap.size+1+1) (thC (ntF a n ea 0)) 0 _) (by simp)
  show Bx _ _ _
  simpa using h3
 have HK0:Hid (Nw w ((((w.alloc (.cells #[.int .i64 n,.int .i64 ea,.int .i64 ek,.int .i64 ex,.int .i64 ey,.int .i64 ez] 126)).alloc (.cells #[int i64 0,int i64 0,int i64 0,int i64 0,int i64 0,int i64 0,int i64 0,int i64 0,int i64 0,int i64 0,int i64 0,int i64 0,int i64 0,int i64 0,int i64 0,int i64 0,int i64 0,int i64 0,int i64 0,int i64 0,int i64 0,int i64 0,int i64 0,int i64 0,int i64 0,int i64 0,int i64 0] 129)).alloc (.cells #[int i64 0,int i64 0,int i64 0,int i64 0,int i64 0,int i64 0,int i64 0,int i64 0,int i64 0,int i64 0,int i64 0,int i64 0,int i64 0,int i64 0,int i64 0,int i64 0,int i64 0,int i64 0,int i64 0,int i64 0,int i64 0,int i64 0,int i64 0,int i64 0,int i64 0,int i64 0,int i64 0] 129)).setCells (w.heap.size+1+1) 0 (thC (ntF a n ea 0)))):=((((Kp.refl _ w).alloc _).alloc _).alloc _).trans' (kp_setCells _ 0 _) (by intro b hb e;omega)
 clear hu hd
 go_enter Tryz.func86,Tryz.ntmps86
 go_wp2_with (first|(with_reducible (show Go.wpList _ _ _ ({ dst:=_,op:=Op.store 129 _ _,type:=_,pos:=_,after:=_,guard:=_ }::_) _ _);refine wpList_store_mid rfl 129 _ _ rfl (w.heap.size+1+1) 0 (thC (ntF a n ea 0)).toArray rfl rfl HT0.out (size_thA _) (all_oneCell_toArray (thC_one _)) ?_)|fail)
 generalize (((w.alloc (.cells #[.int .i64 n,.int .i64 ea,.int .i64 ek,.int .i64 ex,.int .i64 ey,.int .i64 ez] 126)).alloc (.cells #[int i64 0,int i64 0,int i64 0,int i64 0,int i64 0,int i64 0,int i64 0,int i64 0,int i64 0,int i64 0,int i64 0,int i64 0,int i64 0,int i64 0,int i64 0,int i64 0,int i64 0,int i64 0,int i64 0,int i64 0,int i64 0,int i64 0,int i64 0,int i64 0,int i64 0,int i64 0,int i64 0] 129)).alloc (.cells #[int i64 0,int i64 0,int i64 0,int i64 0,int i64 0,int i64 0,int i64 0,int i64 0,int i64 0,int i64 0,int i64 0,int i64 0,int i64 0,int i64 0,int i64 0,int i64 0,int i64 0,int i64 0,int i64 0,int i64 0,int i64 0,int i64 0,int i64 0,int i64 0,int i64 0,int i64 0,int i64 0] 129)).setCells (w.heap.size+1+1) 0 (thC (ntF a n ea 0))=W1 at *
 go_wp2
 go_loopg [6] 4 (fun m v6 wr=>∃i:Nat,v6=.int .i64 i∧m=4 - i∧i≤4∧Bx wr (w.heap.size+1+1) (thC (ntF a n ea i))∧Bx wr (w.heap.size+1) (thC th0)∧Nw w wr)
 case atStart=>exact ⟨0,rfl,rfl,by omega,HB5.out,HB4.out,HK0.out⟩
 case round =>
  obtain ⟨i,rfl,hm,hi,hb5,hb4,hk⟩:=hrel
  have HM:Hid (_=4 - i):=hm
  have H5:Hid (Bx wr (w.heap.size+1+1) (thC (ntF a n ea i))):=hb5
  have H4:Hid (Bx wr (w.heap.size+1) (thC th0)):=hb4
  have HK:Hid (Nw w wr):=hk
  clear hm hb5 hb4 hk HB5 HB4 HK0 HT0
  by_cases hil:i<4
  ·obtain ⟨c,hc⟩:∃c,(thC (ntF a n ea i))[3+i*6]? = some c:=⟨_,List.getElem?_eq_getElem (by rw [thC_len];omega)⟩
   have d0:=H5.out.cell hc
   have d1:=H5.out.z
   clear hc
   go_wp2
   go_roundg (4 - (i+1))
   case measure=>rw [HM.out];omega
   case rel=>exact ⟨i+1,by simp,rfl,by omega,by rw [←ntF_next a n ea i hil];exact H5.out.set _ _,H4.out.kp (by rw [thC_len];omega) ((Kp.refl (fun b=>b=w.heap.size+1+1) wr).setCell (p:=⟨w.heap.size+1+1,3+i*6,none⟩) (Or.inr rfl) _) (by omega),HK.out.setCell (p:=⟨w.heap.size+1+1,3+i*6,none⟩) (Or.inl (by show w.heap.size≤w.heap.size+1+1;omega)) _⟩
  ·have hie:i=4:=by omega
   subst hie
   obtain ⟨T,HTE⟩:∃T,Hid (newT a ⟨n,⟨ea,ek,ex,ey,ez⟩⟩=T):=⟨_,rfl⟩
   have HR:Hid (wr.rangeAt (w.heap.size+1+1) 0 (thC T)):=by show World.rangeAt _ _ _ _;rw [←HTE.out];exact H5.out.r
   have HT:Hid (wr.there (w.heap.size+1) 0 (thC T).toArray.size):=H4.out.there (by rw [List.size_toArray,thC_len,thC_len])
   have HE:Hid ((wr.setCells (w.heap.size+1) 0 (thC T)).rangeAt (w.heap.size+1) 0 (thC T)):=World.rangeAt_setCells_same _ _ _ _ (by have:=HT.out;rwa [List.size_toArray] at this)
   have HKE:Hid (Nw w (wr.setCells (w.heap.size+1) 0 (thC T))):=HK.out.trans' (kp_setCells _ 0 _) (by intro b hb e;omega)
   go_wp2_with (first
    | (with_reducible (show Go.wpList _ _ _ ({ dst:=_,op:=Op.load 129 _,type:=_,pos:=_,after:=_,guard:=_ }::_) _ _);refine wpList_load_mid rfl 129 _ rfl (w.heap.size+1+1) 0 rfl (thC T) dd HR.out HU.out HD.out (size_th T) ?_)
    | (with_reducible (show Go.wpList _ _ _ ({ dst:=_,op:=Op.store 129 _ _,type:=_,pos:=_,after:=_,guard:=_ }::_) _ _);refine wpList_store_mid rfl 129 _ _ rfl (w.heap.size+1) 0 (thC T).toArray rfl rfl HT.out (size_thA _) (all_oneCell_toArray (thC_one _)) ?_)
    | fail)
   refine bodyPost_ret (results_cX Tryz.results86 _ _ _ ⟨w.heap.size+1,0,none⟩ rfl _ (load_th HE.out)) rfl ?_
   exact ⟨by rw [HTE.out],HKE.out⟩
def mtC (m:Mt):List Value:=[.int .i64 m.first,.int .i64 m.last,.int .i64 m.h0,.int .i64 m.h1,.int .i64 m.h2,.int .i64 m.h3]
theorem mtC_len (m:Mt):(mtC m).length=6:=rfl
theorem mtC_one (m:Mt):∀v∈mtC m,v.oneCell'=true:=by
 intro v hv
 simp only [mtC,List.mem_cons,List.not_mem_nil,or_false] at hv
 rcases hv with h|h|h|h|h|h <;> subst h <;> rfl
theorem Tryz.rowMt:(Tryz.prog.underlying 35).map TypeDesc.isRow=some true:=by kernel_rfl
theorem Tryz.sizeMt:(Tryz.prog.info? 35).map (·.size)=some 6:=by kernel_rfl
theorem size_mt (m:Mt):(Tryz.prog.info? 35).map (·.size)=some (mtC m).length:=Tryz.sizeMt
theorem size_mtA (m:Mt):(Tryz.prog.info? 35).map (·.size)=some (mtC m).toArray.size:=Tryz.sizeMt
theorem load_mt {w:World} {B:Nat} {m:Mt} (h:w.rangeAt B 0 (mtC m)):(loadVar 35 ⟨B,0,none⟩).run Tryz.prog w=.ok (.agg (mtC m).toArray) w:=by
 obtain ⟨dd,hu,hd⟩:=Option.map_eq_some_iff.1 Tryz.rowMt
 exact run_loadVar_mid w B 0 35 (mtC m) dd h hu hd (size_mt m)
def mtF (t:Thr) (last:Int) (i:Nat):Mt:=⟨t.first,last,if 0<i then t.h0.n else 0,if 1<i then t.h1.n else 0,if 2<i then t.h2.n else 0,if 3<i then t.h3.n else 0⟩
theorem mtF_next (t:Thr) (last:Int) (i:Nat) (hi:i<4):(mtC (mtF t last i)).set (2+i) (.int .i64 (t.hd i).n)=mtC (mtF t last (i+1)):=by
 match i,hi with
 | 0,_=>rfl
 | 1,_=>rfl
 | 2,_=>rfl
 | 3,_=>rfl
theorem match_any (t:Thr) (last:Int) (w:World) :
  Calls Tryz.prog 87 #[.agg (thC t).toArray,.int .i64 last] w fun r w'=>r=.returned (.agg (mtC (matchT t last)).toArray)∧Nw w w':=by
 obtain ⟨dd,hu,hd⟩:=Option.map_eq_some_iff.1 Tryz.rowMt
 have HU:Hid (Tryz.prog.underlying 35=some dd):=hu
 have HD:Hid (dd.isRow=true):=hd
 have HC:Hid (∀i,i<4→(thC t)[3+i*6]? = some (.int .i64 (t.hd i).n)):=thC_hd t
 have h1:(thC t)[1]? = some (.int .i64 t.first):=rfl
 have HLN:Hid ((thC t).length=27):=thC_len t
 clear hu hd
 generalize thC t=LT at *
 go_enter Tryz.func87,Tryz.ntmps87
 go_wp2
 go_loopg [6] 4 (fun m v6 wr=>∃i:Nat,v6=.int .i64 i∧m=4 - i∧i≤4∧Bx wr w.heap.size LT∧Bx wr (w.heap.size+1+1) (mtC (mtF t last i))∧Bx wr (w.heap.size+1) (mtC ⟨0,0,0,0,0,0⟩)∧Nw w wr)
 case atStart =>
  have k1:0<LT.length:=by rw [HLN.out];omega
  refine ⟨0,rfl,rfl,by omega,?_,?_,?_,(((Kp.refl _ w).alloc _).alloc _).alloc _⟩
  ·exact (Bx.new w LT _).kp k1 (((Kp.refl (fun _=>False) _).alloc _).alloc _) (fun h=>h)
  ·have:=Bx.new ((w.alloc (.cells LT.toArray 129)).alloc (.cells #[int i64 0,int i64 0,int i64 0,int i64 0,int i64 0,int i64 0] 35)) (mtC (mtF t last 0)) 35
   rwa [show ((w.alloc (.cells LT.toArray 129)).alloc (.cells #[int i64 0,int i64 0,int i64 0,int i64 0,int i64 0,int i64 0] 35)).heap.size=w.heap.size+1+1 by simp] at this
  ·have:=(Bx.new (w.alloc (.cells LT.toArray 129)) (mtC ⟨0,0,0,0,0,0⟩) 35).kp (by rw [mtC_len];omega) ((Kp.refl (fun _=>False) _).alloc (.cells #[.int .i64 t.first,.int .i64 last,.int .i64 0,.int .i64 0,.int .i64 0,.int .i64 0] 35)) (fun h=>h)
   rwa [show (w.alloc (.cells LT.toArray 129)).heap.size=w.heap.size+1 by simp] at this
 case round =>
  obtain ⟨i,rfl,hm,hi,hb2,hb5,hb4,hk⟩:=hrel
  have HM:Hid (_=4 - i):=hm
  have H2:Hid (Bx wr w.heap.size LT):=hb2
  have H5:Hid (Bx wr (w.heap.size+1+1) (mtC (mtF t last i))):=hb5
  have H4:Hid (Bx wr (w.heap.size+1) (mtC ⟨0,0,0,0,0,0⟩)):=hb4
  have HK:Hid (Nw w wr):=hk
  clear hm hb5 hb4 hb2 hk h1
  by_cases hil:i<4
  ·obtain ⟨c,hc⟩:∃c,(mtC (mtF t last i))[2+i]? = some c:=⟨_,List.getElem?_eq_getElem (by rw [mtC_len];omega)⟩
   have d0:=H5.out.cell hc
   have d1:=H5.out.z
   have d2:=H2.out.cell (HC.out i hil)
   have HN:Hid ((mtC (mtF t last i)).set (2+i) (.int .i64 (t.hd i).n)=mtC (mtF t last (i+1))):=mtF_next t last i hil
   generalize (t.hd i).n=hn at *
   clear hc
   go_wp2
   go_roundg (4 - (i+1))
   case measure=>rw [HM.out];omega
   case rel=>exact ⟨i+1,by simp,rfl,by omega,H2.out.kp (by rw [HLN.out];omega) ((Kp.refl (fun b=>b=w.heap.size+1+1) wr).setCell (p:=⟨w.heap.size+1+1,2+i,none⟩) (Or.inr rfl) _) (by omega),by rw [←HN.out];exact H5.out.set _ _,H4.out.kp (by rw [mtC_len];omega) ((Kp.refl (fun b=>b=w.heap.size+1+1) wr).setCell (p:=⟨w.heap.size+1+1,2+i,none⟩) (Or.inr rfl) _) (by omega),HK.out.setCell (p:=⟨w.heap.size+1+1,2+i,none⟩) (Or.inl (by show w.heap.size≤w.heap.size+1+1;omega)) _⟩
  ·have hie:i=4:=by omega
   subst hie
   obtain ⟨M,HME⟩:∃M,Hid (matchT t last=M):=⟨_,rfl⟩
   have HR:Hid (wr.rangeAt (w.heap.size+1+1) 0 (mtC M)):=by show World.rangeAt _ _ _ _;rw [←HME.out];exact H5.out.r
   have HT:Hid (wr.there (w.heap.size+1) 0 (mtC M).toArray.size):=H4.out.there (by rw [List.size_toArray,mtC_len,mtC_len])
   have HE:Hid ((wr.setCells (w.heap.size+1) 0 (mtC M)).rangeAt (w.heap.size+1) 0 (mtC M)):=World.rangeAt_setCells_same _ _ _ _ (by have:=HT.out;rwa [List.size_toArray] at this)
   have HKE:Hid (Nw w (wr.setCells (w.heap.size+1) 0 (mtC M))):=HK.out.trans' (kp_setCells _ 0 _) (by intro b hb e;omega)
   go_wp2_with (first
    | (with_reducible (show Go.wpList _ _ _ ({ dst:=_,op:=Op.load 35 _,type:=_,pos:=_,after:=_,guard:=_ }::_) _ _);refine wpList_load_mid rfl 35 _ rfl (w.heap.size+1+1) 0 rfl (mtC M) dd HR.out HU.out HD.out (size_mt M) ?_)
    | (with_reducible (show Go.wpList _ _ _ ({ dst:=_,op:=Op.store 35 _ _,type:=_,pos:=_,after:=_,guard:=_ }::_) _ _);refine wpList_store_mid rfl 35 _ _ rfl (w.heap.size+1) 0 (mtC M).toArray rfl rfl HT.out (size_mtA _) (all_oneCell_toArray (mtC_one _)) ?_)
    | fail)
   refine bodyPost_ret (results_cX Tryz.results87 _ _ _ ⟨w.heap.size+1,0,none⟩ rfl _ (load_mt HE.out)) rfl ?_
   exact ⟨by rw [HME.out],HKE.out⟩
open Value (slice)
theorem owns_setI {w:World} {base g n c i:Nat} {e:TypeId} {xs:List Value} (h:w.ownsRow base e 1 (.slice (some ⟨g,0,none⟩) n c) n xs) (hi:i<n) (v:Value):(w.setCell ⟨g,i,none⟩ v).ownsRow base e 1 (.slice (some ⟨g,0,none⟩) n c) n (xs.set i v):=by
 obtain ⟨h1,h2⟩:=h
 rcases h2 with ⟨h2,_⟩ | ⟨g',cap',cur,h2,hb,h3,h4,h5,h6,h7⟩
 ·simp at h2
 ·simp only [Value.slice.injEq,Option.some.injEq,Addr.mk.injEq,true_and,and_true] at h2
  obtain ⟨rfl,rfl⟩:=h2
  have hr:Row w g e cur.toList:=by rw [Row,h3]
  have hr2:=hr.set i v
  refine ⟨by simp [h1],Or.inr ⟨g,c,(cur.toList.set i v).toArray,rfl,hb,hr2,h4,h5,by simpa using h6,?_⟩⟩
  rw [←h7]
  simp [List.take_set]
theorem owns_froz {w:World} {base g n c size:Nat} {e:TypeId} {xs:List Value} (h:w.ownsRow base e size (.slice (some ⟨g,0,none⟩) n c) n xs) (o:Nat):w.frozen? ⟨g,o,none⟩=false:=by
 obtain ⟨h1,h2⟩:=h
 rcases h2 with ⟨h2,_⟩ | ⟨g',cap',cur,h2,hb,h3,h4,h5,h6,h7⟩
 ·simp at h2
 ·simp only [Value.slice.injEq,Option.some.injEq,Addr.mk.injEq,true_and,and_true] at h2
  obtain ⟨rfl,rfl⟩:=h2
  exact frozen_of_row w g o _ e h3
def folS (a b:Nat):Nat→List Nat→List Nat
 | _,[]=>[]
 | i,x::r=>(if hasS a i=true then x ||| b else x)::folS a b (i+1) r
def followS (F:List Nat) (a b:Nat):List Nat:=folS a b 0 F
theorem folS_len (a b:Nat):∀(F:List Nat) (i:Nat),(folS a b i F).length=F.length:=by
 intro F
 induction F with
 | nil=>intro i;rfl
 | cons x r ih=>intro i;simp [folS,ih]
theorem followS_len (F:List Nat) (a b:Nat):(followS F a b).length=F.length:=folS_len a b F 0
theorem folS_get (a b:Nat):∀(F:List Nat) (i j:Nat) (x:Nat),F[j]? = some x→(folS a b i F)[j]? = some (if hasS a (i+j)=true then x ||| b else x):=by
 intro F
 induction F with
 | nil=>intro i j x h;simp at h
 | cons y r ih =>
  intro i j x h
  cases j with
  | zero=>simp at h;subst h;simp [folS]
  | succ j =>
   simp at h
   have:=ih (i+1) j x h
   simp only [folS,List.getElem?_cons_succ,this]
   have e:i+1+j=i+(j+1):=by omega
   rw [e]
def folTo (F:List Nat) (a b i:Nat):List Nat:=(followS F a b).take i++F.drop i
theorem folTo_zero (F:List Nat) (a b:Nat):folTo F a b 0=F:=by simp [folTo]
theorem folTo_all (F:List Nat) (a b:Nat):folTo F a b F.length=followS F a b:=by
 simp only [folTo,List.drop_length,List.append_nil]
 rw [List.take_of_length_le (by rw [followS_len];exact Nat.le_refl _)]
theorem folTo_len (F:List Nat) (a b i:Nat) (h:i≤F.length):(folTo F a b i).length=F.length:=by simp [folTo,followS_len];omega
theorem folTo_get (F:List Nat) (a b i:Nat) (h:i<F.length):(folTo F a b i)[i]? = F[i]?:=by
 have hl:((followS F a b).take i).length=i:=by simp [followS_len];omega
 rw [folTo,List.getElem?_append_right (by omega),hl]
 simp
theorem folTo_step (F:List Nat) (a b i:Nat) (x:Nat) (h:F[i]? = some x):folTo F a b (i+1)=(folTo F a b i).set i (if hasS a i=true then x ||| b else x):=by
 obtain ⟨hi,hx⟩:=List.getElem?_eq_some_iff.1 h
 have hg:=folS_get a b F 0 i x h
 rw [Nat.zero_add] at hg
 have hg':(followS F a b)[i]? = some (if hasS a i=true then x ||| b else x):=hg
 have hl:((followS F a b).take i).length=i:=by simp [followS_len];omega
 have e1:F.drop i=x::F.drop (i+1):=by rw [List.drop_eq_getElem_cons hi,hx]
 have hi':i<(followS F a b).length:=by rw [followS_len];exact hi
 have e2:(followS F a b).take (i+1)=(followS F a b).take i++[if hasS a i=true then x ||| b else x]:=by
  rw [List.take_add_one,hg'];rfl
 unfold folTo
 rw [e2,e1,List.set_append_right _ _ (by omega),hl,Nat.sub_self]
 simp
theorem folTo_skip (F:List Nat) (a b i:Nat) (h:hasS a i=false) (hi:i<F.length):folTo F a b (i+1)=folTo F a b i:=by
 obtain ⟨x,hx⟩:∃x,F[i]? = some x:=⟨_,List.getElem?_eq_getElem hi⟩
 rw [folTo_step F a b i x hx]
 have hg:=folTo_get F a b i hi
 rw [hx] at hg
 simp only [h]
 apply List.ext_getElem?
 intro j
 by_cases e:j=i
 ·subst e
  rw [List.getElem?_set_self (by rw [folTo_len F a b j (by omega)];exact hi),hg];simp
 ·rw [List.getElem?_set_ne (by omega)]
def Sets (F:List Nat):Prop:=∀x∈F,x<2 ^ 25
theorem folS_sets {a b:Nat} (hb:b<2 ^ 25):∀(F:List Nat) (i:Nat),Sets F→Sets (folS a b i F):=by
 intro F
 induction F with
 | nil=>intro i h;exact h
 | cons x r ih =>
  intro i h y hy
  simp only [folS,List.mem_cons] at hy
  rcases hy with e|e
  ·rw [e]
   split
   ·exact Nat.or_lt_two_pow (h x (by simp)) hb
   ·exact h x (by simp)
  ·exact ih (i+1) (fun z hz=>h z (by simp [hz])) y e
theorem followS_sets {F:List Nat} {a b:Nat} (h:Sets F) (hb:b<2 ^ 25):Sets (followS F a b):=folS_sets hb F 0 h
structure WrM (w:World) (R:Nat) (nv sv fv:Value) (S F:List Nat):Prop where
 c0:w.cell? ⟨R,0,none⟩=some nv
 c1:w.cell? ⟨R,1,none⟩=some sv
 c2:w.cell? ⟨R,2,none⟩=some fv
 z:∀o,w.frozen? ⟨R,o,none⟩=false
 so:w.ownsRow (R+1) 3 1 sv S.length (intsV S)
 fo:w.ownsRow (R+1) 102 1 fv F.length (intsV F)
theorem WrM.lt {w:World} {R:Nat} {nv sv fv:Value} {S F:List Nat} (h:WrM w R nv sv fv S F):R<w.heap.size:=World.block_lt_of_cell? w ⟨R,0,none⟩ h.c0
theorem WrM.nw {w w':World} {R:Nat} {nv sv fv:Value} {S F:List Nat} (h:WrM w R nv sv fv S F) (k:Nw w w'):WrM w' R nv sv fv S F :=
 ⟨(k.cell h.lt (fun h=>h)).trans h.c0,(k.cell h.lt (fun h=>h)).trans h.c1,(k.cell h.lt (fun h=>h)).trans h.c2,fun o=>(k.frozen (p:=⟨R,o,none⟩) h.lt (fun h=>h)).trans (h.z o),owns_kp h.so k (fun _ _ h=>h),owns_kp h.fo k (fun _ _ h=>h)⟩
theorem WrM.fset {w:World} {R g c:Nat} {nv sv:Value} {S F:List Nat} (h:WrM w R nv sv (.slice (some ⟨g,0,none⟩) F.length c) S F) {i:Nat} (hi:i<F.length) (x:Nat):WrM (w.setCell ⟨g,i,none⟩ (.int .i64 x)) R nv sv (.slice (some ⟨g,0,none⟩) F.length c) S (F.set i x):=by
 have hg:=(h.fo.lt g rfl).1
 have kk:Kp (fun b=>b=g) w (w.setCell ⟨g,i,none⟩ (.int .i64 x)):=(Kp.refl (fun b=>b=g) w).setCell (p:=⟨g,i,none⟩) (Or.inr rfl) _
 have hl:=h.lt
 refine ⟨(kk.cell hl (by show ¬R=g;omega)).trans h.c0,(kk.cell hl (by show ¬R=g;omega)).trans h.c1,(kk.cell hl (by show ¬R=g;omega)).trans h.c2,fun o=>(kk.frozen (p:=⟨R,o,none⟩) hl (by show ¬R=g;omega)).trans (h.z o),?_,?_⟩
 ·exact ownsRow_apart (R:=R) h.so h.fo (by decide) (Nat.lt_succ_self R) (kk.mono (fun b _ e=>Or.inr (by rw [e];rfl)))
 ·have:=owns_setI h.fo hi (.int .i64 (x:Int))
  have e1:(F.set i x).length=F.length:=by simp
  have e2:intsV (F.set i x)=(intsV F).set i (.int .i64 (x:Int)):=by simp [intsV,List.map_set]
  rw [e1,e2];exact this
theorem intsV_get {F:List Nat} {i x:Nat} (h:F[i]? = some x):(intsV F)[i]? = some (.int .i64 (x:Int)):=by simp [intsV,h]
theorem follow_any (R a b:Nat) (nv sv fv:Value) (S F:List Nat) (w:World) (h:WrM w R nv sv fv S F) (ha:a<2 ^ 25) (hb:b<2 ^ 25) (hF:Sets F) (hn:F.length≤10000) :
  Calls Tryz.prog 71 #[.pointer (some ⟨R,0,none⟩),.int .i64 a,.int .i64 b] w fun e w'=>e=.returned (.tuple #[])∧WrM w' R nv sv fv S (followS F a b)∧Kp (fun k=>fv.ownBlock=some k) w w':=by
 obtain ⟨fp,fc,rfl⟩:∃p c,fv=.slice p F.length c:=by obtain ⟨p,c,h⟩:=ownsLenX h.fo;exact ⟨p,c,h⟩
 have H:Hid (WrM w R nv sv (.slice fp F.length fc) S F):=h
 have HF:Hid (Sets F):=hF
 have HH:Hid (∀p W,p≤100000→Calls Tryz.prog 76 #[.int .i64 a,.int .i64 (p:Nat)] W fun e w'=>e=.returned (.bool (hasS a p))∧w'=W):=fun p W hp=>hasS_any a p W ha hp
 clear h hF
 go_enter Tryz.func71,Tryz.ntmps71
 go_wp2
 go_loopg [6] F.length (fun m v6 wr=>∃i:Nat,v6=.int .i64 i∧m=F.length - i∧i≤F.length∧WrM wr R nv sv (.slice fp F.length fc) S (folTo F a b i)∧Kp (fun k=>(slice fp F.length fc).ownBlock=some k) w wr)
 case atStart=>exact ⟨0,rfl,rfl,by omega,by rw [folTo_zero];exact H.out,Kp.refl _ _⟩
 case round =>
  obtain ⟨i,rfl,hm,hi,hw,hk⟩:=hrel
  have HM:Hid (_=F.length - i):=hm
  have HW:Hid (WrM wr R nv sv (.slice fp F.length fc) S (folTo F a b i)):=hw
  have HK:Hid (Kp (fun k=>(slice fp F.length fc).ownBlock=some k) w wr):=hk
  have c2:=hw.c2
  have hlt:=hw.lt
  clear hm hk
  by_cases hil:i<F.length
  ·obtain ⟨x,hx⟩:∃x,F[i]? = some x:=⟨_,List.getElem?_eq_getElem hil⟩
   have hxb:=HF.out x (List.mem_of_getElem? hx)
   have hfl:=folTo_len F a b i hi
   have hgo:∃g,fp=some ⟨g,0,none⟩:=by
    obtain ⟨g,cap,e,_⟩:=hw.fo.form (by rw [hfl];omega)
    simp only [Value.slice.injEq] at e
    exact ⟨g,e.1⟩
   obtain ⟨g,rfl⟩:=hgo
   have hw':=hw
   rw [←hfl] at hw'
   have hgR:=(hw'.fo.lt g rfl)
   have cx:wr.cell? ⟨g,i,none⟩=some (.int .i64 x):=owns_cell hw'.fo i (intsV_get (by rw [folTo_get F a b i hil];exact hx))
   have cz:∀o,wr.frozen? ⟨g,o,none⟩=false:=owns_froz hw'.fo
   have hne:¬R=g:=by omega
   have hne':¬g=R:=by omega
   have HST:=folTo_step F a b i x hx
   have HSK:=fun h=>folTo_skip F a b i h hil
   have HSET:Hid (∀y:Nat,WrM (wr.setCell ⟨g,i,none⟩ (.int .i64 y)) R nv sv (.slice (some ⟨g,0,none⟩) F.length fc) S ((folTo F a b i).set i y)):=by
    intro y
    have:=hw'.fset (i:=i) (by rw [hfl];exact hil) y
    rw [hfl] at this
    exact this
   have hor:=bits_or25 x b hxb hb
   clear hw hw' hx
   go_wp2_with fail
   refine (HH.out i _ (by omega)).mono ?_
   rintro e w1 ⟨rfl,hw1⟩
   have hw2:=hw1.symm
   subst hw2
   clear hw1
   generalize hasS a i=hb' at *
   cases hb' with
   | false =>
    have HS2:Hid (folTo F a b (i+1)=folTo F a b i):=HSK rfl
    clear HST HSK hor
    go_wp2
    go_roundg (F.length - (i+1))
    case measure=>rw [HM.out];omega
    case rel=>exact ⟨i+1,by simp,rfl,by omega,by rw [HS2.out];exact HW.out,HK.out⟩
   | true =>
    have HS2:Hid (folTo F a b (i+1)=(folTo F a b i).set i (x ||| b)):=by show _=_;rw [HST];simp
    clear HST HSK
    go_wp2
    go_roundg (F.length - (i+1))
    case measure=>rw [HM.out];omega
    case rel=>exact ⟨i+1,by simp,rfl,by omega,by rw [HS2.out];exact HSET.out (x ||| b),HK.out.setCell (p:=⟨g,i,none⟩) (Or.inr rfl) _⟩
  ·have hie:i=F.length:=by omega
   subst hie
   have HD:Hid (WrM wr R nv sv (.slice fp F.length fc) S (followS F a b)):=by have:=HW.out;rw [folTo_all] at this;exact this
   clear hw
   go_wp2
   go_end0
   exact ⟨rfl,HD.out,HK.out⟩
end Go.Proofs.YtcboiapggnmpfaaGreatDoor
