import Derived.Test.YtcboiapggnmpfaaGreatDoorQan
namespace Go.Proofs.YtcboiapggnmpfaaGreatDoor
set_option maxRecDepth 100000
set_option maxHeartbeats 4000000
set_option linter.unusedSimpArgs false
set_option linter.unusedVariables false
open Go.RowKit
open Value (int)
open IntKind (i64)
theorem bitN_out {p:Int} (h:p<0∨4≤p):bitN p=0:=by unfold bitN;rw [if_neg (by omega),if_neg (by omega),if_neg (by omega),if_neg (by omega)]
theorem bitN_lt (p:Int):bitN p<16:=by unfold bitN;split <;> (try split) <;> (try split) <;> (try split) <;> omega
theorem bit_any (p:Int) (w:World) :
  Calls Tryz.prog 115 #[.int .i64 p] w fun r w'=>r=.returned (.int .i64 (bitN p))∧w'=w:=by
 by_cases h0:p<0
 ·rw [bitN_out (Or.inl h0)]
  go_enter Tryz.func115,Tryz.ntmps115
  go_wp2
  go_ret
  exact ⟨rfl,rfl⟩
 ·by_cases h4:4≤p
  ·rw [bitN_out (Or.inr h4)]
   go_enter Tryz.func115,Tryz.ntmps115
   go_wp2
   go_ret
   exact ⟨rfl,rfl⟩
  ·have h3:p=0∨p=1∨p=2∨p=3:=by omega
   clear h0 h4
   rcases h3 with rfl|rfl|rfl|rfl
   all_goals
    go_enter Tryz.func115,Tryz.ntmps115
    go_wp2
    go_ret
    exact ⟨rfl,rfl⟩
theorem nmC_len (x:Nmb):(nmC x).length=6:=rfl
theorem nmC_one (m:Nmb):∀v∈nmC m,v.oneCell'=true:=by
 intro v hv
 simp only [nmC,List.mem_cons,List.not_mem_nil,or_false] at hv
 rcases hv with h|h|h|h|h|h <;> subst h <;> rfl
theorem Tryz.rowNm:(Tryz.prog.underlying 126).map TypeDesc.isRow=some true:=by kernel_rfl
theorem Tryz.sizeNm:(Tryz.prog.info? 126).map (·.size)=some 6:=by kernel_rfl
theorem size_nm (m:Nmb):(Tryz.prog.info? 126).map (·.size)=some (nmC m).length:=Tryz.sizeNm
theorem size_nmA (m:Nmb):(Tryz.prog.info? 126).map (·.size)=some (nmC m).toArray.size:=Tryz.sizeNm
theorem load_nm {w:World} {B:Nat} {m:Nmb} (h:w.rangeAt B 0 (nmC m)):(loadVar 126 ⟨B,0,none⟩).run Tryz.prog w=.ok (.agg (nmC m).toArray) w:=by
 obtain ⟨dd,hu,hd⟩:=Option.map_eq_some_iff.1 Tryz.rowNm
 exact run_loadVar_mid w B 0 126 (nmC m) dd h hu hd (size_nm m)
theorem thC_hdk (t:Thr) (i k:Nat) (hi:i<4) (hk:k<6):(thC t)[3+i*6+k]? = (nmC (t.hd i))[k]?:=by
 match i,hi,k,hk with
 | 0,_,0,_=>rfl
 | 0,_,1,_=>rfl
 | 0,_,2,_=>rfl
 | 0,_,3,_=>rfl
 | 0,_,4,_=>rfl
 | 0,_,5,_=>rfl
 | 1,_,0,_=>rfl
 | 1,_,1,_=>rfl
 | 1,_,2,_=>rfl
 | 1,_,3,_=>rfl
 | 1,_,4,_=>rfl
 | 1,_,5,_=>rfl
 | 2,_,0,_=>rfl
 | 2,_,1,_=>rfl
 | 2,_,2,_=>rfl
 | 2,_,3,_=>rfl
 | 2,_,4,_=>rfl
 | 2,_,5,_=>rfl
 | 3,_,0,_=>rfl
 | 3,_,1,_=>rfl
 | 3,_,2,_=>rfl
 | 3,_,3,_=>rfl
 | 3,_,4,_=>rfl
 | 3,_,5,_=>rfl
theorem range_hd {w:World} {R o:Nat} {t:Thr} (h:w.rangeAt R o (thC t)) {i:Nat} (hi:i<4):w.rangeAt R (o+3+i*6) (nmC (t.hd i)):=by
 intro k v hv
 have hk:k<6:=by have:=(List.getElem?_eq_some_iff.1 hv).1;simpa [nmC] using this
 have:=h (3+i*6+k) v (by rw [thC_hdk t i k hi hk];exact hv)
 rwa [show o+3+i*6+k=o+(3+i*6+k) by omega]
theorem range_kp {S:Nat→Prop} {w w':World} {R o:Nat} {cs:List Value} (h:w.rangeAt R o cs) (hl:R<w.heap.size) (k:Kp S w w') (hs:¬S R):w'.rangeAt R o cs:=by
 intro j v hv
 rw [k.cell (p:=⟨R,o+j,none⟩) hl hs];exact h j v hv
theorem range_lt {w:World} {R o:Nat} {cs:List Value} (h:w.rangeAt R o cs) (hc:0<cs.length):R<w.heap.size :=
 World.block_lt_of_cell? w ⟨R,o+0,none⟩ (h 0 cs[0] (by simp [hc]))
theorem heldAt_any (R:Nat) (hand:Nmb) (t:Thr) (p:Int) (anew:Nat) (ha:anew<16) (w:World) (hh:w.rangeAt R 1 (nmC hand)) (hf:w.rangeAt R 7 (thC t)) :
  Calls Tryz.prog 120 #[.pointer (some ⟨R,0,none⟩),.int .i64 p,.int .i64 anew] w fun r w'=>r=.returned (.agg (nmC (heldS hand t p anew)).toArray)∧Nw w w':=by
 obtain ⟨dd,hu,hd⟩:=Option.map_eq_some_iff.1 Tryz.rowNm
 have HU:Hid (Tryz.prog.underlying 126=some dd):=hu
 have HD:Hid (dd.isRow=true):=hd
 have hRl:R<w.heap.size:=range_lt hh (by simp [nmC])
 have HH:Hid ((w.alloc (.cells #[int i64 0,int i64 0,int i64 0,int i64 0,int i64 0,int i64 0] 126)).rangeAt R 1 (nmC hand)):=range_kp hh hRl ((Kp.refl (fun _=>False) w).alloc _) (fun h=>h)
 have HF:Hid ((w.alloc (.cells #[int i64 0,int i64 0,int i64 0,int i64 0,int i64 0,int i64 0] 126)).rangeAt R 7 (thC t)):=range_kp hf hRl ((Kp.refl (fun _=>False) w).alloc _) (fun h=>h)
 have HBX:Hid (Bx (w.alloc (.cells #[int i64 0,int i64 0,int i64 0,int i64 0,int i64 0,int i64 0] 126)) w.heap.size (nmC nz)):=Bx.new w (nmC nz) _
 have HKX:Hid (Nw w (w.alloc (.cells #[int i64 0,int i64 0,int i64 0,int i64 0,int i64 0,int i64 0] 126))):=(Kp.refl _ w).alloc _
 have HBT:Hid (∀W,Calls Tryz.prog 115 #[.int .i64 p] W fun r w'=>r=.returned (.int .i64 (bitN p))∧w'=W):=bit_any p
 have hb:bits .and .i64 (anew:Int) ((bitN p:Nat):Int)=((anew &&& bitN p:Nat):Int):=bits_and anew (bitN p) (by omega) (by have:=bitN_lt p;omega)
 have HS:Hid (heldS hand t p anew=if ¬anew &&& bitN p=0 then hand else if p<0∨4≤p then nmb0 else t.hd p.toNat):=rfl
 have HFIN:∀(x:Nmb) (W:World),W=w.alloc (.cells #[int i64 0,int i64 0,int i64 0,int i64 0,int i64 0,int i64 0] 126)→Hid ((loadVar 126 ⟨w.heap.size,0,none⟩).run Tryz.prog (W.setCells w.heap.size 0 (nmC x))=.ok (.agg (nmC x).toArray) (W.setCells w.heap.size 0 (nmC x))∧Nw w (W.setCells w.heap.size 0 (nmC x))∧W.there w.heap.size 0 (nmC x).toArray.size):=by
  rintro x W rfl
  exact ⟨load_nm (HBX.out.put (by rw [nmC_len,nmC_len])).r,HKX.out.trans' (kp_setCells _ 0 _) (by intro b hb e;omega),HBX.out.there (by rw [List.size_toArray,nmC_len,nmC_len])⟩
 have HFIN':Hid (∀(x:Nmb) (W:World),W=w.alloc (.cells #[int i64 0,int i64 0,int i64 0,int i64 0,int i64 0,int i64 0] 126)→Hid ((loadVar 126 ⟨w.heap.size,0,none⟩).run Tryz.prog (W.setCells w.heap.size 0 (nmC x))=.ok (.agg (nmC x).toArray) (W.setCells w.heap.size 0 (nmC x))∧Nw w (W.setCells w.heap.size 0 (nmC x))∧W.there w.heap.size 0 (nmC x).toArray.size)):=HFIN
 generalize bitN p=b at *
 clear hu hd hh hf HFIN HBX HKX
 go_enter Tryz.func120,Tryz.ntmps120
 go_wp2_with fail
 refine (HBT.out _).mono ?_
 rintro e1 w1 ⟨rfl,rfl⟩
 have F:=HFIN'.out
 generalize hW:w.alloc (.cells #[int i64 0,int i64 0,int i64 0,int i64 0,int i64 0,int i64 0] 126)=W at *
 have HW:Hid (w.alloc (.cells #[int i64 0,int i64 0,int i64 0,int i64 0,int i64 0,int i64 0] 126)=W):=hW
 have hsz:w.heap.size<W.heap.size:=by rw [←hW];simp
 clear hW
 by_cases hab:anew &&& b=0
 ·rw [if_neg (by simpa using hab)] at HS
  have hab':(((anew &&& b:Nat):Int) != 0)=false:=by simp [hab]
  by_cases ho:p<0∨4≤p
  ·rw [if_pos ho] at HS
   obtain ⟨f1,f2,f3⟩:=(F nmb0 W rfl).out
   have HT:Hid (W.there w.heap.size 0 (nmC nmb0).toArray.size):=f3
   have HL:Hid _:=f1
   have HN:Hid (Nw w _):=f2
   clear f1 f2 f3 F HFIN'
   rcases ho with ho|ho
   ·have ho':decide (p<0)=true:=by simpa using ho
    clear ho
    go_wp2_with (first
     | (with_reducible (show Go.wpList _ _ _ ({ dst:=_,op:=Op.store 126 _ _,type:=_,pos:=_,after:=_,guard:=_ }::_) _ _);refine wpList_store_mid rfl 126 _ _ rfl w.heap.size 0 (nmC nmb0).toArray rfl rfl HT.out (size_nmA _) (all_oneCell_toArray (nmC_one _)) ?_)
     | fail)
    refine bodyPost_ret (results_cX Tryz.results120 _ _ _ ⟨w.heap.size,0,none⟩ rfl _ HL.out) rfl ?_
    exact ⟨by rw [HS.out],HN.out⟩
   ·have ho':decide (p<0)=false:=by simp;omega
    have ho2:decide (4≤p)=true:=by simpa using ho
    clear ho
    go_wp2_with (first
     | (with_reducible (show Go.wpList _ _ _ ({ dst:=_,op:=Op.store 126 _ _,type:=_,pos:=_,after:=_,guard:=_ }::_) _ _);refine wpList_store_mid rfl 126 _ _ rfl w.heap.size 0 (nmC nmb0).toArray rfl rfl HT.out (size_nmA _) (all_oneCell_toArray (nmC_one _)) ?_)
     | fail)
    refine bodyPost_ret (results_cX Tryz.results120 _ _ _ ⟨w.heap.size,0,none⟩ rfl _ HL.out) rfl ?_
    exact ⟨by rw [HS.out],HN.out⟩
  ·rw [if_neg ho] at HS
   obtain ⟨i,hi⟩:∃i:Nat,p=i:=⟨p.toNat,by omega⟩
   subst hi
   have hi4:i<4:=by omega
   have hd1:decide ((4:Int)≤(i:Int))=false:=by simp;omega
   have hd2:decide (4≤i)=false:=by simp;omega
   have hd3:decide ((i:Int)<0)=false:=by simp
   rw [Int.toNat_natCast] at HS
   have HR:Hid (W.rangeAt R (7+3+i*6) (nmC (t.hd i))):=range_hd HF.out hi4
   generalize t.hd i=x at *
   obtain ⟨f1,f2,f3⟩:=(F x W rfl).out
   have HT:Hid (W.there w.heap.size 0 (nmC x).toArray.size):=f3
   have HL:Hid _:=f1
   have HN:Hid (Nw w _):=f2
   clear f1 f2 f3 F HFIN' ho
   go_wp2_with (first
    | (with_reducible (show Go.wpList _ _ _ ({ dst:=_,op:=Op.load 126 _,type:=_,pos:=_,after:=_,guard:=_ }::_) _ _);refine wpList_load_mid rfl 126 _ rfl R (7+3+i*6) (by simp [go_sem]) (nmC x) dd HR.out HU.out HD.out (size_nm x) ?_)
    | (with_reducible (show Go.wpList _ _ _ ({ dst:=_,op:=Op.store 126 _ _,type:=_,pos:=_,after:=_,guard:=_ }::_) _ _);refine wpList_store_mid rfl 126 _ _ rfl w.heap.size 0 (nmC x).toArray rfl rfl HT.out (size_nmA _) (all_oneCell_toArray (nmC_one _)) ?_)
    | fail)
   refine bodyPost_ret (results_cX Tryz.results120 _ _ _ ⟨w.heap.size,0,none⟩ rfl _ HL.out) rfl ?_
   exact ⟨by rw [HS.out],HN.out⟩
 ·rw [if_pos hab] at HS
  have hab':(((anew &&& b:Nat):Int) != 0)=true:=by simp;exact_mod_cast hab
  obtain ⟨f1,f2,f3⟩:=(F hand W rfl).out
  have HT:Hid (W.there w.heap.size 0 (nmC hand).toArray.size):=f3
  have HL:Hid _:=f1
  have HN:Hid (Nw w _):=f2
  clear f1 f2 f3 F HFIN'
  go_wp2_with (first
   | (with_reducible (show Go.wpList _ _ _ ({ dst:=_,op:=Op.load 126 _,type:=_,pos:=_,after:=_,guard:=_ }::_) _ _);refine wpList_load_mid rfl 126 _ rfl R 1 rfl (nmC hand) dd HH.out HU.out HD.out (size_nm hand) ?_)
   | (with_reducible (show Go.wpList _ _ _ ({ dst:=_,op:=Op.store 126 _ _,type:=_,pos:=_,after:=_,guard:=_ }::_) _ _);refine wpList_store_mid rfl 126 _ _ rfl w.heap.size 0 (nmC hand).toArray rfl rfl HT.out (size_nmA _) (all_oneCell_toArray (nmC_one _)) ?_)
   | fail)
  refine bodyPost_ret (results_cX Tryz.results120 _ _ _ ⟨w.heap.size,0,none⟩ rfl _ HL.out) rfl ?_
  exact ⟨by rw [HS.out],HN.out⟩
def thF (hand:Nmb) (t:Thr) (a:Int) (anew:Nat) (i:Nat):Thr:=⟨a,t.first,t.began,if 0<i then heldS hand t 0 anew else t.h0,if 1<i then heldS hand t 1 anew else t.h1,if 2<i then heldS hand t 2 anew else t.h2,if 3<i then heldS hand t 3 anew else t.h3⟩
theorem thF_next (hand:Nmb) (t:Thr) (a:Int) (anew i:Nat) (hi:i<4) (w:World) (B:Nat) (h:Bx w B (thC (thF hand t a anew i))):Bx (w.setCells B (3+i*6) (nmC (heldS hand t i anew))) B (thC (thF hand t a anew (i+1))):=by
 match i,hi with
 | 0,_=>exact Bx.puts (nmC (heldS hand t 0 anew)) 3 w ((thC (thF hand t a anew 0)).take 3) (nmC t.h0) ((thC (thF hand t a anew 0)).drop 9) h rfl rfl
 | 1,_=>exact Bx.puts (nmC (heldS hand t 1 anew)) 9 w ((thC (thF hand t a anew 1)).take 9) (nmC t.h1) ((thC (thF hand t a anew 1)).drop 15) h rfl rfl
 | 2,_=>exact Bx.puts (nmC (heldS hand t 2 anew)) 15 w ((thC (thF hand t a anew 2)).take 15) (nmC t.h2) ((thC (thF hand t a anew 2)).drop 21) h rfl rfl
 | 3,_=>exact Bx.puts (nmC (heldS hand t 3 anew)) 21 w ((thC (thF hand t a anew 3)).take 21) (nmC t.h3) ((thC (thF hand t a anew 3)).drop 27) h rfl rfl
theorem threadOf_any (R:Nat) (hand:Nmb) (t:Thr) (a:Int) (anew:Nat) (ha:anew<16) (w:World) (hh:w.rangeAt R 1 (nmC hand)) (hf:w.rangeAt R 7 (thC t)) :
  Calls Tryz.prog 112 #[.pointer (some ⟨R,0,none⟩),.agg #[.int .i64 a,.int .i64 (anew:Int)]] w fun r w'=>r=.returned (.agg (thC (threadS hand t a anew)).toArray)∧Nw w w':=by
 obtain ⟨dd,hu,hd⟩:=Option.map_eq_some_iff.1 Tryz.rowTh
 have HU:Hid (Tryz.prog.underlying 129=some dd):=hu
 have HD:Hid (dd.isRow=true):=hd
 have hRl:R<w.heap.size:=range_lt hh (by simp [nmC])
 have HKW:Hid (Nw w (((w.alloc (.cells #[.int .i64 a,.int .i64 (anew:Int)] 205)).alloc (.cells #[int i64 0,int i64 0,int i64 0,int i64 0,int i64 0,int i64 0,int i64 0,int i64 0,int i64 0,int i64 0,int i64 0,int i64 0,int i64 0,int i64 0,int i64 0,int i64 0,int i64 0,int i64 0,int i64 0,int i64 0,int i64 0,int i64 0,int i64 0,int i64 0,int i64 0,int i64 0,int i64 0] 129)).alloc (.cells #[int i64 0,int i64 0,int i64 0,int i64 0,int i64 0,int i64 0,int i64 0,int i64 0,int i64 0,int i64 0,int i64 0,int i64 0,int i64 0,int i64 0,int i64 0,int i64 0,int i64 0,int i64 0,int i64 0,int i64 0,int i64 0,int i64 0,int i64 0,int i64 0,int i64 0,int i64 0,int i64 0] 129))):=(((Kp.refl _ w).alloc _).alloc _).alloc _
 have HF:Hid (((w.alloc (.cells #[.int .i64 a,.int .i64 (anew:Int)] 205)).alloc (.cells #[int i64 0,int i64 0,int i64 0,int i64 0,int i64 0,int i64 0,int i64 0,int i64 0,int i64 0,int i64 0,int i64 0,int i64 0,int i64 0,int i64 0,int i64 0,int i64 0,int i64 0,int i64 0,int i64 0,int i64 0,int i64 0,int i64 0,int i64 0,int i64 0,int i64 0,int i64 0,int i64 0] 129)).rangeAt R 7 (thC t)):=range_kp hf hRl (((Kp.refl (fun _=>False) w).alloc _).alloc _) (fun h=>h)
 have HT0:Hid ((((w.alloc (.cells #[.int .i64 a,.int .i64 (anew:Int)] 205)).alloc (.cells #[int i64 0,int i64 0,int i64 0,int i64 0,int i64 0,int i64 0,int i64 0,int i64 0,int i64 0,int i64 0,int i64 0,int i64 0,int i64 0,int i64 0,int i64 0,int i64 0,int i64 0,int i64 0,int i64 0,int i64 0,int i64 0,int i64 0,int i64 0,int i64 0,int i64 0,int i64 0,int i64 0] 129)).alloc (.cells #[int i64 0,int i64 0,int i64 0,int i64 0,int i64 0,int i64 0,int i64 0,int i64 0,int i64 0,int i64 0,int i64 0,int i64 0,int i64 0,int i64 0,int i64 0,int i64 0,int i64 0,int i64 0,int i64 0,int i64 0,int i64 0,int i64 0,int i64 0,int i64 0,int i64 0,int i64 0,int i64 0] 129)).there (w.heap.size+1+1) 0 (thC t).toArray.size):=by
  have:=(Bx.new ((w.alloc (.cells #[.int .i64 a,.int .i64 (anew:Int)] 205)).alloc (.cells #[int i64 0,int i64 0,int i64 0,int i64 0,int i64 0,int i64 0,int i64 0,int i64 0,int i64 0,int i64 0,int i64 0,int i64 0,int i64 0,int i64 0,int i64 0,int i64 0,int i64 0,int i64 0,int i64 0,int i64 0,int i64 0,int i64 0,int i64 0,int i64 0,int i64 0,int i64 0,int i64 0] 129)) (thC th0) 129).there (n:=(thC t).toArray.size) (by rw [List.size_toArray,thC_len,thC_len])
  rw [zerosTh] at this
  show World.there _ _ _ _
  simpa using this
 have HB5:Hid (Bx ((((w.alloc (.cells #[.int .i64 a,.int .i64 (anew:Int)] 205)).alloc (.cells #[int i64 0,int i64 0,int i64 0,int i64 0,int i64 0,int i64 0,int i64 0,int i64 0,int i64 0,int i64 0,int i64 0,int i64 0,int i64 0,int i64 0,int i64 0,int i64 0,int i64 0,int i64 0,int i64 0,int i64 0,int i64 0,int i64 0,int i64 0,int i64 0,int i64 0,int i64 0,int i64 0] 129)).alloc (.cells #[int i64 0,int i64 0,int i64 0,int i64 0,int i64 0,int i64 0,int i64 0,int i64 0,int i64 0,int i64 0,int i64 0,int i64 0,int i64 0,int i64 0,int i64 0,int i64 0,int i64 0,int i64 0,int i64 0,int i64 0,int i64 0,int i64 0,int i64 0,int i64 0,int i64 0,int i64 0,int i64 0] 129)).setCells (w.heap.size+1+1) 0 (thC t)) (w.heap.size+1+1) (thC t)):=by
  have:=(Bx.new ((w.alloc (.cells #[.int .i64 a,.int .i64 (anew:Int)] 205)).alloc (.cells #[int i64 0,int i64 0,int i64 0,int i64 0,int i64 0,int i64 0,int i64 0,int i64 0,int i64 0,int i64 0,int i64 0,int i64 0,int i64 0,int i64 0,int i64 0,int i64 0,int i64 0,int i64 0,int i64 0,int i64 0,int i64 0,int i64 0,int i64 0,int i64 0,int i64 0,int i64 0,int i64 0] 129)) (thC th0) 129).put (vs:=thC t) (by rw [thC_len,thC_len])
  rw [zerosTh] at this
  show Bx _ _ _
  simpa using this
 have HB4:Hid (Bx ((((w.alloc (.cells #[.int .i64 a,.int .i64 (anew:Int)] 205)).alloc (.cells #[int i64 0,int i64 0,int i64 0,int i64 0,int i64 0,int i64 0,int i64 0,int i64 0,int i64 0,int i64 0,int i64 0,int i64 0,int i64 0,int i64 0,int i64 0,int i64 0,int i64 0,int i64 0,int i64 0,int i64 0,int i64 0,int i64 0,int i64 0,int i64 0,int i64 0,int i64 0,int i64 0] 129)).alloc (.cells #[int i64 0,int i64 0,int i64 0,int i64 0,int i64 0,int i64 0,int i64 0,int i64 0,int i64 0,int i64 0,int i64 0,int i64 0,int i64 0,int i64 0,int i64 0,int i64 0,int i64 0,int i64 0,int i64 0,int i64 0,int i64 0,int i64 0,int i64 0,int i64 0,int i64 0,int i64 0,int i64 0] 129)).setCells (w.heap.size+1+1) 0 (thC t)) (w.heap.size+1) (thC th0)):=by
  have:=Bx.new (w.alloc (.cells #[.int .i64 a,.int .i64 (anew:Int)] 205)) (thC th0) 129
  rw [zerosTh] at this
  have h2:=(this.kp (by simp [thC_len]) ((Kp.refl (fun _=>False) _).alloc (.cells #[int i64 0,int i64 0,int i64 0,int i64 0,int i64 0,int i64 0,int i64 0,int i64 0,int i64 0,int i64 0,int i64 0,int i64 0,int i64 0,int i64 0,int i64 0,int i64 0,int i64 0,int i64 0,int i64 0,int i64 0,int i64 0,int i64 0,int i64 0,int i64 0,int i64 0,int i64 0,int i64 0] 129)) (fun h=>h))
  have h3:=h2.kp (by simp [thC_len]) (kp_setCells (g:=w.heap.size+1+1) (thC t) 0 _) (by simp)
  show Bx _ _ _
  simpa using h3
 have HB3:Hid (Bx ((((w.alloc (.cells #[.int .i64 a,.int .i64 (anew:Int)] 205)).alloc (.cells #[int i64 0,int i64 0,int i64 0,int i64 0,int i64 0,int i64 0,int i64 0,int i64 0,int i64 0,int i64 0,int i64 0,int i64 0,int i64 0,int i64 0,int i64 0,int i64 0,int i64 0,int i64 0,int i64 0,int i64 0,int i64 0,int i64 0,int i64 0,int i64 0,int i64 0,int i64 0,int i64 0] 129)).alloc (.cells #[int i64 0,int i64 0,int i64 0,int i64 0,int i64 0,int i64 0,int i64 0,int i64 0,int i64 0,int i64 0,int i64 0,int i64 0,int i64 0,int i64 0,int i64 0,int i64 0,int i64 0,int i64 0,int i64 0,int i64 0,int i64 0,int i64 0,int i64 0,int i64 0,int i64 0,int i64 0,int i64 0] 129)).setCells (w.heap.size+1+1) 0 (thC t)) w.heap.size [.int .i64 a,.int .i64 (anew:Int)]):=by
  have:=Bx.new w [.int .i64 a,.int .i64 (anew:Int)] 205
  have h2:=(this.kp (by simp) (((Kp.refl (fun _=>False) _).alloc (.cells #[int i64 0,int i64 0,int i64 0,int i64 0,int i64 0,int i64 0,int i64 0,int i64 0,int i64 0,int i64 0,int i64 0,int i64 0,int i64 0,int i64 0,int i64 0,int i64 0,int i64 0,int i64 0,int i64 0,int i64 0,int i64 0,int i64 0,int i64 0,int i64 0,int i64 0,int i64 0,int i64 0] 129)).alloc (.cells #[int i64 0,int i64 0,int i64 0,int i64 0,int i64 0,int i64 0,int i64 0,int i64 0,int i64 0,int i64 0,int i64 0,int i64 0,int i64 0,int i64 0,int i64 0,int i64 0,int i64 0,int i64 0,int i64 0,int i64 0,int i64 0,int i64 0,int i64 0,int i64 0,int i64 0,int i64 0,int i64 0] 129)) (fun h=>h))
  exact h2.kp (by simp) (kp_setCells (g:=w.heap.size+1+1) (thC t) 0 _) (by omega)
 have HK0:Hid (Nw w ((((w.alloc (.cells #[.int .i64 a,.int .i64 (anew:Int)] 205)).alloc (.cells #[int i64 0,int i64 0,int i64 0,int i64 0,int i64 0,int i64 0,int i64 0,int i64 0,int i64 0,int i64 0,int i64 0,int i64 0,int i64 0,int i64 0,int i64 0,int i64 0,int i64 0,int i64 0,int i64 0,int i64 0,int i64 0,int i64 0,int i64 0,int i64 0,int i64 0,int i64 0,int i64 0] 129)).alloc (.cells #[int i64 0,int i64 0,int i64 0,int i64 0,int i64 0,int i64 0,int i64 0,int i64 0,int i64 0,int i64 0,int i64 0,int i64 0,int i64 0,int i64 0,int i64 0,int i64 0,int i64 0,int i64 0,int i64 0,int i64 0,int i64 0,int i64 0,int i64 0,int i64 0,int i64 0,int i64 0,int i64 0] 129)).setCells (w.heap.size+1+1) 0 (thC t))):=HKW.out.trans' (kp_setCells _ 0 _) (by intro b hb e;omega)
 have HHA:Hid (∀(i:Nat) W,Nw w W→Calls Tryz.prog 120 #[.pointer (some ⟨R,0,none⟩),.int .i64 (i:Int),.int .i64 (anew:Int)] W fun r w'=>r=.returned (.agg (nmC (heldS hand t i anew)).toArray)∧Nw W w'):=fun i W kW=>heldAt_any R hand t i anew ha W (range_kp hh hRl kW (fun h=>h)) (range_kp hf hRl kW (fun h=>h))
 have HRK:Hid (∀W,Nw w W→R<W.heap.size):=fun W kW=>Nat.lt_of_lt_of_le hRl kW.size
 clear hu hd hh hf ha
 go_enter Tryz.func112,Tryz.ntmps112
 go_wp2_with (first
  | (with_reducible (show Go.wpList _ _ _ ({ dst:=_,op:=Op.load 129 _,type:=_,pos:=_,after:=_,guard:=_ }::_) _ _);refine wpList_load_mid rfl 129 _ rfl R 7 rfl (thC t) dd HF.out HU.out HD.out (size_th t) ?_)
  | (with_reducible (show Go.wpList _ _ _ ({ dst:=_,op:=Op.store 129 _ _,type:=_,pos:=_,after:=_,guard:=_ }::_) _ _);refine wpList_store_mid rfl 129 _ _ rfl (w.heap.size+1+1) 0 (thC t).toArray rfl rfl HT0.out (size_thA _) (all_oneCell_toArray (thC_one _)) ?_;have HW1:=HB5;generalize (((w.alloc (.cells #[.int .i64 a,.int .i64 (anew:Int)] 205)).alloc (.cells #[int i64 0,int i64 0,int i64 0,int i64 0,int i64 0,int i64 0,int i64 0,int i64 0,int i64 0,int i64 0,int i64 0,int i64 0,int i64 0,int i64 0,int i64 0,int i64 0,int i64 0,int i64 0,int i64 0,int i64 0,int i64 0,int i64 0,int i64 0,int i64 0,int i64 0,int i64 0,int i64 0] 129)).alloc (.cells #[int i64 0,int i64 0,int i64 0,int i64 0,int i64 0,int i64 0,int i64 0,int i64 0,int i64 0,int i64 0,int i64 0,int i64 0,int i64 0,int i64 0,int i64 0,int i64 0,int i64 0,int i64 0,int i64 0,int i64 0,int i64 0,int i64 0,int i64 0,int i64 0,int i64 0,int i64 0,int i64 0] 129)).setCells (w.heap.size+1+1) 0 (thC t)=W1 at *;have d3:=HB3.out.cell (k:=0) rfl;have d5:=HB5.out.cell (k:=0) rfl;have z5:=HB5.out.z)
  | fail)
 go_loopg [6] 4 (fun m v6 wr=>∃i:Nat,v6=.int .i64 i∧m=4 - i∧i≤4∧Bx wr (w.heap.size+1+1) (thC (thF hand t a anew i))∧Bx wr (w.heap.size+1) (thC th0)∧Bx wr w.heap.size [.int .i64 a,.int .i64 (anew:Int)]∧Nw w wr)
 case atStart =>
  have kk:Kp (fun b=>b=w.heap.size+1+1) W1 (W1.setCell ⟨w.heap.size+1+1,0,none⟩ (.int .i64 a)):=(Kp.refl (fun b=>b=w.heap.size+1+1) W1).setCell (p:=⟨w.heap.size+1+1,0,none⟩) (Or.inr rfl) _
  exact ⟨0,rfl,rfl,by omega,HB5.out.set 0 (.int .i64 a),HB4.out.kp (by rw [thC_len];omega) kk (by omega),HB3.out.kp (by simp) kk (by omega),HK0.out.trans' kk (by intro b hb e;omega)⟩
 case round =>
  obtain ⟨i,rfl,hm,hi,hb5,hb4,hb3,hk⟩:=hrel
  have HM:Hid (_=4 - i):=hm
  have H5:Hid (Bx wr (w.heap.size+1+1) (thC (thF hand t a anew i))):=hb5
  have H4:Hid (Bx wr (w.heap.size+1) (thC th0)):=hb4
  have H3:Hid (Bx wr w.heap.size [.int .i64 a,.int .i64 (anew:Int)]):=hb3
  have HK:Hid (Nw w wr):=hk
  have hRw:=HRK.out wr hk
  clear hm hb5 hb4 hb3 hk d3 d5 z5 HB5 HB4 HB3 HK0 HW1 HF HT0 HKW
  by_cases hil:i<4
  ·have d3:=H3.out.cell (k:=1) (v:=.int .i64 (anew:Int)) rfl
   have hl5:w.heap.size+1+1<wr.heap.size:=H5.out.lt (by rw [thC_len];omega)
   have HTX:Hid (∀W,Nw wr W→W.there (w.heap.size+1+1) (3+i*6) (nmC (heldS hand t i anew)).toArray.size):=by
    intro W kW j hj
    have hj6:j<6:=hj
    have h5:=(H5.out.kp (by rw [thC_len];omega) kW (fun h=>h))
    refine ⟨?_,h5.z _⟩
    rw [h5.cell (k:=3+i*6+j) (v:=(thC (thF hand t a anew i))[3+i*6+j]'(by rw [thC_len];omega)) (by simp)]
    rfl
   have HNX:Hid (∀W,Nw wr W→Bx (W.setCells (w.heap.size+1+1) (3+i*6) (nmC (heldS hand t i anew))) (w.heap.size+1+1) (thC (thF hand t a anew (i+1)))):=fun W kW=>thF_next hand t a anew i hil W _ (H5.out.kp (by rw [thC_len];omega) kW (fun h=>h))
   have HHI:=HHA.out i
   generalize heldS hand t i anew=x at *
   go_wp2_with fail
   refine (HHI _ HK.out).mono ?_
   rintro e2 w2 ⟨rfl,k2⟩
   have K2:Hid (Nw wr w2):=k2
   have HT2:Hid (w2.there (w.heap.size+1+1) (3+i*6) (nmC x).toArray.size):=HTX.out w2 k2
   have hl52:w.heap.size+1+1<w2.heap.size:=Nat.lt_of_lt_of_le hl5 k2.size
   clear k2 d3
   go_wp2_with (first
    | (with_reducible (show Go.wpList _ _ _ ({ dst:=_,op:=Op.store 126 _ _,type:=_,pos:=_,after:=_,guard:=_ }::_) _ _);refine wpList_store_mid rfl 126 _ _ rfl (w.heap.size+1+1) (3+i*6) (nmC x).toArray (by simp [go_sem]) rfl HT2.out (size_nmA _) (all_oneCell_toArray (nmC_one _)) ?_)
    | fail)
   go_roundg (4 - (i+1))
   case measure=>rw [HM.out];omega
   case rel =>
    have kk:Kp (fun b=>b=w.heap.size+1+1) w2 (w2.setCells (w.heap.size+1+1) (3+i*6) (nmC x)):=kp_setCells _ _ _
    exact ⟨i+1,by simp,rfl,by omega,HNX.out w2 K2.out,(H4.out.kp (by rw [thC_len];omega) K2.out (fun h=>h)).kp (by rw [thC_len];omega) kk (by omega),(H3.out.kp (by simp) K2.out (fun h=>h)).kp (by simp) kk (by omega),(HK.out.trans K2.out).trans' kk (by intro b hb e;omega)⟩
  ·have hie:i=4:=by omega
   subst hie
   obtain ⟨T,HTE⟩:∃T,Hid (threadS hand t a anew=T):=⟨_,rfl⟩
   have HR:Hid (wr.rangeAt (w.heap.size+1+1) 0 (thC T)):=by show World.rangeAt _ _ _ _;rw [←HTE.out];exact H5.out.r
   have HT:Hid (wr.there (w.heap.size+1) 0 (thC T).toArray.size):=H4.out.there (by rw [List.size_toArray,thC_len,thC_len])
   have HE:Hid ((wr.setCells (w.heap.size+1) 0 (thC T)).rangeAt (w.heap.size+1) 0 (thC T)):=World.rangeAt_setCells_same _ _ _ _ (by have:=HT.out;rwa [List.size_toArray] at this)
   have HKE:Hid (Nw w (wr.setCells (w.heap.size+1) 0 (thC T))):=HK.out.trans' (kp_setCells _ 0 _) (by intro b hb e;omega)
   go_wp2_with (first
    | (with_reducible (show Go.wpList _ _ _ ({ dst:=_,op:=Op.load 129 _,type:=_,pos:=_,after:=_,guard:=_ }::_) _ _);refine wpList_load_mid rfl 129 _ rfl (w.heap.size+1+1) 0 rfl (thC T) dd HR.out HU.out HD.out (size_th T) ?_)
    | (with_reducible (show Go.wpList _ _ _ ({ dst:=_,op:=Op.store 129 _ _,type:=_,pos:=_,after:=_,guard:=_ }::_) _ _);refine wpList_store_mid rfl 129 _ _ rfl (w.heap.size+1) 0 (thC T).toArray rfl rfl HT.out (size_thA _) (all_oneCell_toArray (thC_one _)) ?_)
    | fail)
   refine bodyPost_ret (results_cX Tryz.results112 _ _ _ ⟨w.heap.size+1,0,none⟩ rfl _ (load_th HE.out)) rfl ?_
   exact ⟨by rw [HTE.out],HKE.out⟩
end Go.Proofs.YtcboiapggnmpfaaGreatDoor
