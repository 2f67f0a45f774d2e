import Derived.Test.YtcboiapggnmpfaaGreatDoorQbk
namespace Go.Proofs.YtcboiapggnmpfaaGreatDoor
set_option maxRecDepth 100000
set_option maxHeartbeats 8000000
set_option linter.unusedSimpArgs false
set_option linter.unusedVariables false
open Go.RowKit
open Value (int)
open IntKind (i64)
def mtsC (l:List Mt):List Value:=(l.map mtC).flatten
theorem mtsC_app (a b:List Mt):mtsC (a++b)=mtsC a++mtsC b:=by simp [mtsC]
theorem Tryz.unMts:Tryz.prog.underlying 30=some (.slice 35):=by kernel_rfl
theorem Tryz.infoMts:(Tryz.prog.info? 35).map (fun i=>(i.zero,i.size,i.bytes))=some (some (.agg #[int i64 0,int i64 0,int i64 0,int i64 0,int i64 0,int i64 0]),6,48):=by kernel_rfl
def MsPost (w:World) (ms:List Mt) (r:Ending) (w':World):Prop:=∃v,r=.returned v∧w'.ownsRow w.heap.size 35 6 v ms.length (mtsC ms)∧Nw w w'
theorem matches_any (R base:Nat) (ev:Value) (es:List Thr) (n:Int) (w:World) (h40:w.cell? ⟨R,40,none⟩=some ev) (h1:w.cell? ⟨R,1,none⟩=some (.int .i64 n)) (ho:w.ownsRow base 129 27 ev es.length (thsC es)) (hl:es.length≤10000) :
  Calls Tryz.prog 56 #[.pointer (some ⟨R,0,none⟩)] w (MsPost w (es.map (fun t=>matchT t n))):=by
 obtain ⟨ep,ec,rfl⟩:=ownsLenX ho
 have HO:Hid (w.ownsRow base 129 27 (.slice ep es.length ec) es.length (thsC es)):=ho
 have hRl:R<w.heap.size:=World.block_lt_of_cell? w ⟨R,1,none⟩ h1
 have H40:Hid (w.cell? ⟨R,40,none⟩=some (.slice ep es.length ec)):=h40
 have H1:Hid (w.cell? ⟨R,1,none⟩=some (.int .i64 n)):=h1
 obtain ⟨i1,hi1,hy0,hy1,hy2⟩:=info_parts Tryz.infoMts
 obtain ⟨dt,hu,hd⟩:=Option.map_eq_some_iff.1 Tryz.rowTh
 have HU:Hid (Tryz.prog.underlying 129=some dt):=hu
 have HD:Hid (dt.isRow=true):=hd
 obtain ⟨dm,hmu,hmd⟩:=Option.map_eq_some_iff.1 Tryz.rowMt
 have HMU:Hid (Tryz.prog.underlying 35=some dm):=hmu
 have HMD:Hid (dm.isRow=true):=hmd
 obtain ⟨ms,HMS⟩:∃ms,Hid (es.map (fun t=>matchT t n)=ms):=⟨_,rfl⟩
 have HML:Hid (ms.length=es.length):=by show _=_;rw [←HMS.out];simp
 rw [HMS.out]
 clear hu hd hmu hmd ho
 go_enter Tryz.func56,Tryz.ntmps56
 go_wp2
 go_loopg [3,4] es.length (fun m v3 v4 wr=>∃i:Nat,v4=.int .i64 i∧m=es.length - i∧i≤es.length∧wr.ownsRow w.heap.size 35 6 v3 (min i ms.length) (mtsC (ms.take i))∧Nw w wr)
 case atStart=>exact ⟨0,rfl,rfl,by omega,by simpa [mtsC] using World.ownsRow_nil w w.heap.size 35 6,Kp.refl _ _⟩
 case round =>
  obtain ⟨i,rfl,hm,hi,hv,hk⟩:=hrel
  have HM:Hid (_=es.length - i):=hm
  have HV:Hid (wr.ownsRow w.heap.size 35 6 u3 (min i ms.length) (mtsC (ms.take i))):=hv
  have HK:Hid (Nw w wr):=hk
  have HIL:Hid (min i ms.length=i):=by show _=_;have:=HML.out;omega
  have r40:wr.cell? ⟨R,40,none⟩=some (.slice ep es.length ec):=(hk.cell (p:=⟨R,40,none⟩) hRl (fun h=>h)).trans h40
  have hRr:R<wr.heap.size:=Nat.lt_of_lt_of_le hRl hk.size
  have hwr:w.heap.size≤wr.heap.size:=hk.size
  clear hm hv hk h40 h1
  by_cases hil:i<es.length
  ·obtain ⟨u,hu⟩:∃u,es[i]? = some u:=⟨_,List.getElem?_eq_getElem hil⟩
   obtain ⟨ge,ce,hge⟩:=owns_some HO.out (by omega)
   simp only [Value.slice.injEq,true_and] at hge
   obtain ⟨rfl,rfl⟩:=hge
   have s1:∀W,Nw wr W→W.cell? ⟨R,40,none⟩=some (.slice (some ⟨ge,0,none⟩) es.length ec):=fun W kW=>(kW.cell (p:=⟨R,40,none⟩) hRr (fun h=>h)).trans r40
   have s2:∀W,Nw wr W→W.cell? ⟨R,1,none⟩=some (.int .i64 n):=fun W kW=>((HK.out.trans kW).cell (p:=⟨R,1,none⟩) hRl (fun h=>h)).trans H1.out
   have HR27:Hid (∀W,Nw wr W→W.rangeAt ge (i*27) (thC u)):=fun W kW=>owns_rangeT (owns_kp HO.out (HK.out.trans kW) (fun _ _ h=>h)) hu
   have hgel:ge<wr.heap.size:=by have:=(HO.out.lt ge rfl).2;omega
   have HMI:Hid (ms[i]? = some (matchT u n)):=by show _=_;rw [←HMS.out,List.getElem?_map,hu];rfl
   have HMA:Hid (∀W,Calls Tryz.prog 87 #[.agg (thC u).toArray,.int .i64 n] W fun r w'=>r=.returned (.agg (mtC (matchT u n)).toArray)∧Nw W w'):=fun W=>match_any u n W
   have HSI:Hid ((Tryz.prog.info? 129).map (·.size)=some (thC u).length):=size_th u
   clear hu
   generalize matchT u n=M at *
   generalize thC u=LU at *
   obtain ⟨mf,ml,m0,m1,m2,m3⟩:=M
   have HMA':Hid (∀W,Calls Tryz.prog 87 #[.agg LU.toArray,.int .i64 n] W fun r w'=>r=.returned (.agg #[.int .i64 mf,.int .i64 ml,.int .i64 m0,.int .i64 m1,.int .i64 m2,.int .i64 m3])∧Nw W w'):=HMA.out
   have HSML:Hid ((Tryz.prog.info? 35).map (·.size)=some ([.int .i64 mf,.int .i64 ml,.int .i64 m0,.int .i64 m1,.int .i64 m2,.int .i64 m3]:List Value).length):=Tryz.sizeMt
   clear HMA
   go_wp2
   refine wp_region_held_drew (S:=fun W=>Nw wr W) (by kernel_rfl) ((Kp.refl _ _).drew) (fun hHeld => ?_)
   refine tM 0 rfl (fun W hSW=>by (try dsimp only at hSW);go_simp;rw []) hHeld ?_
   refine tM 1 rfl (fun W hSW=>by (try dsimp only at hSW);go_simp;rw []) hHeld ?_
   refine tM 2 rfl (fun W hSW=>by (try dsimp only at hSW);go_simp;rw []) hHeld ?_
   refine tM 3 rfl (fun W hSW=>by (try dsimp only at hSW);go_simp;rw []) hHeld ?_
   refine tM 4 rfl (fun W hSW=>by (try dsimp only at hSW);go_simp;rw []) hHeld ?_
   refine tM 5 rfl (fun W hSW=>by (try dsimp only at hSW);go_simp;rw []) hHeld ?_
   refine tM 6 rfl (fun W hSW=>by (try dsimp only at hSW);go_simp;rw []) hHeld ?_
   refine tN (i:=7) (v:=_) rfl (yieldsIf_load_mid (by rfl) 129 _ rfl ge (i*27) rfl LU dt HR27.out HU.out HD.out HSI.out) hHeld ?_
   refine tM 8 rfl (fun W hSW=>by (try dsimp only at hSW);go_simp;rw []) hHeld ?_
   refine tM 9 rfl (fun W hSW=>by (try dsimp only at hSW);go_simp;rw []) hHeld ?_
   refine tM 10 rfl (fun W hSW=>by (try dsimp only at hSW);go_simp;rw []) hHeld ?_
   refine tM 11 rfl (fun W hSW=>by (try dsimp only at hSW);go_simp;rw []) hHeld ?_
   refine tM 12 rfl (fun W hSW=>by (try dsimp only at hSW);go_simp;rw []) hHeld ?_
   clear s1 s2
   refine wpAnyH_ready (rs:=[13,14]) (by kernel_rfl) (by simp) ?_
   refine consL rfl (fun K hK => ?_) (consL rfl (fun K hK => ?_) AllReadyH.nil)
   ·go_simp
    refine (HMA'.out _).mono ?_
    rintro e9 w9 ⟨rfl,k9⟩
    have k10:Nw wr w9:=((Kp.refl _ _).drew).trans k9
    try dsimp only
    refine hK.out _ _ k10 (fun _ => ?_)
    clear hK K
    try simp only [Act.put,sA,sZ,sS]
    have HBT:Hid (Bx ((w9.alloc (.cells #[int i64 0,int i64 0,int i64 0,int i64 0,int i64 0,int i64 0] 35)).setCells w9.heap.size 0 [.int .i64 mf,.int .i64 ml,.int .i64 m0,.int .i64 m1,.int .i64 m2,.int .i64 m3]) w9.heap.size [.int .i64 mf,.int .i64 ml,.int .i64 m0,.int .i64 m1,.int .i64 m2,.int .i64 m3]):=(Bx.new w9 (mtC ⟨0,0,0,0,0,0⟩) 35).put rfl
    have HTT:Hid ((w9.alloc (.cells #[int i64 0,int i64 0,int i64 0,int i64 0,int i64 0,int i64 0] 35)).there w9.heap.size 0 6):=(Bx.new w9 (mtC ⟨0,0,0,0,0,0⟩) 35).there rfl
    have HK10:Hid (Nw wr ((w9.alloc (.cells #[int i64 0,int i64 0,int i64 0,int i64 0,int i64 0,int i64 0] 35)).setCells w9.heap.size 0 [.int .i64 mf,.int .i64 ml,.int .i64 m0,.int .i64 m1,.int .i64 m2,.int .i64 m3])):=(k10.alloc _).trans' (kp_setCells _ 0 _) (by intro b hb e;have:=k10.size;omega)
    refine wpAnyH_ready (rs:=[14]) (by kernel_rfl) (by simp) ?_
    refine consL rfl (fun K hK => ?_) AllReadyH.nil
    go_simp
    refine hK.out _ _ (k10.alloc _) (fun _ => ?_)
    clear hK K
    try simp only [Act.put,sA,sZ,sS]
    refine wpAnyH_ready (rs:=[15]) (by kernel_rfl) (by simp) ?_
    refine consL rfl (fun K hK => ?_) AllReadyH.nil
    rw [if_pos (by rfl)]
    refine wp_store_mid 35 _ _ rfl w9.heap.size 0 #[.int .i64 mf,.int .i64 ml,.int .i64 m0,.int .i64 m1,.int .i64 m2,.int .i64 m3] rfl rfl HTT.out Tryz.sizeMt (all_oneCell_toArray (mtC_one ⟨mf,ml,m0,m1,m2,m3⟩)) ?_
    refine hK.out _ _ HK10.out (fun _ => ?_)
    clear hK K
    try simp only [Act.put,sA,sZ,sS]
    refine wpAnyH_done (by kernel_rfl) ?_ _
    clear hHeld k9 k10 HTT HMA'
    generalize ((w9.alloc (.cells #[int i64 0,int i64 0,int i64 0,int i64 0,int i64 0,int i64 0] 35)).setCells w9.heap.size 0 [.int .i64 mf,.int .i64 ml,.int .i64 m0,.int .i64 m1,.int .i64 m2,.int .i64 m3])=w10 at *
    generalize w9.heap.size=BT at *
    have hbt:BT<w10.heap.size:=HBT.out.lt (by simp)
    have hv2:=HV.out
    rw [HIL.out] at hv2
    obtain ⟨vp,vc,hve⟩:=ownsLenX hv2
    have hown:=owns_kp hv2 HK10.out (fun _ _ h=>h)
    clear hv2
    subst hve
    have HV10:Hid (w10.ownsRow w.heap.size 35 6 (.slice vp i vc) i (mtsC (ms.take i))):=hown
    have hs10:wr.heap.size≤w10.heap.size:=HK10.out.size
    clear hown
    go_wp2_with (first
     | (with_reducible (show Go.wpList _ _ _ ({ dst:=_,op:=Op.load 35 _,type:=_,pos:=_,after:=_,guard:=_ }::_) _ _);refine wpList_load_mid rfl 35 _ rfl BT 0 rfl [.int .i64 mf,.int .i64 ml,.int .i64 m0,.int .i64 m1,.int .i64 m2,.int .i64 m3] dm HBT.out.r HMU.out HMD.out HSML.out ?_)
     | (at_builtin;refine wpList_append_lies _ rfl _ _ 30 rfl w.heap.size 35 i1 (.agg #[int i64 0,int i64 0,int i64 0,int i64 0,int i64 0,int i64 0]) 6 48 Tryz.unMts hi1 hy0 hy1 hy2 rfl (by decide) _ _ _ rfl (HV10.out.alloc _) ⟨w10.heap.size,0,none⟩ 1 1 [.int .i64 mf,.int .i64 ml,.int .i64 m0,.int .i64 m1,.int .i64 m2,.int .i64 m3] rfl rfl ?b1 ?b2 (by decide) ?b3 ?b4 ?b5 _ rfl ?_)
     | fail)
    case b1=>intro j u hu;rw [Addr.add_mid];exact (Bx.new w10 [.int .i64 mf,.int .i64 ml,.int .i64 m0,.int .i64 m1,.int .i64 m2,.int .i64 m3] 35).r j u hu
    case b2=>intro u hu;simp only [List.mem_cons,List.not_mem_nil,or_false] at hu;rcases hu with e|e|e|e|e|e <;> rw [e] <;> rfl
    case b3=>unfold maxLen;omega
    case b4=>omega
    case b5=>simp;omega
    intro g3 cap3 w3 hown3 hgrow hat hlt
    have HV3:Hid (w3.ownsRow w.heap.size 35 6 (.slice (some ⟨g3,0,none⟩) (i+1) cap3) (ms.take (i+1)).length (mtsC (ms.take (i+1)))):=by
     have e1:(ms.take (i+1)).length=i+1:=by rw [List.length_take];have:=HML.out;omega
     have e2:mtsC (ms.take (i+1))=mtsC (ms.take i)++[.int .i64 mf,.int .i64 ml,.int .i64 m0,.int .i64 m1,.int .i64 m2,.int .i64 m3]:=by rw [List.take_add_one,HMI.out,Option.toList_some,mtsC_app];simp [mtsC,mtC]
     show World.ownsRow _ _ _ _ _ _ _
     rw [e1,e2];exact hown3
    have HK3:Hid (Nw w w3):=((HK.out.trans HK10.out).alloc _).grown hgrow (fun b hb=>Or.inl (HV10.out.lt b hb).1)
    clear hown3 hgrow hat HBT
    go_wp2
    go_roundg (es.length - (i+1))
    case measure=>rw [HM.out];omega
    case rel=>exact ⟨i+1,by simp,rfl,by omega,by rw [List.length_take] at HV3;exact HV3.out,HK3.out⟩
   ·go_simp
    refine hK.out _ _ (((Kp.refl _ _).alloc _).drew) (fun _ => ?_)
    clear hK K
    try simp only [Act.put,sA,sZ,sS]
    have HBA:Hid (Bx (wr.alloc (.cells #[int i64 0,int i64 0,int i64 0,int i64 0,int i64 0,int i64 0] 35)).drew wr.heap.size (mtC ⟨0,0,0,0,0,0⟩)):=(Bx.new wr (mtC ⟨0,0,0,0,0,0⟩) 35).kp (by rw [mtC_len];omega) ((Kp.refl (fun _=>False) _).drew) (fun h=>h)
    refine wpAnyH_ready (rs:=[13]) (by kernel_rfl) (by simp) ?_
    refine consL rfl (fun K hK => ?_) AllReadyH.nil
    go_simp
    refine (HMA'.out _).mono ?_
    rintro e9 w9 ⟨rfl,k9⟩
    have k10:Nw wr w9:=(((Kp.refl _ _).alloc _).drew).trans k9
    try dsimp only
    refine hK.out _ _ k10 (fun _ => ?_)
    clear hK K
    try simp only [Act.put,sA,sZ,sS]
    have HBA9:Hid (Bx w9 wr.heap.size (mtC ⟨0,0,0,0,0,0⟩)):=HBA.out.kp (by rw [mtC_len];omega) k9 (fun h=>h)
    have HBT:Hid (Bx (w9.setCells wr.heap.size 0 [.int .i64 mf,.int .i64 ml,.int .i64 m0,.int .i64 m1,.int .i64 m2,.int .i64 m3]) wr.heap.size [.int .i64 mf,.int .i64 ml,.int .i64 m0,.int .i64 m1,.int .i64 m2,.int .i64 m3]):=HBA9.out.put rfl
    have HTT:Hid (w9.there wr.heap.size 0 6):=HBA9.out.there rfl
    have HK10:Hid (Nw wr (w9.setCells wr.heap.size 0 [.int .i64 mf,.int .i64 ml,.int .i64 m0,.int .i64 m1,.int .i64 m2,.int .i64 m3])):=k10.trans' (kp_setCells _ 0 _) (by intro b hb e;omega)
    refine wpAnyH_ready (rs:=[15]) (by kernel_rfl) (by simp) ?_
    refine consL rfl (fun K hK => ?_) AllReadyH.nil
    rw [if_pos (by rfl)]
    refine wp_store_mid 35 _ _ rfl wr.heap.size 0 #[.int .i64 mf,.int .i64 ml,.int .i64 m0,.int .i64 m1,.int .i64 m2,.int .i64 m3] rfl rfl HTT.out Tryz.sizeMt (all_oneCell_toArray (mtC_one ⟨mf,ml,m0,m1,m2,m3⟩)) ?_
    refine hK.out _ _ HK10.out (fun _ => ?_)
    clear hK K
    try simp only [Act.put,sA,sZ,sS]
    refine wpAnyH_done (by kernel_rfl) ?_ _
    clear hHeld k9 k10 HTT HBA HBA9 HMA'
    generalize (w9.setCells wr.heap.size 0 [.int .i64 mf,.int .i64 ml,.int .i64 m0,.int .i64 m1,.int .i64 m2,.int .i64 m3])=w10 at *
    obtain ⟨BT,hBTe⟩:∃BT,BT=wr.heap.size:=⟨_,rfl⟩
    rw [←hBTe] at HBT
    rw [←hBTe]
    have HBE:Hid (BT=wr.heap.size):=hBTe
    clear hBTe
    have hbt:BT<w10.heap.size:=HBT.out.lt (by simp)
    have hv2:=HV.out
    rw [HIL.out] at hv2
    obtain ⟨vp,vc,hve⟩:=ownsLenX hv2
    have hown:=owns_kp hv2 HK10.out (fun _ _ h=>h)
    clear hv2
    subst hve
    have HV10:Hid (w10.ownsRow w.heap.size 35 6 (.slice vp i vc) i (mtsC (ms.take i))):=hown
    have hs10:wr.heap.size≤w10.heap.size:=HK10.out.size
    clear hown
    go_wp2_with (first
     | (with_reducible (show Go.wpList _ _ _ ({ dst:=_,op:=Op.load 35 _,type:=_,pos:=_,after:=_,guard:=_ }::_) _ _);refine wpList_load_mid rfl 35 _ rfl BT 0 rfl [.int .i64 mf,.int .i64 ml,.int .i64 m0,.int .i64 m1,.int .i64 m2,.int .i64 m3] dm HBT.out.r HMU.out HMD.out HSML.out ?_)
     | (at_builtin;refine wpList_append_lies _ rfl _ _ 30 rfl w.heap.size 35 i1 (.agg #[int i64 0,int i64 0,int i64 0,int i64 0,int i64 0,int i64 0]) 6 48 Tryz.unMts hi1 hy0 hy1 hy2 rfl (by decide) _ _ _ rfl (HV10.out.alloc _) ⟨w10.heap.size,0,none⟩ 1 1 [.int .i64 mf,.int .i64 ml,.int .i64 m0,.int .i64 m1,.int .i64 m2,.int .i64 m3] rfl rfl ?b1 ?b2 (by decide) ?b3 ?b4 ?b5 _ rfl ?_)
     | fail)
    case b1=>intro j u hu;rw [Addr.add_mid];exact (Bx.new w10 [.int .i64 mf,.int .i64 ml,.int .i64 m0,.int .i64 m1,.int .i64 m2,.int .i64 m3] 35).r j u hu
    case b2=>intro u hu;simp only [List.mem_cons,List.not_mem_nil,or_false] at hu;rcases hu with e|e|e|e|e|e <;> rw [e] <;> rfl
    case b3=>unfold maxLen;omega
    case b4=>omega
    case b5=>simp;omega
    intro g3 cap3 w3 hown3 hgrow hat hlt
    have HV3:Hid (w3.ownsRow w.heap.size 35 6 (.slice (some ⟨g3,0,none⟩) (i+1) cap3) (ms.take (i+1)).length (mtsC (ms.take (i+1)))):=by
     have e1:(ms.take (i+1)).length=i+1:=by rw [List.length_take];have:=HML.out;omega
     have e2:mtsC (ms.take (i+1))=mtsC (ms.take i)++[.int .i64 mf,.int .i64 ml,.int .i64 m0,.int .i64 m1,.int .i64 m2,.int .i64 m3]:=by rw [List.take_add_one,HMI.out,Option.toList_some,mtsC_app];simp [mtsC,mtC]
     show World.ownsRow _ _ _ _ _ _ _
     rw [e1,e2];exact hown3
    have HK3:Hid (Nw w w3):=((HK.out.trans HK10.out).alloc _).grown hgrow (fun b hb=>Or.inl (HV10.out.lt b hb).1)
    clear hown3 hgrow hat HBT
    go_wp2
    go_roundg (es.length - (i+1))
    case measure=>rw [HM.out];omega
    case rel=>exact ⟨i+1,by simp,rfl,by omega,by rw [List.length_take] at HV3;exact HV3.out,HK3.out⟩
  ·have hie:i=es.length:=by omega
   subst hie
   have HVE:Hid (wr.ownsRow w.heap.size 35 6 u3 ms.length (mtsC ms)):=by
    have e1:min es.length ms.length=ms.length:=by have:=HML.out;omega
    have:=HV.out
    rw [e1,List.take_of_length_le (by have:=HML.out;omega)] at this
    exact this
   go_wp2
   go_ret
   exact ⟨_,rfl,HVE.out,HK.out⟩
end Go.Proofs.YtcboiapggnmpfaaGreatDoor
