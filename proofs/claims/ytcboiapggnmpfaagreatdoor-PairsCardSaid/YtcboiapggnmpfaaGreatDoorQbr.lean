import Derived.Test.YtcboiapggnmpfaaGreatDoorQbm
import Derived.Test.YtcboiapggnmpfaaGreatDoorQbq
import Derived.Test.YtcboiapggnmpfaaGreatDoorQaf
namespace Go.Proofs.YtcboiapggnmpfaaGreatDoor
set_option maxRecDepth 100000
set_option maxHeartbeats 8000000
set_option linter.unusedSimpArgs false
set_option linter.unusedVariables false
open Go.RowKit
open Value (int bool slice)
open IntKind (i64)
def runC (sc:List Int) (live found:Int) (cv bv wv:Value) (count last:Int) (spent:Bool):List Value :=
 [.int .i64 sc.length,.int .i64 (scF sc 0),.int .i64 (scF sc 1),.int .i64 (scF sc 2),.int .i64 (scF sc 3)]++[.int .i64 live,.int .i64 found,cv,bv,wv,.int .i64 count,.int .i64 last,.bool spent]
def run0:List Value:=[int i64 0,int i64 0,int i64 0,int i64 0,int i64 0,int i64 0,int i64 0,slice none 0 0,slice none 0 0,slice none 0 0,int i64 0,int i64 0,bool false]
theorem begF_lt {l:List In}:∀(m:Nat) (bs:List Bool) (q tk:List Nat),(∀b∈tk,b<l.length)→∀b∈begF l m bs q tk,b<l.length:=by
 intro m
 induction m with
 | zero=>intro bs q tk h;exact h
 | succ m ih =>
  intro bs q tk h
  simp only [begF]
  split
  ·exact h
  ·split
   ·exact h
   ·rename_i x v hv
    have hx:=(List.getElem?_eq_some_iff.1 hv).1
    split
    ·refine ih _ _ _ ?_
     intro b hb
     rcases List.mem_append.1 hb with e|e
     ·exact h b e
     ·simp only [List.mem_singleton] at e;omega
    ·split
     ·exact ih _ _ _ h
     ·exact ih _ _ _ h
theorem begF_len {l:List In}:∀(m:Nat) (bs:List Bool) (q tk:List Nat),(begF l m bs q tk).length≤tk.length+m:=by
 intro m
 induction m with
 | zero=>intro bs q tk;exact Nat.le_refl _
 | succ m ih =>
  intro bs q tk
  simp only [begF]
  split
  ·omega
  ·split
   ·omega
   ·split
    ·exact Nat.le_trans (ih _ _ _) (by simp;omega)
    ·split
     ·exact Nat.le_trans (ih _ _ _) (by omega)
     ·exact Nat.le_trans (ih _ _ _) (by omega)
theorem beginsS_ok (l:List In) (hl:l.length≤1000):(beginsS l).length≤2000∧∀b∈beginsS l,b<l.length:=by
 unfold beginsS
 exact ⟨Nat.le_trans (begF_len _ _ _ _) (by simp;omega),begF_lt _ _ _ _ (by simp)⟩
theorem fold_in {LT:List Value} (h:LT.length=14):LT.zipIdx.foldl (fun cs x=>cs.setIfInBounds x.2 x.1) #[int i64 0,int i64 0,int i64 0,int i64 0,int i64 0,int i64 0,int i64 0,int i64 0,int i64 0,int i64 0,int i64 0,int i64 0,int i64 0,int i64 0]=LT.toArray:=by
 have:=fold_set LT 0 [] (insC in00) [] rfl (by rw [insC_len,h])
 simp only [List.nil_append,List.append_nil] at this
 rw [zerosIn] at this
 exact this
theorem Tryz.rowRun:(Tryz.prog.underlying 83).map TypeDesc.isRow=some true:=by kernel_rfl
theorem Tryz.sizeRun:(Tryz.prog.info? 83).map (·.size)=some 13:=by kernel_rfl
theorem load_run {w:World} {B:Nat} {cs:List Value} (hl:cs.length=13) (h:w.rangeAt B 0 cs):(loadVar 83 ⟨B,0,none⟩).run Tryz.prog w=.ok (.agg cs.toArray) w:=by
 obtain ⟨dd,hu,hd⟩:=Option.map_eq_some_iff.1 Tryz.rowRun
 exact run_loadVar_mid w B 0 83 cs dd h hu hd (by rw [hl];exact Tryz.sizeRun)
def BgPost (w:World) (sc:List Int) (live found:Int) (l:List In) (r:Ending) (w':World):Prop :=
 ∃ov bv,r=.returned (.agg (runC sc live found ov bv (.slice none 0 0) 0 0 false).toArray)∧w'.ownsRow w.heap.size 120 14 ov l.length (codeC l)∧w'.ownsRow w.heap.size 3 1 bv (beginsS l).length (intsV (beginsS l))∧Nw w w'
theorem begin_any (sc:List Int) (live found:Int) (g cap:Nat) (l:List In) (w:World) (hc:Code' w g l) (hA:AllIns l) (h0:0<l.length) (hn:l.length≤1000) :
  Calls Tryz.prog 33 #[schV sc,.agg #[.int .i64 live,.int .i64 found],.slice (some ⟨g,0,none⟩) l.length cap] w (BgPost w sc live found l):=by
 obtain ⟨dd,hu,hd⟩:=Option.map_eq_some_iff.1 Tryz.rowIn
 have HU:Hid (Tryz.prog.underlying 120=some dd):=hu
 have HD:Hid (dd.isRow=true):=hd
 obtain ⟨i0,hi0,hz0,hz1,hz2⟩:=info_parts Tryz.info120
 have HC:Hid (Code' w g l):=hc
 have hgl:=hc.lt
 have HAI:Hid (AllIns l):=hA
 have HK6:Hid (Nw w (((w.alloc (.cells #[.int .i64 sc.length,.int .i64 (scF sc 0),.int .i64 (scF sc 1),.int .i64 (scF sc 2),.int .i64 (scF sc 3)] 75)).alloc (.cells #[.int .i64 live,.int .i64 found] 46)).alloc (.cells #[int i64 0,int i64 0,int i64 0,int i64 0,int i64 0,int i64 0,int i64 0,slice none 0 0,slice none 0 0,slice none 0 0,int i64 0,int i64 0,bool false] 83))):=(((Kp.refl _ w).alloc _).alloc _).alloc _
 have HB3:Hid (Bx (((w.alloc (.cells #[.int .i64 sc.length,.int .i64 (scF sc 0),.int .i64 (scF sc 1),.int .i64 (scF sc 2),.int .i64 (scF sc 3)] 75)).alloc (.cells #[.int .i64 live,.int .i64 found] 46)).alloc (.cells #[int i64 0,int i64 0,int i64 0,int i64 0,int i64 0,int i64 0,int i64 0,slice none 0 0,slice none 0 0,slice none 0 0,int i64 0,int i64 0,bool false] 83)) w.heap.size [.int .i64 sc.length,.int .i64 (scF sc 0),.int .i64 (scF sc 1),.int .i64 (scF sc 2),.int .i64 (scF sc 3)]):=(Bx.new w [.int .i64 sc.length,.int .i64 (scF sc 0),.int .i64 (scF sc 1),.int .i64 (scF sc 2),.int .i64 (scF sc 3)] 75).kp (by simp) (((Kp.refl (fun _=>False) _).alloc _).alloc _) (fun h=>h)
 have HB4:Hid (Bx (((w.alloc (.cells #[.int .i64 sc.length,.int .i64 (scF sc 0),.int .i64 (scF sc 1),.int .i64 (scF sc 2),.int .i64 (scF sc 3)] 75)).alloc (.cells #[.int .i64 live,.int .i64 found] 46)).alloc (.cells #[int i64 0,int i64 0,int i64 0,int i64 0,int i64 0,int i64 0,int i64 0,slice none 0 0,slice none 0 0,slice none 0 0,int i64 0,int i64 0,bool false] 83)) (w.heap.size+1) [.int .i64 live,.int .i64 found]):=by
  have:=(Bx.new (w.alloc (.cells #[.int .i64 sc.length,.int .i64 (scF sc 0),.int .i64 (scF sc 1),.int .i64 (scF sc 2),.int .i64 (scF sc 3)] 75)) [.int .i64 live,.int .i64 found] 46).kp (by simp) ((Kp.refl (fun _=>False) _).alloc (.cells #[int i64 0,int i64 0,int i64 0,int i64 0,int i64 0,int i64 0,int i64 0,slice none 0 0,slice none 0 0,slice none 0 0,int i64 0,int i64 0,bool false] 83)) (fun h=>h)
  rwa [show (w.alloc (.cells #[.int .i64 sc.length,.int .i64 (scF sc 0),.int .i64 (scF sc 1),.int .i64 (scF sc 2),.int .i64 (scF sc 3)] 75)).heap.size=w.heap.size+1 by simp] at this
 have HB6:Hid (Bx (((w.alloc (.cells #[.int .i64 sc.length,.int .i64 (scF sc 0),.int .i64 (scF sc 1),.int .i64 (scF sc 2),.int .i64 (scF sc 3)] 75)).alloc (.cells #[.int .i64 live,.int .i64 found] 46)).alloc (.cells #[int i64 0,int i64 0,int i64 0,int i64 0,int i64 0,int i64 0,int i64 0,slice none 0 0,slice none 0 0,slice none 0 0,int i64 0,int i64 0,bool false] 83)) (w.heap.size+1+1) run0):=by
  have:=Bx.new ((w.alloc (.cells #[.int .i64 sc.length,.int .i64 (scF sc 0),.int .i64 (scF sc 1),.int .i64 (scF sc 2),.int .i64 (scF sc 3)] 75)).alloc (.cells #[.int .i64 live,.int .i64 found] 46)) run0 83
  rwa [show ((w.alloc (.cells #[.int .i64 sc.length,.int .i64 (scF sc 0),.int .i64 (scF sc 1),.int .i64 (scF sc 2),.int .i64 (scF sc 3)] 75)).alloc (.cells #[.int .i64 live,.int .i64 found] 46)).heap.size=w.heap.size+1+1 by simp] at this
 unfold schV
 clear hu hd hA hc
 go_enter Tryz.func33,Tryz.ntmps33
 go_wp2
 generalize (((w.alloc (.cells #[.int .i64 sc.length,.int .i64 (scF sc 0),.int .i64 (scF sc 1),.int .i64 (scF sc 2),.int .i64 (scF sc 3)] 75)).alloc (.cells #[.int .i64 live,.int .i64 found] 46)).alloc (.cells #[int i64 0,int i64 0,int i64 0,int i64 0,int i64 0,int i64 0,int i64 0,slice none 0 0,slice none 0 0,slice none 0 0,int i64 0,int i64 0,bool false] 83))=w6 at *
 have hs6:w.heap.size+1+1<w6.heap.size:=HB6.out.lt (by simp [run0])
 go_loopg [7,8] l.length (fun m v7 v8 wr=>∃i:Nat,v8=.int .i64 i∧m=l.length - i∧i≤l.length∧wr.ownsRow w6.heap.size 120 14 v7 i (codeC (l.take i))∧Nw w6 wr)
 case atStart=>exact ⟨0,rfl,rfl,by omega,by simpa [codeC] using World.ownsRow_nil w6 w6.heap.size 120 14,Kp.refl _ _⟩
 case round =>
  obtain ⟨i,rfl,hm,hi,ho,hk⟩:=hrel
  have HM:Hid (_=l.length - i):=hm
  have HO:Hid (wr.ownsRow w6.heap.size 120 14 u7 i (codeC (l.take i))):=ho
  have HK:Hid (Nw w6 wr):=hk
  have h6r:w6.heap.size≤wr.heap.size:=hk.size
  obtain ⟨vp,vc,hve⟩:=ownsLenX ho
  clear hm ho hk
  subst hve
  by_cases hil:i<l.length
  ·obtain ⟨x,hx⟩:∃x,l[i]? = some x:=⟨_,List.getElem?_eq_getElem hil⟩
   have HX:Hid (l[i]? = some x):=hx
   have HR:Hid (wr.rangeAt g (i*14) (insC x)):=fun j v hv=>((HC.out.kp (HK6.out.trans HK.out) (fun h=>h)).ins i x hx) j v hv
   have HSI:Hid ((Tryz.prog.info? 120).map (·.size)=some (insC x).length):=size_in x
   have HON:Hid (∀v∈insC x,v.oneCell'=true):=oneCellsI x
   have HCI:Hid (codeC (l.take (i+1))=codeC (l.take i)++insC x):=by show _=_;rw [List.take_add_one,hx,Option.toList_some,codeC_one1]
   have hLN:(insC x).length=14:=rfl
   have hfold:=fold_in hLN
   have hgr:g<wr.heap.size:=by omega
   clear hx
   generalize insC x=LX at *
   go_wp2_with (first
    | (with_reducible (show Go.wpList _ _ _ ({ dst:=_,op:=Op.load 120 _,type:=_,pos:=_,after:=_,guard:=_ }::_) _ _);refine wpList_load_mid rfl 120 _ rfl g (i*14) (by simp [go_sem]) LX dd HR.out HU.out HD.out HSI.out ?_)
    | (at_builtin;refine wpList_append_lies _ rfl _ _ 53 rfl w6.heap.size 120 i0 (.agg #[int i64 0,int i64 0,int i64 0,int i64 0,int i64 0,int i64 0,int i64 0,int i64 0,int i64 0,int i64 0,int i64 0,int i64 0,int i64 0,int i64 0]) 14 112 Tryz.underlying53 hi0 hz0 hz1 hz2 rfl (by decide) _ _ _ rfl (HO.out.alloc _) ⟨wr.heap.size,0,none⟩ 1 1 LX rfl hLN ?b1 HON.out (by decide) ?b3 ?b4 ?b5 _ rfl ?_)
    | fail)
   case b1=>intro j u hu;rw [Addr.add_mid];exact (Bx.new wr LX 120).r j u hu
   case b3=>unfold maxLen;omega
   case b4=>omega
   case b5=>simp;omega
   intro g3 cap3 w3 hown3 hgrow hat hlt
   have HO3:Hid (w3.ownsRow w6.heap.size 120 14 (.slice (some ⟨g3,0,none⟩) (i+1) cap3) (i+1) (codeC (l.take (i+1)))):=by
    show World.ownsRow _ _ _ _ _ _ _
    rw [HCI.out];exact hown3
   have HK3:Hid (Nw w6 w3):=(HK.out.alloc _).grown hgrow (fun b hb=>Or.inl (HO.out.lt b hb).1)
   clear hown3 hgrow hat hfold hLN
   go_wp2
   go_roundg (l.length - (i+1))
   case measure=>rw [HM.out];omega
   case rel=>exact ⟨i+1,by simp,rfl,by omega,HO3.out,HK3.out⟩
  ·have hie:i=l.length:=by omega
   subst hie
   have HOL:=HO.out
   rw [List.take_length] at HOL
   have HO':Hid (wr.ownsRow w6.heap.size 120 14 (.slice vp l.length vc) l.length (codeC l)):=HOL
   obtain ⟨g2,c2,hg2⟩:=owns_some HOL h0
   simp only [Value.slice.injEq,true_and] at hg2
   obtain ⟨rfl,rfl⟩:=hg2
   clear HOL
   have HBR:Hid (∀W,Nw wr W→Bx W w.heap.size [.int .i64 sc.length,.int .i64 (scF sc 0),.int .i64 (scF sc 1),.int .i64 (scF sc 2),.int .i64 (scF sc 3)]∧Bx W (w.heap.size+1) [.int .i64 live,.int .i64 found]):=fun W kW=>⟨HB3.out.kp (by simp) (HK.out.trans kW) (fun h=>h),HB4.out.kp (by simp) (HK.out.trans kW) (fun h=>h)⟩
   have HCD:Hid (∀W,Nw wr W→Code' W g2 l):=fun W kW=>by
    have ho:=owns_kp HO'.out kW (fun _ _ h=>h)
    exact Code'.of_cells (ho.lt g2 rfl).2 (fun j v hv=>owns_cell ho j hv)
   have HBE:Hid (∀W,Nw wr W→Calls Tryz.prog 52 #[.slice (some ⟨g2,0,none⟩) l.length vc] W fun e w'=>∃v,e=.returned v∧w'.ownsRow W.heap.size 3 1 v (beginsS l).length (intsV (beginsS l))∧Nw W w'):=fun W kW=>begins_any g2 vc l W (HCD.out W kW) HAI.out h0 hn
   have s1:∀W,(Bx W w.heap.size [.int .i64 sc.length,.int .i64 (scF sc 0),.int .i64 (scF sc 1),.int .i64 (scF sc 2),.int .i64 (scF sc 3)]∧Bx W (w.heap.size+1) [.int .i64 live,.int .i64 found])→W.cell? ⟨w.heap.size,0,none⟩=some (.int .i64 sc.length)∧W.cell? ⟨w.heap.size,1,none⟩=some (.int .i64 (scF sc 0))∧W.cell? ⟨w.heap.size,2,none⟩=some (.int .i64 (scF sc 1))∧W.cell? ⟨w.heap.size,3,none⟩=some (.int .i64 (scF sc 2))∧W.cell? ⟨w.heap.size,4,none⟩=some (.int .i64 (scF sc 3))∧W.cell? ⟨w.heap.size+1,0,none⟩=some (.int .i64 live)∧W.cell? ⟨w.heap.size+1,1,none⟩=some (.int .i64 found):=by
    rintro W ⟨h4,h5⟩
    exact ⟨h4.cell (k:=0) rfl,h4.cell (k:=1) rfl,h4.cell (k:=2) rfl,h4.cell (k:=3) rfl,h4.cell (k:=4) rfl,h5.cell (k:=0) rfl,h5.cell (k:=1) rfl⟩
   go_wp2
   refine wp_region_held_drew (S:=fun W=>Bx W w.heap.size [.int .i64 sc.length,.int .i64 (scF sc 0),.int .i64 (scF sc 1),.int .i64 (scF sc 2),.int .i64 (scF sc 3)]∧Bx W (w.heap.size+1) [.int .i64 live,.int .i64 found]) (by kernel_rfl) (HBR.out _ ((Kp.refl _ _).drew)) (fun hHeld => ?_)
   refine tM 0 rfl (fun W hSW=>by (try dsimp only at hSW);go_simp;rw []) hHeld ?_
   refine tM 1 rfl (fun W hSW=>by (try dsimp only at hSW);go_simp;rw []) hHeld ?_
   refine tM 2 rfl (fun W hSW=>by (try dsimp only at hSW);go_simp;rw []) hHeld ?_
   refine tM 3 rfl (fun W hSW=>by (try dsimp only at hSW);go_simp;rw []) hHeld ?_
   refine wpAnyH_ready (rs:=[4]) (by kernel_rfl) (by simp) ?_
   refine consL rfl (fun K hK => ?_) AllReadyH.nil
   go_simp
   refine (HBE.out _ ((Kp.refl _ _).drew)).mono ?_
   rintro e7 w7 ⟨bv,rfl,hob,k7⟩
   have k8:Nw wr w7:=((Kp.refl _ _).drew).trans k7
   have hS7:=HBR.out w7 k8
   try dsimp only
   refine hK.out _ _ hS7 (fun _ => ?_)
   clear hK K
   try simp only [Act.put,sA,sZ,sS]
   obtain ⟨bp,bc,hbve⟩:=ownsLenX hob
   subst hbve
   refine tM 5 rfl (fun W hSW=>by (try dsimp only at hSW);go_simp;rw []) hS7 ?_
   have HB7:Hid (Bx w7 (w.heap.size+1+1) run0):=HB6.out.kp (by simp [run0]) (HK.out.trans k8) (fun h=>h)
   have HTH:Hid (w7.there (w.heap.size+1+1) 0 (runC sc live found (.slice (some ⟨g2,0,none⟩) l.length vc) (.slice bp (beginsS l).length bc) (.slice none 0 0) 0 0 false).toArray.size):=HB7.out.there rfl
   have kk:Kp (fun b=>b=w.heap.size+1+1) w7 (w7.setCells (w.heap.size+1+1) 0 (runC sc live found (.slice (some ⟨g2,0,none⟩) l.length vc) (.slice bp (beginsS l).length bc) (.slice none 0 0) 0 0 false)):=kp_setCells _ _ _
   have h7r:wr.heap.size≤w7.heap.size:=k8.size
   have HE:Hid (Bx (w7.setCells (w.heap.size+1+1) 0 (runC sc live found (.slice (some ⟨g2,0,none⟩) l.length vc) (.slice bp (beginsS l).length bc) (.slice none 0 0) 0 0 false)) (w.heap.size+1+1) (runC sc live found (.slice (some ⟨g2,0,none⟩) l.length vc) (.slice bp (beginsS l).length bc) (.slice none 0 0) 0 0 false)):=HB7.out.put rfl
   have hS8:Bx (w7.setCells (w.heap.size+1+1) 0 (runC sc live found (.slice (some ⟨g2,0,none⟩) l.length vc) (.slice bp (beginsS l).length bc) (.slice none 0 0) 0 0 false)) w.heap.size _∧Bx (w7.setCells (w.heap.size+1+1) 0 (runC sc live found (.slice (some ⟨g2,0,none⟩) l.length vc) (.slice bp (beginsS l).length bc) (.slice none 0 0) 0 0 false)) (w.heap.size+1) _:=⟨hS7.1.kp (by simp) kk (by omega),hS7.2.kp (by simp) kk (by omega)⟩
   have HON:Hid (∀v∈(runC sc live found (.slice (some ⟨g2,0,none⟩) l.length vc) (.slice bp (beginsS l).length bc) (.slice none 0 0) 0 0 false),v.oneCell'=true):=by
    intro v hv
    simp only [runC,List.mem_append,List.mem_cons,List.not_mem_nil,or_false] at hv
    rcases hv with (e|e|e|e|e)|(e|e|e|e|e|e|e|e) <;> rw [e] <;> rfl
   have HFIN:Hid (BgPost w sc live found l (.returned (.agg (runC sc live found (.slice (some ⟨g2,0,none⟩) l.length vc) (.slice bp (beginsS l).length bc) (.slice none 0 0) 0 0 false).toArray)) (w7.setCells (w.heap.size+1+1) 0 (runC sc live found (.slice (some ⟨g2,0,none⟩) l.length vc) (.slice bp (beginsS l).length bc) (.slice none 0 0) 0 0 false))):=by
    refine ⟨_,_,rfl,?_,?_,?_⟩
    ·exact owns_baseP (owns_kp (owns_kp HO'.out k8 (fun _ _ h=>h)) kk (by intro b hb e;have:=(HO'.out.lt b hb).1;omega)) (by omega)
    ·exact owns_baseP (owns_kp hob kk (by intro b hb e;have h1:=(hob.lt b hb).1;have h2:wr.heap.size≤b:=h1;omega)) (by show w.heap.size≤wr.heap.size;omega)
    ·exact ((HK6.out.trans HK.out).trans k8).trans' kk (by intro b hb e;omega)
   clear kk hob
   refine wpAnyH_ready (rs:=[6]) (by kernel_rfl) (by simp) ?_
   refine consL rfl (fun K hK => ?_) AllReadyH.nil
   rw [if_pos (by rfl)]
   refine wp_store_mid 83 _ _ rfl (w.heap.size+1+1) 0 (runC sc live found (.slice (some ⟨g2,0,none⟩) l.length vc) (.slice bp (beginsS l).length bc) (.slice none 0 0) 0 0 false).toArray rfl rfl HTH.out Tryz.sizeRun (all_oneCell_toArray HON.out) ?_
   refine hK.out _ _ hS8 (fun _ => ?_)
   clear hK K
   try simp only [Act.put,sA,sZ,sS]
   refine wpAnyH_done (by kernel_rfl) ?_ _
   clear hHeld hS7 hS8 s1 k8 k7
   go_wp2
   refine bodyPost_ret (results_cX Tryz.results33 _ _ _ ⟨w.heap.size+1+1,0,none⟩ rfl _ (load_run rfl HE.out.r)) rfl ?_
   exact HFIN.out
theorem allows_any (live found:Int) (w:World) (h1:1≤live) (h2:live≤200) (h3:1≤found) (h4:found≤200) :
  Calls Tryz.prog 31 #[.agg #[.int .i64 live,.int .i64 found]] w fun e w'=>e=.returned (.bool true)∧Nw w w':=by
 have g1:decide (1≤live)=true:=by simpa using h1
 have g2:decide (live≤200)=true:=by simpa using h2
 have g3:decide (1≤found)=true:=by simpa using h3
 have g4:decide (found≤200)=true:=by simpa using h4
 clear h1 h2 h3 h4
 go_enter Tryz.func31,Tryz.ntmps31
 go_wp2
 go_ret
 exact ⟨by simp,(Kp.refl _ w).alloc _⟩
theorem schema_len {l:List Int} (h:schemaB l=true):l.length≤4:=by
 unfold schemaB at h
 simp only [Bool.and_eq_true,decide_eq_true_eq] at h
 exact h.2
structure NewRun (w w':World) (X:Nat) (sc:List Int) (live found:Int) (l:List In):Prop where
 k:∃g cap bv,RunK w' X sc live found g cap l bv (beginsS l) ⟨[],0,0,false⟩∧w.heap.size≤g∧(∀b,bv.ownBlock=some b→w.heap.size≤b)
 c:RunC sc live found l (beginsS l)
 x:w.heap.size≤X
 n:Nw w w'
 e:w'.cell? ⟨X,9,none⟩=some (.slice none 0 0)
def LdPost (w:World) (sc:List Int) (live found:Int) (l:List In) (e:Ending) (w':World):Prop :=
 ∃X,e=.returned (.tuple #[.pointer (some ⟨X,0,none⟩),.int .i64 0])∧NewRun w w' X sc live found l
theorem load_any (s:ByteArray) (live found:Int) (g cap:Nat) (l:List In) (w:World) (hs:s.size≤maxLen) (hsc:schemaB (bI s)=true) (h1:1≤live) (h2:live≤200) (h3:1≤found) (h4:found≤200) (hc:Code' w g l) (hV:ValidIs l 0 0) (hI:∀x∈l,InOk x) :
  Calls Tryz.prog 21 #[.string s,.agg #[.int .i64 live,.int .i64 found],.slice (some ⟨g,0,none⟩) l.length cap] w (LdPost w (bI s) live found l):=by
 obtain ⟨hln,hne,hA⟩:=hV.all
 have h0:0<l.length:=List.length_pos_iff.2 hne
 have hm:l.length≤maxLen:=by unfold maxLen;omega
 have HRC:Hid (RunC (bI s) live found l (beginsS l)):=⟨hln,hA,hI,(beginsS_ok l hln).1,(beginsS_ok l hln).2,by omega,by omega,schema_len hsc⟩
 have HKR:Hid (∀W,Calls Tryz.prog 30 #[.string s] W fun e w'=>e=.returned (.tuple #[.agg #[.int .i64 (bI s).length,.int .i64 (scF (bI s) 0),.int .i64 (scF (bI s) 1),.int .i64 (scF (bI s) 2),.int .i64 (scF (bI s) 3)],.bool true])∧Nw W w'):=fun W=>by
  refine (readK_any s W hs).mono ?_
  rintro e w' ⟨hn,h|h⟩
  ·exact ⟨h.2,hn⟩
  ·rw [hsc] at h;simp at h
 have HAL:Hid (∀W,Calls Tryz.prog 31 #[.agg #[.int .i64 live,.int .i64 found]] W fun e w'=>e=.returned (.bool true)∧Nw W w'):=fun W=>allows_any live found W h1 h2 h3 h4
 have HVA:Hid (∀W,Nw w W→Calls Tryz.prog 32 #[.slice (some ⟨g,0,none⟩) l.length cap] W fun e w'=>e=.returned (.tuple #[.int .i64 0,.int .i64 0])∧Nw W w'):=fun W kW=>by
  refine (validP_any (some ⟨g,0,none⟩) cap l W (fun _=>⟨g,rfl,hc.kp kW (fun h=>h)⟩) hm).mono ?_
  rintro e w' ⟨a,b,rfl,hab,hk⟩
  obtain ⟨e1,e2⟩:=hV.uniq hab
  exact ⟨by rw [←e1,←e2],hk⟩
 have HBG:Hid (∀W,Nw w W→Calls Tryz.prog 33 #[.agg #[.int .i64 (bI s).length,.int .i64 (scF (bI s) 0),.int .i64 (scF (bI s) 1),.int .i64 (scF (bI s) 2),.int .i64 (scF (bI s) 3)],.agg #[.int .i64 live,.int .i64 found],.slice (some ⟨g,0,none⟩) l.length cap] W (BgPost W (bI s) live found l)):=fun W kW=>begin_any (bI s) live found g cap l W (hc.kp kW (fun h=>h)) hA h0 hln
 have HK0:Hid (Nw w (w.alloc (.cells #[.int .i64 live,.int .i64 found] 46))):=(Kp.refl _ w).alloc _
 have HB0:Hid (∀W,Nw (w.alloc (.cells #[.int .i64 live,.int .i64 found] 46)) W→Bx W w.heap.size [.int .i64 live,.int .i64 found]):=fun W kW=>(Bx.new w [.int .i64 live,.int .i64 found] 46).kp (by simp) kW (fun h=>h)
 clear hs hsc h1 h2 h3 h4 hc hV hI hln hne hA hm
 generalize (bI s)=sc at *
 go_enter Tryz.func21,Tryz.ntmps21
 go_wp2_with fail
 refine (HKR.out _).mono ?_
 rintro e1 w1 ⟨rfl,k1⟩
 have HK1:Hid (Nw (w.alloc (.cells #[.int .i64 live,.int .i64 found] 46)) w1):=k1
 have HK1W:Hid (Nw w w1):=HK0.out.trans k1
 have hb:=HB0.out w1 k1
 have d0:=hb.cell (k:=0) (v:=.int .i64 live) rfl
 have d1:=hb.cell (k:=1) (v:=.int .i64 found) rfl
 have hw1:w.heap.size<w1.heap.size:=hb.lt (by simp)
 clear k1 hb HKR
 go_wp2_with fail
 refine (HAL.out _).mono ?_
 have HBB:Hid (∀W,Nw (w1.alloc (.cells #[.int .i64 sc.length,.int .i64 (scF sc 0),.int .i64 (scF sc 1),.int .i64 (scF sc 2),.int .i64 (scF sc 3)] 75)) W→Bx W w.heap.size [.int .i64 live,.int .i64 found]∧Bx W w1.heap.size [.int .i64 sc.length,.int .i64 (scF sc 0),.int .i64 (scF sc 1),.int .i64 (scF sc 2),.int .i64 (scF sc 3)]):=fun W kW=>⟨HB0.out W (HK1.out.trans (((Kp.refl _ _).alloc _).trans kW)),(Bx.new w1 [.int .i64 sc.length,.int .i64 (scF sc 0),.int .i64 (scF sc 1),.int .i64 (scF sc 2),.int .i64 (scF sc 3)] 75).kp (by simp) kW (fun h=>h)⟩
 have HK1A:Hid (Nw w (w1.alloc (.cells #[.int .i64 sc.length,.int .i64 (scF sc 0),.int .i64 (scF sc 1),.int .i64 (scF sc 2),.int .i64 (scF sc 3)] 75))):=HK1W.out.alloc _
 rintro e2 w2 ⟨rfl,k2⟩
 have HK2:Hid (Nw (w1.alloc (.cells #[.int .i64 sc.length,.int .i64 (scF sc 0),.int .i64 (scF sc 1),.int .i64 (scF sc 2),.int .i64 (scF sc 3)] 75)) w2):=k2
 have HK2W:Hid (Nw w w2):=HK1A.out.trans k2
 clear d0 d1 k2 HAL hw1
 have hbL:=HBB.out w2 HK2.out
 have d0:=hbL.1.cell (k:=0) (v:=.int .i64 live) rfl
 have d1:=hbL.1.cell (k:=1) (v:=.int .i64 found) rfl
 have f0:=hbL.2.cell (k:=0) (v:=.int .i64 sc.length) rfl
 have f1:=hbL.2.cell (k:=1) (v:=.int .i64 (scF sc 0)) rfl
 have f2:=hbL.2.cell (k:=2) (v:=.int .i64 (scF sc 1)) rfl
 have f3:=hbL.2.cell (k:=3) (v:=.int .i64 (scF sc 2)) rfl
 have f4:=hbL.2.cell (k:=4) (v:=.int .i64 (scF sc 3)) rfl
 have hl1:=hbL.1.lt (by simp)
 have hl2:=hbL.2.lt (by simp)
 clear hbL
 go_wp2_with fail
 refine (HVA.out _ HK2W.out).mono ?_
 rintro e3 w3 ⟨rfl,k3⟩
 have HK3:Hid (Nw (w1.alloc (.cells #[.int .i64 sc.length,.int .i64 (scF sc 0),.int .i64 (scF sc 1),.int .i64 (scF sc 2),.int .i64 (scF sc 3)] 75)) w3):=HK2.out.trans k3
 have HK3W:Hid (Nw w w3):=HK1A.out.trans HK3.out
 clear d0 d1 f0 f1 f2 f3 f4 hl1 hl2 k3 HVA
 have hbL:=HBB.out w3 HK3.out
 have d0:=hbL.1.cell (k:=0) (v:=.int .i64 live) rfl
 have d1:=hbL.1.cell (k:=1) (v:=.int .i64 found) rfl
 have f0:=hbL.2.cell (k:=0) (v:=.int .i64 sc.length) rfl
 have f1:=hbL.2.cell (k:=1) (v:=.int .i64 (scF sc 0)) rfl
 have f2:=hbL.2.cell (k:=2) (v:=.int .i64 (scF sc 1)) rfl
 have f3:=hbL.2.cell (k:=3) (v:=.int .i64 (scF sc 2)) rfl
 have f4:=hbL.2.cell (k:=4) (v:=.int .i64 (scF sc 3)) rfl
 have hl1:=hbL.1.lt (by simp)
 have hl2:=hbL.2.lt (by simp)
 clear hbL
 go_wp2_with fail
 refine (HBG.out _ HK3W.out).mono ?_
 rintro e4 w4 ⟨ov,bv,rfl,ho,hb,k4⟩
 have HFIN:Hid (LdPost w sc live found l (.returned (.tuple #[.pointer (some ⟨w4.heap.size,0,none⟩),.int .i64 0])) (w4.alloc (.cells (runC sc live found ov bv (.slice none 0 0) 0 0 false).toArray 86))):=by
  have k5:Nw w4 (w4.alloc (.cells (runC sc live found ov bv (.slice none 0 0) 0 0 false).toArray 86)):=(Kp.refl _ _).alloc _
  have bx:=Bx.new w4 (runC sc live found ov bv (.slice none 0 0) 0 0 false) 86
  have hne:0<l.length:=h0
  obtain ⟨g2,c2,hg2⟩:=owns_some ho hne
  have ho5:=owns_kp ho k5 (fun _ _ h=>h)
  have hb5:=owns_kp hb k5 (fun _ _ h=>h)
  have hw3:=HK3W.out.size
  have hw4:=k4.size
  subst hg2
  have hg2l:=ho.lt g2 rfl
  refine ⟨w4.heap.size,rfl,⟨⟨g2,c2,bv,⟨⟨.slice none 0 0,?_⟩,by simp,by simp⟩,by omega,?_⟩,HRC.out,by omega,(HK3W.out.trans k4).trans k5,bx.cell (k:=9) rfl⟩⟩
  ·refine ⟨?_,bx.cell (k:=5) rfl,bx.cell (k:=6) rfl,bx.cell (k:=7) rfl,bx.cell (k:=8) rfl,bx.cell (k:=9) rfl,bx.cell (k:=10) rfl,bx.cell (k:=11) rfl,bx.cell (k:=12) rfl,bx.z,Code'.of_cells (ho5.lt g2 rfl).2 (fun j v hv=>owns_cell ho5 j hv),owns_baseP hb5 (by omega),World.ownsRow_nil _ _ _ _,by omega,?_,by simp [Value.ownBlock]⟩
   ·intro j v hv
    have hj:=(List.getElem?_eq_some_iff.1 hv).1
    refine bx.r j v ?_
    unfold runC
    rw [List.getElem?_append_left hj];exact hv
   ·intro e
    have:=(hb.lt _ e).2;omega
  ·intro b hbb
   have:=(hb.lt b hbb).1;omega
 obtain ⟨op1,oc1,hov⟩:=ownsLenX ho
 obtain ⟨bp1,bc1,hbv⟩:=ownsLenX hb
 subst hov hbv
 clear ho hb k4 d0 d1 f0 f1 f2 f3 f4 hl1 hl2
 unfold runC at *
 simp only [List.cons_append,List.nil_append] at *
 go_wp2
 go_ret2
 exact HFIN.out
end Go.Proofs.YtcboiapggnmpfaaGreatDoor
