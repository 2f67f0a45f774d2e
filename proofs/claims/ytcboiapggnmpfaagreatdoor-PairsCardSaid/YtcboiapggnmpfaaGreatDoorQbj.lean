import Derived.Test.YtcboiapggnmpfaaGreatDoorQbi
namespace Go.Proofs.YtcboiapggnmpfaaGreatDoor
set_option maxRecDepth 100000
set_option maxHeartbeats 8000000
set_option linter.unusedSimpArgs false
set_option linter.unusedVariables false
open Go.RowKit
open Value (int bool slice)
open IntKind (i64)
def stpC (cv:Value) (hand:Nmb) (fr:Thr) (turn:Int) (rv ov wv:Value) (wm:Int) (wo:Bool) (ev:Value) (em:Int) (eo:Bool):List Value :=
 cv::(nmC hand++(thC fr++[.int .i64 turn,rv,ov,wv,.int .i64 wm,.bool wo,ev,.int .i64 em,.bool eo]))
theorem stpC_len (cv:Value) (hand:Nmb) (fr:Thr) (turn:Int) (rv ov wv:Value) (wm:Int) (wo:Bool) (ev:Value) (em:Int) (eo:Bool):(stpC cv hand fr turn rv ov wv wm wo ev em eo).length=43:=by
 simp [stpC,nmC,thC_len]
theorem Tryz.rowSt:(Tryz.prog.underlying 134).map TypeDesc.isRow=some true:=by kernel_rfl
theorem Tryz.sizeSt:(Tryz.prog.info? 134).map (·.size)=some 43:=by kernel_rfl
def stp0:List Value:=stpC (.slice none 0 0) nz th0 0 (.slice none 0 0) (.slice none 0 0) (.slice none 0 0) 0 false (.slice none 0 0) 0 false
theorem zerosSt:stp0.toArray=#[slice none 0 0,int i64 0,int i64 0,int i64 0,int i64 0,int i64 0,int i64 0,int i64 0,int i64 0,int i64 0,int i64 0,int i64 0,int i64 0,int i64 0,int i64 0,int i64 0,int i64 0,int i64 0,int i64 0,int i64 0,int i64 0,int i64 0,int i64 0,int i64 0,int i64 0,int i64 0,int i64 0,int i64 0,int i64 0,int i64 0,int i64 0,int i64 0,int i64 0,int i64 0,int i64 0,slice none 0 0,slice none 0 0,slice none 0 0,int i64 0,bool false,slice none 0 0,int i64 0,bool false]:=rfl
theorem stp0_len:stp0.length=43:=stpC_len _ _ _ _ _ _ _ _ _ _ _ _
theorem stpC_one {cv rv ov wv ev:Value} (h1:cv.oneCell'=true) (h2:rv.oneCell'=true) (h3:ov.oneCell'=true) (h4:wv.oneCell'=true) (h5:ev.oneCell'=true) (hand:Nmb) (fr:Thr) (turn wm em:Int) (wo eo:Bool):∀v∈stpC cv hand fr turn rv ov wv wm wo ev em eo,v.oneCell'=true:=by
 intro v hv
 simp only [stpC,List.mem_cons,List.mem_append,List.not_mem_nil,or_false] at hv
 rcases hv with e|e|e|e
 ·rw [e];exact h1
 ·exact nmC_one hand v e
 ·exact thC_one fr v e
 ·rcases e with e|e|e|e|e|e|e|e|e <;> rw [e] <;> first|assumption|rfl
theorem load_st {w:World} {B:Nat} {cs:List Value} (hl:cs.length=43) (h:w.rangeAt B 0 cs):(loadVar 134 ⟨B,0,none⟩).run Tryz.prog w=.ok (.agg cs.toArray) w:=by
 obtain ⟨dd,hu,hd⟩:=Option.map_eq_some_iff.1 Tryz.rowSt
 exact run_loadVar_mid w B 0 134 cs dd h hu hd (by rw [hl];exact Tryz.sizeSt)
def NsPost (g cap n:Nat) (live found:Int) (e:Nmb) (w:World) (r:Ending) (w':World):Prop :=
 ∃gb,r=.returned (.agg (stpC (.slice (some ⟨g,0,none⟩) n cap) e th0 0 (.slice (some ⟨gb,0,none⟩) (16*n) (16*n)) (.slice none 0 0) (.slice none 0 0) live false (.slice none 0 0) found false).toArray)∧Row w' gb 3 (intsV (List.replicate (16*n) 0))∧w.heap.size≤gb∧Nw w w'
theorem made_ints (n:Nat):(madeCells (int .i64 0).cells (n*1)).toList=intsV (List.replicate n 0):=by
 have e:(int i64 0).cells=#[.int .i64 0]:=rfl
 rw [e,toList_madeCells_one]
 simp [intsV]
theorem step_make {P:Program} {o:Oper} {a:Act} {w:World} {K:Act→World→Prop} {Q:Exit→Act→World→Prop} (t:TypeId) (x:Operand) (ho:o.op=.makeSlice t x x) (n:Nat) (hx:a.eval x=.int .i64 (n:Int)) (base:Nat) (e:TypeId) (i:TypeInfo) (z:Value) (size:Nat) (ht:P.underlying t=some (.slice e)) (hi:P.info? e=some i) (hz:i.zero=some z) (hsize:i.size=size) (hbytes:i.bytes*n≤281474976710656) (h63:n≤maxLen) (hbase:base≤w.heap.size)
  (h:∀w',w'.ownsRow base e size (.slice (some ⟨w.heap.size,0,none⟩) n n) n (madeCells z.cells (n*size)).toList→w.grownBy w' none→K (a.put o.dst (.slice (some ⟨w.heap.size,0,none⟩) n n)) w'):o.wp P a w K Q:=by
 obtain ⟨w',hr,hown,hg⟩:=run_make_full w base t e i z size ht hi hz hsize .i64 .i64 n hbytes h63 hbase
 unfold Oper.wp execOp
 simp only [ho,hx,Sem.run_bind,hr,Result.andThen_ok,Sem.run_pure]
 exact h w' hown hg
theorem newStep_any (g cap n:Nat) (live found:Int) (e:Nmb) (w:World) (hn:n≤1000) :
  Calls Tryz.prog 84 #[.slice (some ⟨g,0,none⟩) n cap,.agg #[.int .i64 live,.int .i64 found],nmV e] w (NsPost g cap n live found e w):=by
 obtain ⟨en,⟨ea,ek,ex,ey,ez⟩⟩:=e
 unfold nmV
 simp only
 obtain ⟨i1,hi1,hy0,hy1,hy2⟩:=info_parts Tryz.info3
 have HK6:Hid (Nw w (((w.alloc (.cells #[.int .i64 live,.int .i64 found] 46)).alloc (.cells #[.int .i64 en,.int .i64 ea,.int .i64 ek,.int .i64 ex,.int .i64 ey,.int .i64 ez] 126)).alloc (.cells #[slice none 0 0,int i64 0,int i64 0,int i64 0,int i64 0,int i64 0,int i64 0,int i64 0,int i64 0,int i64 0,int i64 0,int i64 0,int i64 0,int i64 0,int i64 0,int i64 0,int i64 0,int i64 0,int i64 0,int i64 0,int i64 0,int i64 0,int i64 0,int i64 0,int i64 0,int i64 0,int i64 0,int i64 0,int i64 0,int i64 0,int i64 0,int i64 0,int i64 0,int i64 0,int i64 0,slice none 0 0,slice none 0 0,slice none 0 0,int i64 0,bool false,slice none 0 0,int i64 0,bool false] 134))):=(((Kp.refl _ w).alloc _).alloc _).alloc _
 have HB4:Hid (Bx (((w.alloc (.cells #[.int .i64 live,.int .i64 found] 46)).alloc (.cells #[.int .i64 en,.int .i64 ea,.int .i64 ek,.int .i64 ex,.int .i64 ey,.int .i64 ez] 126)).alloc (.cells #[slice none 0 0,int i64 0,int i64 0,int i64 0,int i64 0,int i64 0,int i64 0,int i64 0,int i64 0,int i64 0,int i64 0,int i64 0,int i64 0,int i64 0,int i64 0,int i64 0,int i64 0,int i64 0,int i64 0,int i64 0,int i64 0,int i64 0,int i64 0,int i64 0,int i64 0,int i64 0,int i64 0,int i64 0,int i64 0,int i64 0,int i64 0,int i64 0,int i64 0,int i64 0,int i64 0,slice none 0 0,slice none 0 0,slice none 0 0,int i64 0,bool false,slice none 0 0,int i64 0,bool false] 134)) w.heap.size [.int .i64 live,.int .i64 found]):=(Bx.new w [.int .i64 live,.int .i64 found] 46).kp (by simp) (((Kp.refl (fun _=>False) _).alloc _).alloc _) (fun h=>h)
 have HB5:Hid (Bx (((w.alloc (.cells #[.int .i64 live,.int .i64 found] 46)).alloc (.cells #[.int .i64 en,.int .i64 ea,.int .i64 ek,.int .i64 ex,.int .i64 ey,.int .i64 ez] 126)).alloc (.cells #[slice none 0 0,int i64 0,int i64 0,int i64 0,int i64 0,int i64 0,int i64 0,int i64 0,int i64 0,int i64 0,int i64 0,int i64 0,int i64 0,int i64 0,int i64 0,int i64 0,int i64 0,int i64 0,int i64 0,int i64 0,int i64 0,int i64 0,int i64 0,int i64 0,int i64 0,int i64 0,int i64 0,int i64 0,int i64 0,int i64 0,int i64 0,int i64 0,int i64 0,int i64 0,int i64 0,slice none 0 0,slice none 0 0,slice none 0 0,int i64 0,bool false,slice none 0 0,int i64 0,bool false] 134)) (w.heap.size+1) [.int .i64 en,.int .i64 ea,.int .i64 ek,.int .i64 ex,.int .i64 ey,.int .i64 ez]):=by
  have:=(Bx.new (w.alloc (.cells #[.int .i64 live,.int .i64 found] 46)) [.int .i64 en,.int .i64 ea,.int .i64 ek,.int .i64 ex,.int .i64 ey,.int .i64 ez] 126).kp (by simp) ((Kp.refl (fun _=>False) _).alloc (.cells #[slice none 0 0,int i64 0,int i64 0,int i64 0,int i64 0,int i64 0,int i64 0,int i64 0,int i64 0,int i64 0,int i64 0,int i64 0,int i64 0,int i64 0,int i64 0,int i64 0,int i64 0,int i64 0,int i64 0,int i64 0,int i64 0,int i64 0,int i64 0,int i64 0,int i64 0,int i64 0,int i64 0,int i64 0,int i64 0,int i64 0,int i64 0,int i64 0,int i64 0,int i64 0,int i64 0,slice none 0 0,slice none 0 0,slice none 0 0,int i64 0,bool false,slice none 0 0,int i64 0,bool false] 134)) (fun h=>h)
  rwa [show (w.alloc (.cells #[.int .i64 live,.int .i64 found] 46)).heap.size=w.heap.size+1 by simp] at this
 have HB6:Hid (Bx (((w.alloc (.cells #[.int .i64 live,.int .i64 found] 46)).alloc (.cells #[.int .i64 en,.int .i64 ea,.int .i64 ek,.int .i64 ex,.int .i64 ey,.int .i64 ez] 126)).alloc (.cells #[slice none 0 0,int i64 0,int i64 0,int i64 0,int i64 0,int i64 0,int i64 0,int i64 0,int i64 0,int i64 0,int i64 0,int i64 0,int i64 0,int i64 0,int i64 0,int i64 0,int i64 0,int i64 0,int i64 0,int i64 0,int i64 0,int i64 0,int i64 0,int i64 0,int i64 0,int i64 0,int i64 0,int i64 0,int i64 0,int i64 0,int i64 0,int i64 0,int i64 0,int i64 0,int i64 0,slice none 0 0,slice none 0 0,slice none 0 0,int i64 0,bool false,slice none 0 0,int i64 0,bool false] 134)) (w.heap.size+1+1) stp0):=by
  have:=Bx.new ((w.alloc (.cells #[.int .i64 live,.int .i64 found] 46)).alloc (.cells #[.int .i64 en,.int .i64 ea,.int .i64 ek,.int .i64 ex,.int .i64 ey,.int .i64 ez] 126)) stp0 134
  rw [zerosSt] at this
  rwa [show ((w.alloc (.cells #[.int .i64 live,.int .i64 found] 46)).alloc (.cells #[.int .i64 en,.int .i64 ea,.int .i64 ek,.int .i64 ex,.int .i64 ey,.int .i64 ez] 126)).heap.size=w.heap.size+1+1 by simp] at this
 have s1:∀W,(Bx W w.heap.size [.int .i64 live,.int .i64 found]∧Bx W (w.heap.size+1) [.int .i64 en,.int .i64 ea,.int .i64 ek,.int .i64 ex,.int .i64 ey,.int .i64 ez])→W.cell? ⟨w.heap.size,0,none⟩=some (.int .i64 live)∧W.cell? ⟨w.heap.size,1,none⟩=some (.int .i64 found)∧W.cell? ⟨w.heap.size+1,0,none⟩=some (.int .i64 en)∧W.cell? ⟨w.heap.size+1,1,none⟩=some (.int .i64 ea)∧W.cell? ⟨w.heap.size+1,2,none⟩=some (.int .i64 ek)∧W.cell? ⟨w.heap.size+1,3,none⟩=some (.int .i64 ex)∧W.cell? ⟨w.heap.size+1,4,none⟩=some (.int .i64 ey)∧W.cell? ⟨w.heap.size+1,5,none⟩=some (.int .i64 ez):=by
  rintro W ⟨h4,h5⟩
  exact ⟨h4.cell (k:=0) rfl,h4.cell (k:=1) rfl,h5.cell (k:=0) rfl,h5.cell (k:=1) rfl,h5.cell (k:=2) rfl,h5.cell (k:=3) rfl,h5.cell (k:=4) rfl,h5.cell (k:=5) rfl⟩
 have hwr:IntKind.i64.wrap ((n:Int)*16)=(n:Int)*16:=IntWalk.i64_in _ (by omega)
 go_enter Tryz.func84,Tryz.ntmps84
 go_wp2
 generalize (((w.alloc (.cells #[.int .i64 live,.int .i64 found] 46)).alloc (.cells #[.int .i64 en,.int .i64 ea,.int .i64 ek,.int .i64 ex,.int .i64 ey,.int .i64 ez] 126)).alloc (.cells #[slice none 0 0,int i64 0,int i64 0,int i64 0,int i64 0,int i64 0,int i64 0,int i64 0,int i64 0,int i64 0,int i64 0,int i64 0,int i64 0,int i64 0,int i64 0,int i64 0,int i64 0,int i64 0,int i64 0,int i64 0,int i64 0,int i64 0,int i64 0,int i64 0,int i64 0,int i64 0,int i64 0,int i64 0,int i64 0,int i64 0,int i64 0,int i64 0,int i64 0,int i64 0,int i64 0,slice none 0 0,slice none 0 0,slice none 0 0,int i64 0,bool false,slice none 0 0,int i64 0,bool false] 134))=w6 at *
 have hs6:w.heap.size+1+1<w6.heap.size:=HB6.out.lt (by rw [stp0_len];omega)
 refine wp_region_held_drew (S:=fun W=>Bx W w.heap.size [.int .i64 live,.int .i64 found]∧Bx W (w.heap.size+1) [.int .i64 en,.int .i64 ea,.int .i64 ek,.int .i64 ex,.int .i64 ey,.int .i64 ez]) (by kernel_rfl) ⟨HB4.out.kp (by simp) ((Kp.refl (fun _=>False) _).drew) (fun h=>h),HB5.out.kp (by simp) ((Kp.refl (fun _=>False) _).drew) (fun h=>h)⟩ (fun hHeld => ?_)
 refine tM 0 rfl (fun W hSW=>by (try dsimp only at hSW);go_simp;rw []) hHeld ?_
 refine tM 1 rfl (fun W hSW=>by (try dsimp only at hSW);go_simp;rw []) hHeld ?_
 refine tM 2 rfl (fun W hSW=>by (try dsimp only at hSW);go_simp;rw []) hHeld ?_
 refine tM 3 rfl (fun W hSW=>by (try dsimp only at hSW);go_simp;rw []) hHeld ?_
 refine tM 4 rfl (fun W hSW=>by (try dsimp only at hSW);go_simp;rw []) hHeld ?_
 refine tM 6 rfl (fun W hSW=>by (try dsimp only at hSW);go_simp;rw []) hHeld ?_
 refine tM 7 rfl (fun W hSW=>by (try dsimp only at hSW);go_simp;rw []) hHeld ?_
 refine tM 8 rfl (fun W hSW=>by (try dsimp only at hSW);go_simp;rw []) hHeld ?_
 refine tM 9 rfl (fun W hSW=>by (try dsimp only at hSW);go_simp;rw []) hHeld ?_
 refine tM 10 rfl (fun W hSW=>by (try dsimp only at hSW);go_simp;rw []) hHeld ?_
 refine tM 11 rfl (fun W hSW=>by (try dsimp only at hSW);go_simp;rw []) hHeld ?_
 refine wpAnyH_ready (rs:=[5]) (by kernel_rfl) (by simp) ?_
 refine consL rfl (fun K hK => ?_) AllReadyH.nil
 rw [if_pos (by rfl)]
 refine step_make 22 _ rfl (16*n) (by rw [show ((16*n:Nat):Int)=(n:Int)*16 by push_cast;omega];rfl) w6.heap.size 3 i1 (.int .i64 0) 1 Tryz.underlying22 hi1 hy0 hy1 (by rw [hy2];omega) (by unfold maxLen;omega) (Nat.le_refl _) ?_
 intro w7 hown7 hgrow7
 have HG7:Hid (Nw w6 w7):=((Kp.refl _ w6).drew).grown hgrow7 (by intro k hk;cases hk)
 have HR7:Hid (Row w7 w6.heap.size 3 (intsV (List.replicate (16*n) 0))):=by
  have:=Row.of_full hown7
  rw [made_ints] at this
  exact this
 have hK7:Nw w6 w7:=HG7.out
 have hS7:Bx w7 w.heap.size [.int .i64 live,.int .i64 found]∧Bx w7 (w.heap.size+1) [.int .i64 en,.int .i64 ea,.int .i64 ek,.int .i64 ex,.int .i64 ey,.int .i64 ez]:=⟨HB4.out.kp (by simp) hK7 (fun h=>h),HB5.out.kp (by simp) hK7 (fun h=>h)⟩
 refine hK.out _ _ hS7 (fun _ => ?_)
 clear hK K hown7 hgrow7
 try simp only [Act.put,sA,sZ,sS]
 refine tM 12 rfl (fun W hSW=>by (try dsimp only at hSW);go_simp;rw []) hS7 ?_
 have HB7:Hid (Bx w7 (w.heap.size+1+1) stp0):=HB6.out.kp (by rw [stp0_len];omega) HG7.out (fun h=>h)
 have HTH:Hid (w7.there (w.heap.size+1+1) 0 (stpC (.slice (some ⟨g,0,none⟩) n cap) ⟨en,⟨ea,ek,ex,ey,ez⟩⟩ th0 0 (.slice (some ⟨w6.heap.size,0,none⟩) (16*n) (16*n)) (.slice none 0 0) (.slice none 0 0) live false (.slice none 0 0) found false).toArray.size):=HB7.out.there (by rw [stp0_len,List.size_toArray,stpC_len])
 have kk:Kp (fun b=>b=w.heap.size+1+1) w7 (w7.setCells (w.heap.size+1+1) 0 (stpC (.slice (some ⟨g,0,none⟩) n cap) ⟨en,⟨ea,ek,ex,ey,ez⟩⟩ th0 0 (.slice (some ⟨w6.heap.size,0,none⟩) (16*n) (16*n)) (.slice none 0 0) (.slice none 0 0) live false (.slice none 0 0) found false)):=kp_setCells _ _ _
 have h76:w6.heap.size≤w7.heap.size:=HG7.out.size
 have HE:Hid (Bx (w7.setCells (w.heap.size+1+1) 0 (stpC (.slice (some ⟨g,0,none⟩) n cap) ⟨en,⟨ea,ek,ex,ey,ez⟩⟩ th0 0 (.slice (some ⟨w6.heap.size,0,none⟩) (16*n) (16*n)) (.slice none 0 0) (.slice none 0 0) live false (.slice none 0 0) found false)) (w.heap.size+1+1) (stpC (.slice (some ⟨g,0,none⟩) n cap) ⟨en,⟨ea,ek,ex,ey,ez⟩⟩ th0 0 (.slice (some ⟨w6.heap.size,0,none⟩) (16*n) (16*n)) (.slice none 0 0) (.slice none 0 0) live false (.slice none 0 0) found false)):=HB7.out.put (by rw [stp0_len,stpC_len])
 have HR8:Hid (Row (w7.setCells (w.heap.size+1+1) 0 (stpC (.slice (some ⟨g,0,none⟩) n cap) ⟨en,⟨ea,ek,ex,ey,ez⟩⟩ th0 0 (.slice (some ⟨w6.heap.size,0,none⟩) (16*n) (16*n)) (.slice none 0 0) (.slice none 0 0) live false (.slice none 0 0) found false)) w6.heap.size 3 (intsV (List.replicate (16*n) 0))):=HR7.out.kp kk (by omega)
 have HK8:Hid (Nw w (w7.setCells (w.heap.size+1+1) 0 (stpC (.slice (some ⟨g,0,none⟩) n cap) ⟨en,⟨ea,ek,ex,ey,ez⟩⟩ th0 0 (.slice (some ⟨w6.heap.size,0,none⟩) (16*n) (16*n)) (.slice none 0 0) (.slice none 0 0) live false (.slice none 0 0) found false))):=(HK6.out.trans HG7.out).trans' kk (by intro b hb e;omega)
 have hS8:Bx (w7.setCells (w.heap.size+1+1) 0 (stpC (.slice (some ⟨g,0,none⟩) n cap) ⟨en,⟨ea,ek,ex,ey,ez⟩⟩ th0 0 (.slice (some ⟨w6.heap.size,0,none⟩) (16*n) (16*n)) (.slice none 0 0) (.slice none 0 0) live false (.slice none 0 0) found false)) w.heap.size [.int .i64 live,.int .i64 found]∧Bx (w7.setCells (w.heap.size+1+1) 0 (stpC (.slice (some ⟨g,0,none⟩) n cap) ⟨en,⟨ea,ek,ex,ey,ez⟩⟩ th0 0 (.slice (some ⟨w6.heap.size,0,none⟩) (16*n) (16*n)) (.slice none 0 0) (.slice none 0 0) live false (.slice none 0 0) found false)) (w.heap.size+1) [.int .i64 en,.int .i64 ea,.int .i64 ek,.int .i64 ex,.int .i64 ey,.int .i64 ez]:=⟨hS7.1.kp (by simp) kk (by omega),hS7.2.kp (by simp) kk (by omega)⟩
 have HSZ:Hid ((Tryz.prog.info? 134).map (·.size)=some (stpC (.slice (some ⟨g,0,none⟩) n cap) ⟨en,⟨ea,ek,ex,ey,ez⟩⟩ th0 0 (.slice (some ⟨w6.heap.size,0,none⟩) (16*n) (16*n)) (.slice none 0 0) (.slice none 0 0) live false (.slice none 0 0) found false).toArray.size):=by show _=_;rw [List.size_toArray,stpC_len];exact Tryz.sizeSt
 have HON:Hid (∀v∈(stpC (.slice (some ⟨g,0,none⟩) n cap) ⟨en,⟨ea,ek,ex,ey,ez⟩⟩ th0 0 (.slice (some ⟨w6.heap.size,0,none⟩) (16*n) (16*n)) (.slice none 0 0) (.slice none 0 0) live false (.slice none 0 0) found false),v.oneCell'=true):=stpC_one rfl rfl rfl rfl rfl _ _ _ _ _ _ _
 have HLN:Hid ((stpC (.slice (some ⟨g,0,none⟩) n cap) ⟨en,⟨ea,ek,ex,ey,ez⟩⟩ th0 0 (.slice (some ⟨w6.heap.size,0,none⟩) (16*n) (16*n)) (.slice none 0 0) (.slice none 0 0) live false (.slice none 0 0) found false).length=43):=stpC_len _ _ _ _ _ _ _ _ _ _ _ _
 clear kk
 refine wpAnyH_ready (rs:=[13]) (by kernel_rfl) (by simp) ?_
 refine consL rfl (fun K hK => ?_) AllReadyH.nil
 rw [if_pos (by rfl)]
 refine wp_store_mid 134 _ _ rfl (w.heap.size+1+1) 0 (stpC (.slice (some ⟨g,0,none⟩) n cap) ⟨en,⟨ea,ek,ex,ey,ez⟩⟩ th0 0 (.slice (some ⟨w6.heap.size,0,none⟩) (16*n) (16*n)) (.slice none 0 0) (.slice none 0 0) live false (.slice none 0 0) found false).toArray rfl rfl HTH.out HSZ.out (all_oneCell_toArray HON.out) ?_
 refine hK.out _ _ hS8 (fun _ => ?_)
 clear hK K
 try simp only [Act.put,sA,sZ,sS]
 refine wpAnyH_done (by kernel_rfl) ?_ _
 clear hHeld hS7 hS8 s1 hK7
 go_wp2
 refine bodyPost_ret (results_cX Tryz.results84 _ _ _ ⟨w.heap.size+1+1,0,none⟩ rfl _ (load_st HLN.out HE.out.r)) rfl ?_
 exact ⟨w6.heap.size,rfl,HR8.out,by omega,HK8.out⟩
theorem StM.cells {w:World} {R g cap:Nat} {l:List In} {hand:Nmb} {fr:Thr} {turn gb:Nat} {ov wv ev:Value} {s:Tn} (h:StM w R g cap l hand fr turn gb ov wv ev s) :
  w.rangeAt R 0 (stpC (.slice (some ⟨g,0,none⟩) l.length cap) hand fr turn (.slice (some ⟨gb,0,none⟩) s.vis.length s.vis.length) ov wv s.wait.most s.wait.over ev s.ended.most s.ended.over):=by
 intro j v hv
 rw [Nat.zero_add]
 unfold stpC at hv
 by_cases h0:j=0
 ·subst h0;simp at hv;rw [←hv];exact h.cod
 ·obtain ⟨k,rfl⟩:∃k,j=k+1:=⟨j - 1,by omega⟩
  rw [List.getElem?_cons_succ] at hv
  by_cases h1:k<6
  ·rw [List.getElem?_append_left (by simp [nmC];omega)] at hv
   have:=h.hnd k v hv
   rwa [Nat.add_comm] at this
  ·rw [List.getElem?_append_right (by simp [nmC];omega)] at hv
   have e6:(nmC hand).length=6:=rfl
   rw [e6] at hv
   by_cases h2:k - 6<27
   ·rw [List.getElem?_append_left (by rw [thC_len];exact h2)] at hv
    have:=h.frm (k - 6) v hv
    rwa [show 7+(k - 6)=k+1 by omega] at this
   ·rw [List.getElem?_append_right (by rw [thC_len];omega),thC_len] at hv
    obtain ⟨m,hm⟩:∃m,k=m+33:=⟨k - 33,by omega⟩
    subst hm
    rw [show m+33 - 6 - 27=m by omega] at hv
    match m,hv with
    | 0,hv=>simp at hv;rw [←hv];exact h.tun
    | 1,hv=>simp at hv;rw [←hv];exact h.rch
    | 2,hv=>simp at hv;rw [←hv];exact h.opn
    | 3,hv=>simp at hv;rw [←hv];exact h.wait.c0
    | 4,hv=>simp at hv;rw [←hv];exact h.wait.c1
    | 5,hv=>simp at hv;rw [←hv];exact h.wait.c2
    | 6,hv=>simp at hv;rw [←hv];exact h.ended.c0
    | 7,hv=>simp at hv;rw [←hv];exact h.ended.c1
    | 8,hv=>simp at hv;rw [←hv];exact h.ended.c2
    | n+9,hv=>simp at hv
theorem StM.init {w:World} {R g cap gb:Nat} {l:List In} {hand:Nmb} {live found:Int} (hb:Bx w R (stpC (.slice (some ⟨g,0,none⟩) l.length cap) hand th0 0 (.slice (some ⟨gb,0,none⟩) (16*l.length) (16*l.length)) (.slice none 0 0) (.slice none 0 0) live false (.slice none 0 0) found false)) (hc:Code' w g l) (hr:Row w gb 3 (intsV (List.replicate (16*l.length) 0))) (hg:g<R) (hgb:¬gb=R) (hne:¬g=gb) :
  StM w R g cap l hand th0 0 gb (.slice none 0 0) (.slice none 0 0) (.slice none 0 0) ⟨List.replicate (16*l.length) true,[],⟨[],live,false⟩,⟨[],found,false⟩⟩:=by
 have e6:(nmC hand).length=6:=rfl
 have c:∀(m:Nat) (v:Value),([.int .i64 0,.slice (some ⟨gb,0,none⟩) (16*l.length) (16*l.length),.slice none 0 0,.slice none 0 0,.int .i64 live,.bool false,.slice none 0 0,.int .i64 found,.bool false]:List Value)[m]? = some v→w.cell? ⟨R,34+m,none⟩=some v:=by
  intro m v hv
  refine hb.cell (k:=34+m) ?_
  unfold stpC
  rw [show 34+m=(33+m)+1 by omega,List.getElem?_cons_succ,List.getElem?_append_right (by rw [e6];omega),e6,List.getElem?_append_right (by rw [thC_len];omega),thC_len,show 33+m - 6 - 27=m by omega]
  exact hv
 refine ⟨hb.cell (k:=0) rfl,?_,?_,c 0 _ rfl,?_,c 2 _ rfl,⟨c 3 _ rfl,c 4 _ rfl,c 5 _ rfl,hb.z,World.ownsRow_nil _ _ _ _,by omega⟩,⟨c 6 _ rfl,c 7 _ rfl,c 8 _ rfl,hb.z,World.ownsRow_nil _ _ _ _,by omega⟩,hb.z,hc,?_,World.ownsRow_nil _ _ _ _,fun b hb=>by simp [Value.ownBlock] at hb,hg,hgb,hne,by simp⟩
 ·intro j v hv
  have hj:j<6:=by have:=(List.getElem?_eq_some_iff.1 hv).1;rwa [e6] at this
  rw [Nat.add_comm 1 j]
  refine hb.cell (k:=j+1) ?_
  unfold stpC
  rw [List.getElem?_cons_succ,List.getElem?_append_left (by rw [e6];exact hj)];exact hv
 ·intro j v hv
  have hj:j<27:=by have:=(List.getElem?_eq_some_iff.1 hv).1;rwa [thC_len] at this
  refine hb.cell (k:=7+j) ?_
  unfold stpC
  rw [show 7+j=(6+j)+1 by omega,List.getElem?_cons_succ,List.getElem?_append_right (by rw [e6];omega),e6,show 6+j - 6=j by omega,List.getElem?_append_left (by rw [thC_len];exact hj)];exact hv
 ·have:=c 1 _ rfl
  simpa using this
 ·refine ⟨List.replicate (16*l.length) 0,hr,by simp,?_⟩
  intro m r hm
  have hm2:=(List.getElem?_eq_some_iff.1 hm).1
  rw [List.length_replicate] at hm2
  rw [List.getElem?_replicate,if_pos hm2] at hm
  simp only [Option.some.injEq] at hm
  subst hm
  exact ⟨Nat.le_refl _,by rw [List.getElem?_replicate,if_pos hm2];simp⟩
def stepS (l:List In) (hand:Nmb) (ws:List Thr) (bs:List Nat) (live found:Int):Crw×Crw :=
 (bs.map (fun b:Nat=>newT (b:Int) hand)).foldl (goOnS l hand) (ws.foldl (goOnS l hand) (⟨[],live,false⟩,⟨[],found,false⟩))
structure RunM (w:World) (A:Nat) (sc:List Int) (live found:Int) (g cap:Nat) (l:List In) (bv:Value) (bs:List Nat) (wv:Value) (ws:List Thr) (count:Nat) (last:Int) (spent:Bool):Prop where
 s:w.rangeAt A 0 [.int .i64 sc.length,.int .i64 (scF sc 0),.int .i64 (scF sc 1),.int .i64 (scF sc 2),.int .i64 (scF sc 3)]
 l0:w.cell? ⟨A,5,none⟩=some (.int .i64 live)
 l1:w.cell? ⟨A,6,none⟩=some (.int .i64 found)
 cd:w.cell? ⟨A,7,none⟩=some (.slice (some ⟨g,0,none⟩) l.length cap)
 bg:w.cell? ⟨A,8,none⟩=some bv
 wt:w.cell? ⟨A,9,none⟩=some wv
 ct:w.cell? ⟨A,10,none⟩=some (.int .i64 (count:Int))
 ls:w.cell? ⟨A,11,none⟩=some (.int .i64 last)
 sp:w.cell? ⟨A,12,none⟩=some (.bool spent)
 z:∀p,w.frozen? ⟨A,p,none⟩=false
 code:Code' w g l
 bo:w.ownsRow 0 3 1 bv bs.length (intsV bs)
 wo:w.ownsRow 0 129 27 wv ws.length (thsC ws)
 gA:¬g=A
 bA:¬bv.ownBlock=some A
 wA:¬wv.ownBlock=some A
theorem RunM.lt {w:World} {A:Nat} {sc:List Int} {live found:Int} {g cap:Nat} {l:List In} {bv:Value} {bs:List Nat} {wv:Value} {ws:List Thr} {count:Nat} {last:Int} {spent:Bool} (h:RunM w A sc live found g cap l bv bs wv ws count last spent):A<w.heap.size:=World.block_lt_of_cell? w ⟨A,5,none⟩ h.l0
theorem RunM.kp {S:Nat→Prop} {w w':World} {A:Nat} {sc:List Int} {live found:Int} {g cap:Nat} {l:List In} {bv:Value} {bs:List Nat} {wv:Value} {ws:List Thr} {count:Nat} {last:Int} {spent:Bool} (h:RunM w A sc live found g cap l bv bs wv ws count last spent) (k:Kp S w w') (hS:∀b,b<w.heap.size→¬S b):RunM w' A sc live found g cap l bv bs wv ws count last spent:=by
 have hA:=hS A h.lt
 exact ⟨range_kp h.s h.lt k hA,(k.cell (p:=⟨A,5,none⟩) h.lt hA).trans h.l0,(k.cell (p:=⟨A,6,none⟩) h.lt hA).trans h.l1,(k.cell (p:=⟨A,7,none⟩) h.lt hA).trans h.cd,(k.cell (p:=⟨A,8,none⟩) h.lt hA).trans h.bg,(k.cell (p:=⟨A,9,none⟩) h.lt hA).trans h.wt,(k.cell (p:=⟨A,10,none⟩) h.lt hA).trans h.ct,(k.cell (p:=⟨A,11,none⟩) h.lt hA).trans h.ls,(k.cell (p:=⟨A,12,none⟩) h.lt hA).trans h.sp,fun p=>(k.frozen (p:=⟨A,p,none⟩) h.lt hA).trans (h.z p),h.code.kp k (hS g h.code.lt),owns_kp h.bo k (fun b hb=>hS b (h.bo.lt b hb).2),owns_kp h.wo k (fun b hb=>hS b (h.wo.lt b hb).2),h.gA,h.bA,h.wA⟩
theorem RunM.nw {w w':World} {A:Nat} {sc:List Int} {live found:Int} {g cap:Nat} {l:List In} {bv:Value} {bs:List Nat} {wv:Value} {ws:List Thr} {count:Nat} {last:Int} {spent:Bool} (h:RunM w A sc live found g cap l bv bs wv ws count last spent) (k:Nw w w'):RunM w' A sc live found g cap l bv bs wv ws count last spent:=h.kp k (fun _ _ h=>h)
end Go.Proofs.YtcboiapggnmpfaaGreatDoor
