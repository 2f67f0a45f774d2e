import Derived.Test.YtcboiapggnmpfaaGreatQbx
import Derived.Test.YtcboiapggnmpfaaGreatQby
import Derived.Test.YtcboiapggnmpfaaGreatQag
import Derived.Test.YtcboiapggnmpfaaGreatQaf
import Derived.Test.YtcboiapggnmpfaaGreatQbf
import Derived.Deep.QuietTactic
namespace Go.Proofs.YtcboiapggnmpfaaGreat
set_option maxRecDepth 100000
set_option maxHeartbeats 4000000
set_option linter.unusedSimpArgs false
set_option linter.unusedVariables false
open Go.RowKit
theorem onlyK_any (rel ar:Int) (r m:Tm) (w:World) :
  Calls Tryz.prog 76 #[.int .i64 rel,.agg #[.int .i64 r.of,.int .i64 r.field,.int .i64 r.num],.int .i64 ar,.agg #[.int .i64 m.of,.int .i64 m.field,.int .i64 m.num]] w fun e w'=>e=.returned (insV ⟨2,0,0,⟨⟨1,1,0⟩,rel,r,ar,m⟩⟩)∧Nw w w':=by
 obtain ⟨dd,hu,hd⟩:=Option.map_eq_some_iff.1 Tryz.rowI2
 go_enter Tryz.func76,Tryz.ntmps76
 go_wp2
 refine bodyPost_ret (v:=insV ⟨2,0,0,⟨⟨1,1,0⟩,rel,r,ar,m⟩⟩) (results_c2 Tryz.results76 _ _ _ ⟨w.heap.size+1+1,0,none⟩ rfl _ (run_loadVar_mid _ (w.heap.size+1+1) 0 40 (insC ⟨2,0,0,⟨⟨1,1,0⟩,rel,r,ar,m⟩⟩) dd ?_ hu hd Tryz.sizeI2)) rfl ?_
 ·intro k v hv
  have h1:=(Bx.new ((w.alloc (.cells #[.int .i64 r.of,.int .i64 r.field,.int .i64 r.num] 36)).alloc (.cells #[.int .i64 m.of,.int .i64 m.field,.int .i64 m.num] 36)) (insC ⟨2,0,0,⟨⟨1,1,0⟩,rel,r,ar,m⟩⟩) 40).kp (by simp [insC]) ((Kp.refl (fun _=>False) _).alloc (.cells #[.int .i64 1,.int .i64 1,.int .i64 0,.int .i64 rel,.int .i64 r.of,.int .i64 r.field,.int .i64 r.num,.int .i64 ar,.int .i64 m.of,.int .i64 m.field,.int .i64 m.num] 38)) (fun h=>h)
  rw [show ((w.alloc (.cells #[.int .i64 r.of,.int .i64 r.field,.int .i64 r.num] 36)).alloc (.cells #[.int .i64 m.of,.int .i64 m.field,.int .i64 m.num] 36)).heap.size=w.heap.size+1+1 by simp] at h1
  exact h1.r k v hv
 ·exact ⟨rfl,((((Kp.refl _ w).alloc _).alloc _).alloc _).alloc _⟩
theorem code_new (w:World) (l:List In) (t:TypeId):Code' (w.alloc (.cells (codeC l).toArray t)) w.heap.size l:=by
 refine ⟨by simp,fun i x hx j v hv => ?_⟩
 have hj:j<14:=by have:=(List.getElem?_eq_some_iff.1 hv).1;simpa [insC] using this
 have:=(Bx.new w (codeC l) t).r (i*14+j) v (by rw [codeC_get l i j x hx hj];exact hv)
 simpa using this
theorem programK_any (w:World):Calls Tryz.prog 50 #[] w fun e w'=>∃g,e=.returned (.slice (some ⟨g,0,none⟩) 11 11)∧Code' w' g kcode3∧Nw w w':=by
 have HC0:Hid (∀W,Nw (((w.alloc (.cells #[.int .i64 0,.int .i64 0,.int .i64 5] 36)).alloc (.cells #[.int .i64 2,.int .i64 1,.int .i64 0] 36)).alloc (.cells #[.int .i64 0,.int .i64 0,.int .i64 1] 36)) W→W.cell? ⟨w.heap.size,0,none⟩=some (.int .i64 0)∧W.cell? ⟨w.heap.size,1,none⟩=some (.int .i64 0)∧W.cell? ⟨w.heap.size,2,none⟩=some (.int .i64 5)):=fun W kW=>by
  have hl:w.heap.size<((((w.alloc (.cells #[.int .i64 0,.int .i64 0,.int .i64 5] 36)).alloc (.cells #[.int .i64 2,.int .i64 1,.int .i64 0] 36)).alloc (.cells #[.int .i64 0,.int .i64 0,.int .i64 1] 36))).heap.size:=by simp;omega
  refine ⟨(kW.cell (p:=⟨w.heap.size,0,none⟩) hl (fun h=>h)).trans ?_,(kW.cell (p:=⟨w.heap.size,1,none⟩) hl (fun h=>h)).trans ?_,(kW.cell (p:=⟨w.heap.size,2,none⟩) hl (fun h=>h)).trans ?_⟩ <;> simp [go_sem,World.cell?_alloc_at]
 have HC1:Hid (∀W,Nw (((w.alloc (.cells #[.int .i64 0,.int .i64 0,.int .i64 5] 36)).alloc (.cells #[.int .i64 2,.int .i64 1,.int .i64 0] 36)).alloc (.cells #[.int .i64 0,.int .i64 0,.int .i64 1] 36)) W→W.cell? ⟨w.heap.size+1,0,none⟩=some (.int .i64 2)∧W.cell? ⟨w.heap.size+1,1,none⟩=some (.int .i64 1)∧W.cell? ⟨w.heap.size+1,2,none⟩=some (.int .i64 0)):=fun W kW=>by
  have hl:w.heap.size+1<((((w.alloc (.cells #[.int .i64 0,.int .i64 0,.int .i64 5] 36)).alloc (.cells #[.int .i64 2,.int .i64 1,.int .i64 0] 36)).alloc (.cells #[.int .i64 0,.int .i64 0,.int .i64 1] 36))).heap.size:=by simp;try omega
  refine ⟨(kW.cell (p:=⟨w.heap.size+1,0,none⟩) hl (fun h=>h)).trans ?_,(kW.cell (p:=⟨w.heap.size+1,1,none⟩) hl (fun h=>h)).trans ?_,(kW.cell (p:=⟨w.heap.size+1,2,none⟩) hl (fun h=>h)).trans ?_⟩ <;> simp [go_sem,World.cell?_alloc_at]
 have HC2:Hid (∀W,Nw (((w.alloc (.cells #[.int .i64 0,.int .i64 0,.int .i64 5] 36)).alloc (.cells #[.int .i64 2,.int .i64 1,.int .i64 0] 36)).alloc (.cells #[.int .i64 0,.int .i64 0,.int .i64 1] 36)) W→W.cell? ⟨w.heap.size+1+1,0,none⟩=some (.int .i64 0)∧W.cell? ⟨w.heap.size+1+1,1,none⟩=some (.int .i64 0)∧W.cell? ⟨w.heap.size+1+1,2,none⟩=some (.int .i64 1)):=fun W kW=>by
  have hl:w.heap.size+1+1<((((w.alloc (.cells #[.int .i64 0,.int .i64 0,.int .i64 5] 36)).alloc (.cells #[.int .i64 2,.int .i64 1,.int .i64 0] 36)).alloc (.cells #[.int .i64 0,.int .i64 0,.int .i64 1] 36))).heap.size:=by simp;try omega
  refine ⟨(kW.cell (p:=⟨w.heap.size+1+1,0,none⟩) hl (fun h=>h)).trans ?_,(kW.cell (p:=⟨w.heap.size+1+1,1,none⟩) hl (fun h=>h)).trans ?_,(kW.cell (p:=⟨w.heap.size+1+1,2,none⟩) hl (fun h=>h)).trans ?_⟩ <;> simp [go_sem,World.cell?_alloc_at]
 have HK0:Hid (Nw w (((w.alloc (.cells #[.int .i64 0,.int .i64 0,.int .i64 5] 36)).alloc (.cells #[.int .i64 2,.int .i64 1,.int .i64 0] 36)).alloc (.cells #[.int .i64 0,.int .i64 0,.int .i64 1] 36))):=(((Kp.refl _ w).alloc _).alloc _).alloc _
 go_enter Tryz.func50,Tryz.ntmps50
 go_wp2
 generalize (((w.alloc (.cells #[.int .i64 0,.int .i64 0,.int .i64 5] 36)).alloc (.cells #[.int .i64 2,.int .i64 1,.int .i64 0] 36)).alloc (.cells #[.int .i64 0,.int .i64 0,.int .i64 1] 36))=w0 at *
 refine wp_region_held_drew (S:=fun W=>Nw w0 W) (by kernel_rfl) ((Kp.refl _ _).drew) (fun hHeld => ?_)
 refine takeL (i:=0) (v := ?_) rfl (by kernel_rfl) (by kernel_rfl) (by kernel_rfl) (fun _ _ _ h=>h) (Or.inl ⟨by rfl,fun W hSW => ?y0⟩) hHeld ?_
 case y0=>(try dsimp only at hSW);go_simp;rw []
 simp only [Act.put,sA,sZ,sS]
 refine takeL (i:=1) (v := ?_) rfl (by kernel_rfl) (by kernel_rfl) (by kernel_rfl) (fun _ _ _ h=>h) (Or.inl ⟨by rfl,fun W hSW => ?y1⟩) hHeld ?_
 case y1=>(try dsimp only at hSW);go_simp;rw []
 simp only [Act.put,sA,sZ,sS]
 refine takeL (i:=2) (v := ?_) rfl (by kernel_rfl) (by kernel_rfl) (by kernel_rfl) (fun _ _ _ h=>h) (Or.inl ⟨by rfl,fun W hSW => ?y2⟩) hHeld ?_
 case y2=>(try dsimp only at hSW);go_simp;rw []
 simp only [Act.put,sA,sZ,sS]
 refine takeL (i:=3) (v := ?_) rfl (by kernel_rfl) (by kernel_rfl) (by kernel_rfl) (fun _ _ _ h=>h) (Or.inl ⟨by rfl,fun W hSW => ?y3⟩) hHeld ?_
 case y3=>(try dsimp only at hSW);obtain ⟨q0,q1,q2⟩:=HC0.out W hSW;go_simp;rw []
 simp only [Act.put,sA,sZ,sS]
 refine takeL (i:=4) (v := ?_) rfl (by kernel_rfl) (by kernel_rfl) (by kernel_rfl) (fun _ _ _ h=>h) (Or.inl ⟨by rfl,fun W hSW => ?y4⟩) hHeld ?_
 case y4=>(try dsimp only at hSW);go_simp;rw []
 simp only [Act.put,sA,sZ,sS]
 refine takeL (i:=6) (v := ?_) rfl (by kernel_rfl) (by kernel_rfl) (by kernel_rfl) (fun _ _ _ h=>h) (Or.inl ⟨by rfl,fun W hSW => ?y6⟩) hHeld ?_
 case y6=>(try dsimp only at hSW);go_simp;rw []
 simp only [Act.put,sA,sZ,sS]
 refine takeL (i:=7) (v := ?_) rfl (by kernel_rfl) (by kernel_rfl) (by kernel_rfl) (fun _ _ _ h=>h) (Or.inl ⟨by rfl,fun W hSW => ?y7⟩) hHeld ?_
 case y7=>(try dsimp only at hSW);go_simp;rw []
 simp only [Act.put,sA,sZ,sS]
 refine takeL (i:=8) (v := ?_) rfl (by kernel_rfl) (by kernel_rfl) (by kernel_rfl) (fun _ _ _ h=>h) (Or.inl ⟨by rfl,fun W hSW => ?y8⟩) hHeld ?_
 case y8=>(try dsimp only at hSW);go_simp;rw []
 simp only [Act.put,sA,sZ,sS]
 refine takeL (i:=9) (v := ?_) rfl (by kernel_rfl) (by kernel_rfl) (by kernel_rfl) (fun _ _ _ h=>h) (Or.inl ⟨by rfl,fun W hSW => ?y9⟩) hHeld ?_
 case y9=>(try dsimp only at hSW);go_simp;rw []
 simp only [Act.put,sA,sZ,sS]
 refine takeL (i:=10) (v := ?_) rfl (by kernel_rfl) (by kernel_rfl) (by kernel_rfl) (fun _ _ _ h=>h) (Or.inl ⟨by rfl,fun W hSW => ?y10⟩) hHeld ?_
 case y10=>(try dsimp only at hSW);obtain ⟨q0,q1,q2⟩:=HC1.out W hSW;go_simp;rw []
 simp only [Act.put,sA,sZ,sS]
 refine takeL (i:=11) (v := ?_) rfl (by kernel_rfl) (by kernel_rfl) (by kernel_rfl) (fun _ _ _ h=>h) (Or.inl ⟨by rfl,fun W hSW => ?y11⟩) hHeld ?_
 case y11=>(try dsimp only at hSW);obtain ⟨q0,q1,q2⟩:=HC2.out W hSW;go_simp;rw []
 simp only [Act.put,sA,sZ,sS]
 refine takeL (i:=13) (v := ?_) rfl (by kernel_rfl) (by kernel_rfl) (by kernel_rfl) (fun _ _ _ h=>h) (Or.inl ⟨by rfl,fun W hSW => ?y13⟩) hHeld ?_
 case y13=>(try dsimp only at hSW);go_simp;rw []
 simp only [Act.put,sA,sZ,sS]
 refine takeL (i:=14) (v := ?_) rfl (by kernel_rfl) (by kernel_rfl) (by kernel_rfl) (fun _ _ _ h=>h) (Or.inl ⟨by rfl,fun W hSW => ?y14⟩) hHeld ?_
 case y14=>(try dsimp only at hSW);go_simp;rw []
 simp only [Act.put,sA,sZ,sS]
 refine wpAnyH_ready (rs:=[5]) (by kernel_rfl) (by simp) ?_
 refine consL rfl (fun K hK => ?_) AllReadyH.nil
 go_simp
 refine (onlyK_any 0 0 ⟨0,0,5⟩ ⟨0,0,0⟩ _).mono ?_
 rintro e2 w2 ⟨rfl,k2⟩
 have k8:Nw w0 w2:=((Kp.refl _ _).drew).trans k2
 try dsimp only
 refine hK.out _ _ k8 (fun _ => ?_)
 clear hK K
 try simp only [Act.put,sA,sZ,sS]
 refine wpAnyH_ready (rs:=[12]) (by kernel_rfl) (by simp) ?_
 refine consL rfl (fun K hK => ?_) AllReadyH.nil
 go_simp
 refine (onlyK_any 1 1 ⟨2,1,0⟩ ⟨0,0,1⟩ _).mono ?_
 rintro e3 w3 ⟨rfl,k3⟩
 have k9:Nw w0 w3:=k8.trans k3
 try dsimp only
 refine hK.out _ _ k9 (fun _ => ?_)
 clear hK K
 try simp only [Act.put,sA,sZ,sS]
 simp only [insV]
 refine wpAnyH_ready (rs:=[15]) (by kernel_rfl) (by simp) ?_
 refine consL rfl (fun K hK => ?_) AllReadyH.nil
 go_simp
 have k10:Nw w0 (w3.alloc (.cells (codeC kcode3).toArray 40)):=k9.alloc _
 have HCD:Hid (Code' (w3.alloc (.cells (codeC kcode3).toArray 40)) w3.heap.size kcode3):=code_new w3 kcode3 _
 have HKD:Hid (Nw w (w3.alloc (.cells (codeC kcode3).toArray 40))):=HK0.out.trans k10
 refine hK.out _ _ k10 (fun _ => ?_)
 clear hK K
 try simp only [Act.put,sA,sZ,sS]
 refine takeL (i:=16) (v := ?_) rfl (by kernel_rfl) (by kernel_rfl) (by kernel_rfl) (fun _ _ _ h=>h) (Or.inl ⟨by rfl,fun W hSW => ?y16⟩) k10 ?_
 case y16=>(try dsimp only at hSW);go_simp;rw []
 simp only [Act.put,sA,sZ,sS]
 refine wpAnyH_done (by kernel_rfl) ?_ _
 go_wp2
 go_ret
 exact ⟨_,rfl,HCD.out,HKD.out⟩
def fstW (R:Nat→Bool):List St→Nat→Option St
 | [],_=>none
 | y::r,k=>if R k=true then fstW R r (k+1) else some y
theorem fstW_none {R:Nat→Bool}:∀(l:List St) (k:Nat),fstW R l k=none→∀j,j<l.length→R (k+j)=true:=by
 intro l
 induction l with
 | nil=>intro k _ j hj;simp at hj
 | cons y r ih =>
  intro k h j hj
  unfold fstW at h
  split at h
  ·rename_i hk
   match j with
   | 0=>exact hk
   | j+1 =>
    have:=ih (k+1) h j (by simpa using hj)
    rwa [show k+(j+1)=k+1+j by omega]
  ·cases h
theorem fstW_some {R:Nat→Bool}:∀(l:List St) (k:Nat) (y:St),fstW R l k=some y→∃j,l[j]? = some y∧R (k+j)=false∧∀i,i<j→R (k+i)=true:=by
 intro l
 induction l with
 | nil=>intro k y h;cases h
 | cons z r ih =>
  intro k y h
  unfold fstW at h
  split at h
  ·rename_i hk
   obtain ⟨j,h1,h2,h3⟩:=ih (k+1) y h
   refine ⟨j+1,by simpa using h1,by rwa [show k+(j+1)=k+1+j by omega],?_⟩
   intro i hi
   match i with
   | 0=>exact hk
   | i+1=>rw [show k+(i+1)=k+1+i by omega];exact h3 i (by omega)
  ·rename_i hk
   simp only [Option.some.injEq] at h
   exact ⟨0,by simpa using h,by simpa using hk,fun i hi=>by omega⟩
def chkT (l:List Int) (sts:List St) (T:Tri) (N:Nt):Int×Int :=
 match fstW (fun j=>decide (rightS (rulesOf sts) (hkP l) (hfP l) T j)) sts 0 with
 | some y=>(4,y.pos)
 | none=>if LargeP N sts then (5,0) else (0,0)
theorem chkT_is (l:List Int) (t:AltOf (Atom 8)):ProgT l t (chkT l (altS (atomS 8) t.1 t.2) (altT (atomT 8) t.1 t.2) (altTr (atomTr 8) t)).1 (chkT l (altS (atomS 8) t.1 t.2) (altT (atomT 8) t.1 t.2) (altTr (atomTr 8) t)).2:=by
 unfold chkT
 split
 ·rename_i y h
  obtain ⟨j,h1,h2,h3⟩:=fstW_some _ _ _ h
  simp only [Nat.zero_add,decide_eq_false_iff_not,decide_eq_true_eq] at h2 h3
  exact Or.inl ⟨j,y,h1,h2,h3,rfl,rfl⟩
 ·rename_i h
  have h2:=fstW_none _ _ h
  simp only [Nat.zero_add,decide_eq_true_eq] at h2
  split
  ·rename_i hl
   exact Or.inr (Or.inl ⟨h2,hl,rfl,rfl⟩)
  ·rename_i hl
   exact Or.inr (Or.inr ⟨h2,hl,rfl,rfl⟩)
noncomputable def checkB (sc s:ByteArray):Int×Int :=
 if 120<s.size then (1,0) else if schemaB (bI sc)=false then (2,0)
 else match pTopOf (pAtom 8) (toks 0 (bI s)) with
  | (none,x)=>(3,posOf s.size x)
  | (some p,_)=>chkT (bI sc) (altS (atomS 8) p.1.1 p.1.2) (altT (atomT 8) p.1.1 p.1.2) (altTr (atomTr 8) p.1)
theorem checkB_is (sc s:ByteArray):ProgC sc s (checkB sc s).1 (checkB sc s).2:=by
 unfold checkB
 split
 ·rename_i h;exact Or.inl ⟨h,rfl,rfl⟩
 ·rename_i h
  have h:s.size≤120:=by omega
  split
  ·rename_i h2;exact Or.inr (Or.inl ⟨h,h2,rfl,rfl⟩)
  ·rename_i h2
   have h2:schemaB (bI sc)=true:=by simpa using h2
   split
   ·rename_i x hx;exact Or.inr (Or.inr (Or.inl ⟨h,h2,x,hx,rfl,rfl⟩))
   ·rename_i p x hx
    exact Or.inr (Or.inr (Or.inr ⟨h,h2,p.1,p.2,x,hx,chkT_is _ _⟩))
def goldL:List (ByteArray×ByteArray×Int×Int):=[
 (⟨#[49]⟩,⟨#[97,32,98]⟩,4,2),
 (⟨#[49,49]⟩,⟨#[97,123,51,50,125]⟩,3,3),
 (⟨#[49]⟩,⟨#[40,97,124]⟩,3,3),
 (⟨#[49]⟩,⟨#[97,65,91,120,60,65,120,93]⟩,4,0),
 (⟨#[49,49]⟩,⟨#[40,97,65,124,98,41,98,91,120,61,65,120,93]⟩,4,6),
 (⟨#[49]⟩,⟨#[97,123,57,57,125]⟩,0,0),
 (⟨#[49]⟩,⟨#[40,97,123,53,53,125,41,123,53,53,125]⟩,5,0),
 (⟨#[49]⟩,⟨#[40,40,40,40,40,40,40,40,97,41,41,41,41,41,41,41,41]⟩,0,0),
 (⟨#[49]⟩,⟨#[40,40,40,40,40,40,40,40,40,97,41,41,41,41,41,41,41,41,41]⟩,3,8),
 (⟨#[49,49]⟩,⟨#[40,97,65,41,42,98]⟩,4,1),
 (⟨#[49,49]⟩,⟨#[40,97,65,124,97,65,41,98,91,120,61,65,120,93]⟩,0,0),
 (⟨#[49,49]⟩,⟨#[40,97,65,124,98,65,41,98]⟩,4,4),
 (⟨#[49,49]⟩,⟨#[97,65,32,97,65]⟩,4,3),
 (⟨#[52]⟩,⟨#[97]⟩,2,0),
 (⟨#[49]⟩,⟨#[97,64]⟩,3,2),
 (⟨#[49]⟩,⟨#[97,91,120,60,49,50,51,52,53,54,55,56,57,48,49,50,51,52,53,54,55,56,57,93]⟩,3,22)]
theorem gold_at:∀x∈goldL,checkB x.1 x.2.1=x.2.2∧x.1.size≤100∧x.2.1.size≤100:=by
 intro x hx
 simp only [goldL,List.mem_cons,List.not_mem_nil,or_false] at hx
 rcases hx with h|h|h|h|h|h|h|h|h|h|h|h|h|h|h|h <;> subst h <;> exact ⟨by kernel_rfl,by decide,by decide⟩
theorem checkB_any (sc s:ByteArray) (w:World) (hsc:sc.size≤maxLen) (hs:s.size≤maxLen) :
  Calls Tryz.prog 20 #[.string sc,.string s] w fun e w'=>e=.returned (.tuple #[.int .i64 (checkB sc s).1,.int .i64 (checkB sc s).2])∧Nw w w':=by
 have HC:Hid (Calls Tryz.prog 55 #[.string sc,.string s] w (ChRPost sc s w)):=checkRead_any sc s w hsc hs
 clear hsc hs
 have HU:Hid (∀f p:Int,ProgC sc s f p→(checkB sc s).1=f∧(checkB sc s).2=p):=fun f p h=>(checkB_is sc s).uniq h
 generalize checkB sc s=R at HU ⊢
 go_enter Tryz.func20,Tryz.ntmps20
 go_wp2_with fail
 refine HC.out.mono ?_
 intro e w1 h1
 obtain ⟨a,b,c,d,f,p,rfl,hc,k1,⟨_,_,_,rfl⟩,⟨_,_,_,rfl⟩,⟨_,rfl⟩,⟨_,rfl⟩⟩:=h1.agg
 obtain ⟨e1,e2⟩:=HU.out f p hc
 have K1:Hid (Nw w w1):=k1
 clear hc k1 h1 HC HU
 go_wp2
 go_ret2
 exact ⟨by rw [e1,e2];rfl,K1.out.alloc _⟩
theorem sameCodeK (p p':Option Addr) (cap cap':Nat) (l:List In) (w:World) (hp:CodeP w p l) (hp':CodeP w p' l) (hm:l.length≤800000000000) :
  Calls Tryz.prog 49 #[.slice p l.length cap,.slice p' l.length cap'] w fun e w'=>e=.returned (.bool true)∧Nw w w':=by
 go_enter Tryz.func49,Tryz.ntmps49
 go_wp2
 go_loopg [5] l.length (fun m v5 wr=>∃i:Nat,v5=.int .i64 i∧m=l.length - i∧i≤l.length∧CodeP wr p l∧CodeP wr p' l∧Nw w wr)
 case atStart=>exact ⟨0,rfl,rfl,by omega,hp,hp',Kp.refl _ _⟩
 case round =>
  obtain ⟨i,rfl,hm',hi,hc,hc',hnw⟩:=hrel
  by_cases hi':i<l.length
  ·obtain ⟨x,hx⟩:∃x,l[i]? = some x:=⟨l[i],by simp [hi']⟩
   have hne:¬l=[]:=by intro e;rw [e] at hx;simp at hx
   obtain ⟨g,rfl,hcr⟩:=hc hne
   obtain ⟨g',rfl,hcr'⟩:=hc' hne
   obtain ⟨c0,c1,c2,c3,c4,c5,c6,c7,c8,c9,c10,c11,c12,c13⟩:=(hcr.ins i x hx).cells
   obtain ⟨d0,d1,d2,d3,d4,d5,d6,d7,d8,d9,d10,d11,d12,d13⟩:=(hcr'.ins i x hx).cells
   have HP:Hid (CodeP wr (some ⟨g,0,none⟩) l):=hc
   have HP':Hid (CodeP wr (some ⟨g',0,none⟩) l):=hc'
   have HK:Hid (Nw w wr):=hnw
   clear hc hc' hnw hcr hcr' hp hp'
   go_wp2
   go_quiet (fail)
   go_wp2
   go_roundg (l.length - (i+1))
   case measure=>omega
   case rel =>
    refine ⟨i+1,by simp,rfl,by omega,HP.out.nw ?_,HP'.out.nw ?_,HK.out.trans ?_⟩ <;> exact (Kp.refl _ _).drewN _
  ·go_wp2
   go_ret
   exact ⟨rfl,hnw⟩
theorem Tryz.kuMt:(Tryz.prog.underlying 70).bind dFields=some [(3,0),(3,1),(68,2)]:=by kernel_rfl
theorem Tryz.kuA4:Tryz.prog.underlying 68=some (.array 4 3):=by kernel_rfl
theorem Tryz.kcA4:Tryz.prog.cellsOf 68=4:=by kernel_rfl
theorem Tryz.kcMt:Tryz.prog.cellsOf 70=6:=by kernel_rfl
structure MtOk (m:Mt):Prop where
 f:In64 m.first
 l:In64 m.last
 h0:In64 m.h0
 h1:In64 m.h1
 h2:In64 m.h2
 h3:In64 m.h3
def mtL (m:Mt):List Lit:=[.int .i64 m.first,.int .i64 m.last,.int .i64 m.h0,.int .i64 m.h1,.int .i64 m.h2,.int .i64 m.h3]
theorem kl_mt {m:Mt} (h:MtOk m) (D:Nat):Tryz.prog.keyLits (D+3) 70 (mtC m)=some (mtL m):=by
 have e4:Tryz.prog.keyLits (D+2) 68 [.int .i64 m.h0,.int .i64 m.h1,.int .i64 m.h2,.int .i64 m.h3]=some [.int .i64 m.h0,.int .i64 m.h1,.int .i64 m.h2,.int .i64 m.h3]:=by
  rw [kl_array (D:=D+1) Tryz.kuA4 (by rw [Tryz.kcA4];rfl)]
  have er:List.range 4=[0,1,2,3]:=rfl
  rw [er,Tryz.kcInt]
  simp [kl_int Tryz.kuInt h.h0,kl_int Tryz.kuInt h.h1,kl_int Tryz.kuInt h.h2,kl_int Tryz.kuInt h.h3]
 rw [kl_struct (D:=D+2) Tryz.kuMt (by rw [Tryz.kcMt];rfl)]
 simp [Tryz.kcInt,Tryz.kcA4,mtC,kl_int Tryz.kuInt h.f,kl_int Tryz.kuInt h.l,e4,mtL]
theorem Tryz.ktMt:Tryz.prog.keyTypeAt 3 70=true:=by kernel_rfl
theorem formed_mt (m:Mt):(Value.agg (mtC m).toArray).formed Tryz.prog 70=true:=by
 obtain ⟨dd,hu,hd⟩:=Option.map_eq_some_iff.1 (show (Tryz.prog.underlying 70).map TypeDesc.isRow=some true by kernel_rfl)
 exact formed_of hu hd (by rw [Tryz.kcMt];rfl)
theorem mtL_inj {u t:Mt}:mtL u=mtL t↔u=t:=by
 obtain ⟨a,b,c,d,e,f⟩:=u
 obtain ⟨a',b',c',d',e',f'⟩:=t
 simp [mtL]
theorem equal_mt {u t:Mt} (hu:MtOk u) (ht:MtOk t) (w:World):(Op.equal 70 (.agg (mtC u).toArray) (.agg (mtC t).toArray)).run Tryz.prog w=.ok (decide (u=t)) w:=by
 obtain ⟨r,hr,hiff⟩:=run_equalIn_deep 9997 3 70 Tryz.ktMt w 3 3 (.agg (mtC u).toArray) (.agg (mtC t).toArray) (mtL u) (mtL t) (formed_mt u) (formed_mt t) (kl_mt hu 0) (kl_mt ht 0)
 have e:r=decide (u=t):=by
  rw [Bool.eq_iff_iff,hiff,mtL_inj]
  simp
 rw [←e]
 exact hr
theorem Tryz.egMt:Tryz.prog.eqGuardType Tryz.prog.depth 70=false:=by kernel_rfl
theorem exec_neqM {o:Oper} {x y:Operand} {ty:TypeId} (ho:o.op=.binOp .neq 70 x y ty) {a:Act} {u t:Mt} (hx:a.eval x=.agg (mtC u).toArray) (hy:a.eval y=.agg (mtC t).toArray) (hu:MtOk u) (ht:MtOk t) (w:World) :
  (execOp a.eval o).run Tryz.prog w=.ok (.value (.bool (!decide (u=t)))) w:=by
 unfold execOp
 have he:(eqGuard .neq 70 x y (.agg (mtC u).toArray) (.agg (mtC t).toArray)).run Tryz.prog w=.ok () w:=by
  simp [eqGuard,Tryz.egMt]
 have h2:(Op.equal 70 (.agg (mtC u).toArray) (.agg (mtC t).toArray)).run Tryz.prog w=.ok (decide (u=t)) w:=equal_mt hu ht w
 simp [ho,hx,hy,he,binOp,h2]
theorem exec_neqS {o:Oper} {x y:Operand} {ty:TypeId} (ho:o.op=.binOp .neq 70 x y ty) {a:Act} {u:Mt} (hx:a.eval x=.agg (mtC u).toArray) (hy:a.eval y=.agg (mtC u).toArray) (hu:MtOk u) (w:World) :
  (execOp a.eval o).run Tryz.prog w=.ok (.value (.bool false)) w:=by
 have:=exec_neqM ho hx hy hu hu w
 simpa using this
theorem Tryz.rowMt':(Tryz.prog.underlying 70).map TypeDesc.isRow=some true:=by kernel_rfl
def MtsP (w:World) (p:Option Addr) (l:List Mt):Prop:=¬l=[]→∃g,p=some ⟨g,0,none⟩∧g<w.heap.size∧∀(i:Nat) (x:Mt),l[i]? = some x→w.rangeAt g (i*6) (mtC x)
theorem MtsP.nw {w w':World} {p:Option Addr} {l:List Mt} (h:MtsP w p l) (k:Nw w w'):MtsP w' p l:=by
 intro hne
 obtain ⟨g,e,hl,hc⟩:=h hne
 exact ⟨g,e,Nat.lt_of_lt_of_le hl k.size,fun i x hx j v hv=>(k.cell (p:=⟨g,i*6+j,none⟩) hl (fun h=>h)).trans (hc i x hx j v hv)⟩
theorem sameM_same (p p':Option Addr) (cap cap':Nat) (l:List Mt) (w:World) (hp:MtsP w p l) (hp':MtsP w p' l) (hm:l.length≤800000000000) (hok:∀x∈l,MtOk x) :
  Calls Tryz.prog 54 #[.slice p l.length cap,.slice p' l.length cap'] w fun e w'=>e=.returned (.bool true)∧Nw w w':=by
 go_enter Tryz.func54,Tryz.ntmps54
 go_wp2
 go_loopg [5] l.length (fun m v5 wr=>∃i:Nat,v5=.int .i64 i∧m=l.length - i∧i≤l.length∧MtsP wr p l∧MtsP wr p' l∧Nw w wr)
 case atStart=>exact ⟨0,rfl,rfl,by omega,hp,hp',Kp.refl _ _⟩
 case round =>
  obtain ⟨i,rfl,hm',hi,hc,hc',hnw⟩:=hrel
  by_cases hi':i<l.length
  ·obtain ⟨x,hx⟩:∃x,l[i]? = some x:=⟨l[i],by simp [hi']⟩
   have hne:¬l=[]:=by intro e;rw [e] at hx;simp at hx
   obtain ⟨g,rfl,hgl,hcr⟩:=hc hne
   obtain ⟨g',rfl,hgl',hcr'⟩:=hc' hne
   have HR:Hid (∀W,Nw wr W→W.rangeAt g (i*6) (mtC x)):=fun W k j v hv=>(k.cell (p:=⟨g,i*6+j,none⟩) hgl (fun h=>h)).trans (hcr i x hx j v hv)
   have HR':Hid (∀W,Nw wr W→W.rangeAt g' (i*6) (mtC x)):=fun W k j v hv=>(k.cell (p:=⟨g',i*6+j,none⟩) hgl' (fun h=>h)).trans (hcr' i x hx j v hv)
   have hmo:MtOk x:=hok x (List.mem_of_getElem? hx)
   have HMO:Hid (MtOk x):=hmo
   have HP:Hid (MtsP wr (some ⟨g,0,none⟩) l):=hc
   have HP':Hid (MtsP wr (some ⟨g',0,none⟩) l):=hc'
   have HK:Hid (Nw w wr):=hnw
   obtain ⟨dd,hu,hd⟩:=Option.map_eq_some_iff.1 Tryz.rowMt'
   clear hc hc' hnw hcr hcr' hp hp' hok hmo
   go_wp2
   refine wp_region_held_drew (S:=fun W=>Nw wr W) (by kernel_rfl) ((Kp.refl _ _).drew) (fun hHeld => ?_)
   refine takeL (i:=0) (v := ?_) rfl (by kernel_rfl) (by kernel_rfl) (by kernel_rfl) (fun _ _ _ h=>h) (Or.inl ⟨by rfl,fun W hSW => ?y0⟩) hHeld ?_
   case y0=>(try dsimp only at hSW);go_simp;rw []
   simp only [Act.put,sA,sZ,sS]
   refine takeL (i:=1) (v := ?_) rfl (by kernel_rfl) (by kernel_rfl) (by kernel_rfl) (fun _ _ _ h=>h) (Or.inl ⟨by rfl,fun W hSW => ?y1⟩) hHeld ?_
   case y1=>(try dsimp only at hSW);go_simp;rw []
   simp only [Act.put,sA,sZ,sS]
   refine takeL (i:=2) (v := ?_) rfl (by kernel_rfl) (by kernel_rfl) (by kernel_rfl) (fun _ _ _ h=>h) (Or.inl ⟨by rfl,fun W hSW => ?y2⟩) hHeld ?_
   case y2=>(try dsimp only at hSW);go_simp;rw []
   simp only [Act.put,sA,sZ,sS]
   refine takeL (i:=3) (v:=_) rfl (by kernel_rfl) (by kernel_rfl) (by kernel_rfl) (fun _ _ _ h=>h) (yieldsIf_load_mid (by rfl) 70 _ rfl g (i*6) rfl (mtC x) dd HR.out hu hd (size_mt x)) hHeld ?_
   simp only [Act.put,sA,sZ,sS]
   refine takeL (i:=4) (v := ?_) rfl (by kernel_rfl) (by kernel_rfl) (by kernel_rfl) (fun _ _ _ h=>h) (Or.inl ⟨by rfl,fun W hSW => ?y4⟩) hHeld ?_
   case y4=>(try dsimp only at hSW);go_simp;rw []
   simp only [Act.put,sA,sZ,sS]
   refine takeL (i:=5) (v := ?_) rfl (by kernel_rfl) (by kernel_rfl) (by kernel_rfl) (fun _ _ _ h=>h) (Or.inl ⟨by rfl,fun W hSW => ?y5⟩) hHeld ?_
   case y5=>(try dsimp only at hSW);go_simp;rw []
   simp only [Act.put,sA,sZ,sS]
   refine takeL (i:=6) (v := ?_) rfl (by kernel_rfl) (by kernel_rfl) (by kernel_rfl) (fun _ _ _ h=>h) (Or.inl ⟨by rfl,fun W hSW => ?y6⟩) hHeld ?_
   case y6=>(try dsimp only at hSW);go_simp;rw []
   simp only [Act.put,sA,sZ,sS]
   refine takeL (i:=7) (v:=_) rfl (by kernel_rfl) (by kernel_rfl) (by kernel_rfl) (fun _ _ _ h=>h) (yieldsIf_load_mid (by rfl) 70 _ rfl g' (i*6) rfl (mtC x) dd HR'.out hu hd (size_mt x)) hHeld ?_
   simp only [Act.put,sA,sZ,sS]
   refine takeL (i:=8) (v:=.bool false) rfl (by kernel_rfl) (by kernel_rfl) (by kernel_rfl) (fun _ _ _ h=>h) (Or.inl ⟨by rfl,fun W hSW=>exec_neqS rfl rfl rfl HMO.out W⟩) hHeld ?_
   simp only [Act.put,sA,sZ,sS]
   refine wpAnyH_done (by kernel_rfl) ?_ _
   have kw2:Hid (Nw wr wr.drew):=(Kp.refl _ _).drew
   go_wp2
   go_roundg (l.length - (i+1))
   case measure=>omega
   case rel=>exact ⟨i+1,by simp,rfl,by omega,HP.out.nw kw2.out,HP'.out.nw kw2.out,HK.out.trans kw2.out⟩
  ·go_wp2
   go_ret
   exact ⟨rfl,hnw⟩
end Go.Proofs.YtcboiapggnmpfaaGreat
