import Derived.Test.YtcboiapggnmpfaaGreatDoorQak
import Derived.Test.YtcboiapggnmpfaaGreatDoorQad
import Derived.Deep.QuietTactic
import Derived.BigQuiet
namespace Go.Proofs.YtcboiapggnmpfaaGreatDoor
set_option maxRecDepth 100000
set_option maxHeartbeats 1000000
set_option linter.unusedSimpArgs false
set_option linter.unusedVariables false
open Go.RowKit
def scF (l:List Int) (i:Nat):Int:=if h:i<l.length then l[i] - 48 else 0
def schV (l:List Int):Value:=.agg #[.int .i64 l.length,.int .i64 (scF l 0),.int .i64 (scF l 1),.int .i64 (scF l 2),.int .i64 (scF l 3)]
def hasK (l:List Int) (k:Int):Bool:=decide (0≤k)&&decide (k<l.length)
def hasFd (l:List Int) (k f:Int):Bool:=decide (f=0)||(hasK l k&&decide (1≤f)&&decide (f≤scF l k.toNat))
theorem has_any (l:List Int) (k:Int) (w:World) (hl:l.length≤4) :
  Calls Tryz.prog 65 #[schV l,.int .i64 k] w fun e w'=>e=.returned (.bool (hasK l k))∧Nw w w':=by
 unfold schV hasK
 by_cases h0:0≤k
 ·have h1:decide (0≤k)=true:=decide_eq_true h0
  rw [h1]
  go_enter Tryz.func65,Tryz.ntmps65
  go_wp2
  go_ret
  exact ⟨by simp,(Kp.refl _ _).alloc _⟩
 ·have h1:decide (0≤k)=false:=decide_eq_false h0
  rw [h1]
  go_enter Tryz.func65,Tryz.ntmps65
  go_wp2
  go_ret
  exact ⟨by simp,(Kp.refl _ _).alloc _⟩
theorem hasField_any (l:List Int) (k f:Int) (w:World) (hl:l.length≤4) :
  Calls Tryz.prog 82 #[schV l,.int .i64 k,.int .i64 f] w fun e w'=>e=.returned (.bool (hasFd l k f))∧Nw w w':=by
 by_cases hf:f=0
 ·subst hf
  have e:hasFd l k 0=true:=by simp [hasFd]
  rw [e]
  unfold schV
  go_enter Tryz.func82,Tryz.ntmps82
  go_wp2
  go_ret
  exact ⟨rfl,(Kp.refl _ _).alloc _⟩
 ·have hf':(f == 0)=false:=by simp [hf]
  have e:hasFd l k f=(hasK l k&&decide (1≤f)&&decide (f≤scF l k.toNat)):=by simp [hasFd,hf]
  rw [e]
  generalize hk:hasK l k=K
  have HK:Hid (hasK l k=K):=hk
  have hkb:K=true→0≤k∧k<4:=by
   intro h
   rw [←hk] at h
   simp only [hasK,Bool.and_eq_true,decide_eq_true_eq] at h
   omega
  clear hk e hf
  unfold schV
  go_enter Tryz.func82,Tryz.ntmps82
  go_wp2_with fail
  refine (has_any l k _ hl).mono ?_
  rw [HK.out]
  rintro e1 w1 ⟨rfl,k1⟩
  obtain ⟨kk,hlt,⟨kc,kz⟩⟩:=k1.box (fun h=>h)
  have K1:Hid (Nw w w1):=kk
  clear k1 kk
  cases K with
  | false =>
   go_wp2
   go_ret
   exact ⟨by simp,K1.out⟩
  | true =>
   obtain ⟨h0,h4⟩:=hkb rfl
   clear hkb
   have hk4:k=0∨k=1∨k=2∨k=3:=by omega
   rcases hk4 with rfl|rfl|rfl|rfl
   all_goals
    by_cases h1:1≤f
    ·have h1':decide (1≤f)=true:=decide_eq_true h1
     go_wp2
     go_ret
     exact ⟨ret_b (by simp [h1]),K1.out⟩
    ·have h1':decide (1≤f)=false:=decide_eq_false h1
     go_wp2
     go_ret
     exact ⟨ret_b (by simp;intro h;omega),K1.out⟩
theorem results_ct {fn:Func} {a u:Tmp} {t:TypeId} (h:fn.results=#[.cell a t,.tmp u]) (tmps:Array Value) (P:Program) (w:World) (b:Addr) (hp:tmps.getD a undef=.pointer (some b)) (x:Value) (hl:(loadVar t b).run P w=.ok x w):(results fn tmps).run P w=.ok (.tuple #[x,tmps.getD u undef]) w:=by
 have hp':tmps[a]?.getD undef=.pointer (some b):=by simpa using hp
 simp [results,h,hp',asAddr,hl]
theorem Tryz.rowK:(Tryz.prog.underlying 75).map TypeDesc.isRow=some true:=by kernel_rfl
theorem Tryz.sizeK:(Tryz.prog.info? 75).map (·.size)=some 5:=by kernel_rfl
structure F5 (w:World) (B:Nat) (a b c d e:Int):Prop where
 c0:w.cell? ⟨B,0,none⟩=some (.int .i64 a)
 c1:w.cell? ⟨B,1,none⟩=some (.int .i64 b)
 c2:w.cell? ⟨B,2,none⟩=some (.int .i64 c)
 c3:w.cell? ⟨B,3,none⟩=some (.int .i64 d)
 c4:w.cell? ⟨B,4,none⟩=some (.int .i64 e)
 fz:∀o,w.frozen? ⟨B,o,none⟩=false
theorem F5.load {w:World} {B:Nat} {a b c d e:Int} (h:F5 w B a b c d e):(loadVar 75 ⟨B,0,none⟩).run Tryz.prog w=.ok (.agg #[.int .i64 a,.int .i64 b,.int .i64 c,.int .i64 d,.int .i64 e]) w:=by
 obtain ⟨dd,hu,hd⟩:=Option.map_eq_some_iff.1 Tryz.rowK
 refine run_loadVar_mid w B 0 75 [.int .i64 a,.int .i64 b,.int .i64 c,.int .i64 d,.int .i64 e] dd ?_ hu hd Tryz.sizeK
 intro k v hv
 rw [Nat.zero_add]
 match k,hv with
 | 0,hv=>simp at hv;rw [h.c0,hv]
 | 1,hv=>simp at hv;rw [h.c1,hv]
 | 2,hv=>simp at hv;rw [h.c2,hv]
 | 3,hv=>simp at hv;rw [h.c3,hv]
 | 4,hv=>simp at hv;rw [h.c4,hv]
theorem F5.new (w:World) (t:TypeId) {B:Nat} (hB:B=w.heap.size):F5 (w.alloc (.cells #[.int .i64 0,.int .i64 0,.int .i64 0,.int .i64 0,.int .i64 0] t)) B 0 0 0 0 0:=by
 subst hB
 constructor <;> simp [go_sem,World.cell?_alloc_at,World.frozen?_alloc_at]
theorem F5.sm {w w':World} {B:Nat} {a b c d e:Int} (h:F5 w B a b c d e) (s:Sm w w' B):F5 w' B a b c d e :=
 ⟨(s.cell 0).trans h.c0,(s.cell 1).trans h.c1,(s.cell 2).trans h.c2,(s.cell 3).trans h.c3,(s.cell 4).trans h.c4,fun o=>(s.froz o).trans (h.fz o)⟩
theorem F5.lt {w:World} {B:Nat} {a b c d e:Int} (h:F5 w B a b c d e):B<w.heap.size:=World.block_lt_of_cell? w ⟨B,0,none⟩ h.c0
def fK (l:List Int) (k j:Nat):Int:=if j<k then scF l j else 0
def digB (c:Int):Bool:=c == 48||c == 49||c == 50||c == 51
theorem digB_iff (c:Int):digB c=true↔48≤c∧c≤51:=by simp [digB];omega
theorem bI_get (s:ByteArray) (k:Nat) (h:k<s.size):(bI s)[k]? = some (s[k].toNat:Int):=by
 have:=bI_drop s k h
 have h2:((bI s).drop k)[0]? = some (s[k].toNat:Int):=by rw [this];rfl
 simpa using h2
theorem scF_at (s:ByteArray) (k:Nat) (h:k<s.size):scF (bI s) k=(s[k].toNat:Int) - 48:=by
 have hl:k<(bI s).length:=by rw [bI_length];exact h
 have:=bI_get s k h
 rw [List.getElem?_eq_getElem hl] at this
 simp only [Option.some.injEq] at this
 simp [scF,hl,this]
theorem fK_step (l:List Int) (k j:Nat):fK l (k+1) j=if j=k then scF l j else fK l k j:=by
 unfold fK
 by_cases h:j=k
 ·subst h;simp
 ·rw [if_neg h]
  by_cases h2:j<k
  ·rw [if_pos h2,if_pos (by omega)]
  ·rw [if_neg h2,if_neg (by omega)]
def KindsPost (s:ByteArray) (w:World) (e:Ending) (w':World):Prop :=
 Nw w w'∧((schemaB (bI s)=true∧e=.returned (.tuple #[schV (bI s),.bool true]))∨(schemaB (bI s)=false∧e=.returned (.tuple #[.agg #[.int .i64 0,.int .i64 0,.int .i64 0,.int .i64 0,.int .i64 0],.bool false])))
theorem readK_any (s:ByteArray) (w:World) (hs:s.size≤maxLen):Calls Tryz.prog 30 #[.string s] w (KindsPost s w):=by
 unfold maxLen at hs
 have HF:Hid (∀W:World,F5 W w.heap.size 0 0 0 0 0→F5 (((((W.setCell ⟨w.heap.size,0,none⟩ (.int .i64 0)).setCell ⟨w.heap.size,1,none⟩ (.int .i64 0)).setCell ⟨w.heap.size,2,none⟩ (.int .i64 0)).setCell ⟨w.heap.size,3,none⟩ (.int .i64 0)).setCell ⟨w.heap.size,4,none⟩ (.int .i64 0)) w.heap.size 0 0 0 0 0):=by
  rintro W ⟨c0,c1,c2,c3,c4,fz⟩
  constructor <;> simp [go_sem,c0,c1,c2,c3,c4,fz]
 have HK:Hid (∀W:World,Nw w W→∀a b c d e,Nw w (((((W.setCell ⟨w.heap.size,0,none⟩ a).setCell ⟨w.heap.size,1,none⟩ b).setCell ⟨w.heap.size,2,none⟩ c).setCell ⟨w.heap.size,3,none⟩ d).setCell ⟨w.heap.size,4,none⟩ e)):=fun W k a b c d e=>((((k.setCell (p:=⟨w.heap.size,0,none⟩) (Or.inl (Nat.le_refl _)) _).setCell (p:=⟨w.heap.size,1,none⟩) (Or.inl (Nat.le_refl _)) _).setCell (p:=⟨w.heap.size,2,none⟩) (Or.inl (Nat.le_refl _)) _).setCell (p:=⟨w.heap.size,3,none⟩) (Or.inl (Nat.le_refl _)) _).setCell (p:=⟨w.heap.size,4,none⟩) (Or.inl (Nat.le_refl _)) _
 by_cases h0:s.size<1∨4<s.size
 ·have hsb:schemaB (bI s)=false:=by
   simp only [schemaB,bI_length,Bool.and_eq_false_iff,decide_eq_false_iff_not]
   rcases h0 with h|h
   ·exact Or.inl (Or.inr (by omega))
   ·exact Or.inr (by omega)
  have HSB:Hid (schemaB (bI s)=false):=hsb
  clear hsb
  rcases h0 with h|h
  all_goals
   go_enter Tryz.func30,Tryz.ntmps30
   go_wp2
   refine bodyPost_ret (results_ct Tryz.results30 _ _ _ ⟨w.heap.size,0,none⟩ rfl _ (((F5.new w _ rfl).sm (((Kp.refl (fun _=>False) _).alloc _).sm (F5.new w _ rfl).lt (fun h=>h))).load)) rfl ?_
   exact ⟨((Kp.refl _ _).alloc _).alloc _,Or.inr ⟨HSB.out,rfl⟩⟩
 ·have hs1:1≤s.size:=by omega
  have hs4:s.size≤4:=by omega
  clear h0
  go_enter Tryz.func30,Tryz.ntmps30
  go_wp2
  go_loopg [5] s.size (fun m v5 wr=>∃i:Nat,v5=.int .i64 i∧m=s.size - i∧i≤s.size∧(∀(j:Nat) (h:j<s.size),j<i→digB (s[j].toNat:Int)=true)∧F5 wr w.heap.size 0 0 0 0 0∧F5 wr (w.heap.size+1) 0 (fK (bI s) i 0) (fK (bI s) i 1) (fK (bI s) i 2) (fK (bI s) i 3)∧Nw w wr)
  case atStart =>
   have h1:=(F5.new w 75 (B:=w.heap.size) rfl)
   refine ⟨0,rfl,rfl,by omega,(fun j _ h=>by omega),h1.sm (((Kp.refl (fun _=>False) _).alloc _).sm h1.lt (fun h=>h)),F5.new _ _ (by simp),((Kp.refl _ _).alloc _).alloc _⟩
  case round =>
   obtain ⟨i,rfl,hm,hi,hd,f1,f2,hk⟩:=hrel
   have HD:Hid (∀(j:Nat) (h:j<s.size),j<i→digB (s[j].toNat:Int)=true):=hd
   have HM:Hid (_=s.size - i):=hm
   have F1:Hid (F5 wr w.heap.size 0 0 0 0 0):=f1
   have F2:Hid (F5 wr (w.heap.size+1) 0 (fK (bI s) i 0) (fK (bI s) i 1) (fK (bI s) i 2) (fK (bI s) i 3)):=f2
   have HN:Hid (Nw w wr):=hk
   have hlt:=f2.lt
   clear hd hm hk
   by_cases hil:i<s.size
   ·have hb1:(s[i].toNat:Int)≤255:=by have:=s[i].toNat_lt;omega
    have HSC:Hid (scF (bI s) i=(s[i].toNat:Int) - 48):=scF_at s i hil
    by_cases hdg:digB (s[i].toNat:Int)=true
    ·have hbd:=(digB_iff _).1 hdg
     have HDG:Hid (digB (s[i].toNat:Int)=true):=hdg
     obtain ⟨c0,c1,c2,c3,c4,fz⟩:=f2
     have hi4:i=0∨i=1∨i=2∨i=3:=by omega
     have HNX:Hid (∀j (h:j<s.size),j<i+1→digB (s[j].toNat:Int)=true):=by
      intro j h hj
      by_cases e:j=i
      ·subst e;exact HDG.out
      ·exact HD.out j h (by omega)
     clear f1 hdg
     have HW:Hid (∀v:Int,v=scF (bI s) i→F5 (wr.setCell ⟨w.heap.size+1,1+i,none⟩ (.int .i64 v)) (w.heap.size+1) 0 (fK (bI s) (i+1) 0) (fK (bI s) (i+1) 1) (fK (bI s) (i+1) 2) (fK (bI s) (i+1) 3)):=by
      rintro v rfl
      rcases hi4 with rfl|rfl|rfl|rfl <;> (constructor <;> simp [go_sem,c0,c1,c2,c3,c4,fz,fK_step])
     have HW1:Hid (∀v,F5 (wr.setCell ⟨w.heap.size+1,1+i,none⟩ v) w.heap.size 0 0 0 0 0):=fun v=>F1.out.sm (((Kp.refl (fun b=>b=w.heap.size+1) wr).setCell (p:=⟨w.heap.size+1,1+i,none⟩) (Or.inr rfl) v).sm F1.out.lt (by omega))
     have HW2:Hid (∀v,Nw w (wr.setCell ⟨w.heap.size+1,1+i,none⟩ v)):=fun v=>HN.out.setCell (p:=⟨w.heap.size+1,1+i,none⟩) (Or.inl (by show w.heap.size≤w.heap.size+1;omega)) v
     rcases hi4 with hi4|hi4|hi4|hi4
     ·subst hi4
      go_wp2
      go_roundg (s.size - (0+1))
      case measure=>rw [HM.out];omega
      case rel=>exact ⟨0+1,by simp,rfl,by omega,HNX.out,HW1.out _,HW.out _ (by rw [HSC.out]),HW2.out _⟩
     ·subst hi4
      go_wp2
      go_roundg (s.size - (1+1))
      case measure=>rw [HM.out];omega
      case rel=>exact ⟨1+1,by simp,rfl,by omega,HNX.out,HW1.out _,HW.out _ (by rw [HSC.out]),HW2.out _⟩
     ·subst hi4
      go_wp2
      go_roundg (s.size - (2+1))
      case measure=>rw [HM.out];omega
      case rel=>exact ⟨2+1,by simp,rfl,by omega,HNX.out,HW1.out _,HW.out _ (by rw [HSC.out]),HW2.out _⟩
     ·subst hi4
      go_wp2
      go_roundg (s.size - (3+1))
      case measure=>rw [HM.out];omega
      case rel=>exact ⟨3+1,by simp,rfl,by omega,HNX.out,HW1.out _,HW.out _ (by rw [HSC.out]),HW2.out _⟩
    ·have HSB:Hid (schemaB (bI s)=false):=by
      show _=_
      have hx:=List.mem_of_getElem? (bI_get s i hil)
      cases hsb:schemaB (bI s) with
      | false=>rfl
      | true =>
       simp only [schemaB,Bool.and_eq_true,List.all_eq_true] at hsb
       exact absurd (hsb.1.1 _ hx) hdg
     have hbd:¬(48≤(s[i].toNat:Int)∧(s[i].toNat:Int)≤51):=fun h=>hdg ((digB_iff _).2 h)
     obtain ⟨c0,c1,c2,c3,c4,fz⟩:=f1
     clear f2 hdg
     have hcase:(s[i].toNat:Int)<48∨51<(s[i].toNat:Int):=by omega
     clear hbd
     rcases hcase with hcase|hcase
     all_goals
      go_wp2
      refine bodyPost_ret (results_ct Tryz.results30 _ _ _ ⟨w.heap.size,0,none⟩ rfl _ (HF.out _ F1.out).load) rfl ?_
      exact ⟨HK.out _ HN.out _ _ _ _ _,Or.inr ⟨HSB.out,rfl⟩⟩
   ·have hie:i=s.size:=by omega
    have HSB:Hid (schemaB (bI s)=true):=by
     show _=_
     simp only [schemaB,Bool.and_eq_true,decide_eq_true_eq,List.all_eq_true,bI_length]
     refine ⟨⟨?_,by omega⟩,hs4⟩
     intro c hc
     obtain ⟨j,hj⟩:=List.mem_iff_getElem?.1 hc
     have hjl:j<s.size:=by have:=(List.getElem?_eq_some_iff.1 hj).1;rwa [bI_length] at this
     rw [bI_get s j hjl] at hj
     simp only [Option.some.injEq] at hj
     subst hj
     exact HD.out j hjl (by omega)
    have HE:Hid (∀j,fK (bI s) i j=scF (bI s) j):=by
     intro j
     unfold fK
     split
     ·rfl
     ·have:¬j<(bI s).length:=by rw [bI_length];omega
      simp [scF,this]
    have F3:Hid (F5 wr (w.heap.size+1) 0 (scF (bI s) 0) (scF (bI s) 1) (scF (bI s) 2) (scF (bI s) 3)):=by
     have:=F2.out
     rw [HE.out,HE.out,HE.out,HE.out] at this
     exact this
    have HV:Hid (schV (bI s)=.agg #[.int .i64 s.size,.int .i64 (scF (bI s) 0),.int .i64 (scF (bI s) 1),.int .i64 (scF (bI s) 2),.int .i64 (scF (bI s) 3)]):=by
     show _=_
     unfold schV
     rw [bI_length]
    subst hie
    obtain ⟨c0,c1,c2,c3,c4,fz⟩:=F3.out
    obtain ⟨d0,d1,d2,d3,d4,dz⟩:=F1.out
    have HFF:Hid (∀W:World,F5 W w.heap.size 0 0 0 0 0→∀a b c d e:Int,F5 (((((W.setCell ⟨w.heap.size,0,none⟩ (.int .i64 a)).setCell ⟨w.heap.size,1,none⟩ (.int .i64 b)).setCell ⟨w.heap.size,2,none⟩ (.int .i64 c)).setCell ⟨w.heap.size,3,none⟩ (.int .i64 d)).setCell ⟨w.heap.size,4,none⟩ (.int .i64 e)) w.heap.size a b c d e):=by
     rintro W ⟨c0,c1,c2,c3,c4,fz⟩ a b c d e
     constructor <;> simp [go_sem,c0,c1,c2,c3,c4,fz]
    have F1':Hid (F5 (wr.setCell ⟨w.heap.size+1,0,none⟩ (.int .i64 s.size)) w.heap.size 0 0 0 0 0):=F1.out.sm (((Kp.refl (fun b=>b=w.heap.size+1) wr).setCell (p:=⟨w.heap.size+1,0,none⟩) (Or.inr rfl) _).sm F1.out.lt (by omega))
    have HN':Hid (Nw w (wr.setCell ⟨w.heap.size+1,0,none⟩ (.int .i64 s.size))):=HN.out.setCell (p:=⟨w.heap.size+1,0,none⟩) (Or.inl (by show w.heap.size≤w.heap.size+1;omega)) _
    clear f1 f2 HD F2 HE
    go_wp2
    refine bodyPost_ret (results_ct Tryz.results30 _ _ _ ⟨w.heap.size,0,none⟩ rfl _ (HFF.out _ F1'.out _ _ _ _ _).load) rfl ?_
    refine ⟨HK.out _ HN'.out _ _ _ _ _,Or.inl ⟨HSB.out,?_⟩⟩
    rw [HV.out];rfl
theorem wrap_small (n:Nat) (h:n<9223372036854775808):IntKind.i64.wrap (n:Int)=n:=by rw [IntKind.wrap_i64];omega
theorem bv_small (n:Nat) (h:n<2 ^ 64):(BitVec.ofInt 64 (n:Int)).toNat=n:=by
 simp only [BitVec.toNat_ofInt]
 omega
theorem bits_or (m n:Nat) (hm:m<2 ^ 26) (hn:n<2 ^ 26):bits .or .i64 (m:Int) (n:Int)=((m ||| n:Nat):Int):=by
 have h1:=bv_small m (by omega)
 have h2:=bv_small n (by omega)
 have h3:m ||| n<2 ^ 26:=Nat.or_lt_two_pow hm hn
 have h4:(BitVec.ofInt 64 (m:Int) ||| BitVec.ofInt 64 (n:Int)).toNat=m ||| n:=by rw [BitVec.toNat_or,h1,h2]
 show IntKind.i64.wrap ((BitVec.ofInt 64 (m:Int) ||| BitVec.ofInt 64 (n:Int)).toNat:Int)=_
 rw [h4]
 exact wrap_small (m ||| n) (by omega)
theorem bits_and (m n:Nat) (hm:m<2 ^ 26) (hn:n<2 ^ 26):bits .and .i64 (m:Int) (n:Int)=((m &&& n:Nat):Int):=by
 have h1:=bv_small m (by omega)
 have h2:=bv_small n (by omega)
 have h3:m &&& n<2 ^ 26:=Nat.and_lt_two_pow m hn
 have h4:(BitVec.ofInt 64 (m:Int) &&& BitVec.ofInt 64 (n:Int)).toNat=m &&& n:=by rw [BitVec.toNat_and,h1,h2]
 show IntKind.i64.wrap ((BitVec.ofInt 64 (m:Int) &&& BitVec.ofInt 64 (n:Int)).toNat:Int)=_
 rw [h4]
 exact wrap_small (m &&& n) (by omega)
def onlyN (n:Int):Nat:=if 0≤n∧n<26 then 2 ^ n.toNat else 0
theorem onlyN_lt (n:Int):onlyN n<2 ^ 26:=by
 unfold onlyN
 split
 ·exact Nat.pow_lt_pow_right (by omega) (by omega)
 ·omega
theorem only_any (n:Int) (w:World) :
  Calls Tryz.prog 108 #[.int .i64 n] w fun e w'=>e=.returned (.int .i64 (onlyN n:Nat))∧w'=w:=by
 by_cases h:0≤n∧n<26
 ·obtain ⟨h0,h1⟩:=h
  have e:onlyN n=2 ^ n.toNat:=by simp [onlyN,h0,h1]
  have hlt:=onlyN_lt n
  rw [e] at hlt ⊢
  have hw:wrap64 (2 ^ n.toNat)=((2 ^ n.toNat:Nat):Int):=by
   have:=wrap_small (2 ^ n.toNat) (by omega)
   rw [←this]
   simp [wrap64,IntKind.wrap_i64]
  go_enter Tryz.func108,Tryz.ntmps108
  go_wp2
  go_ret
  exact ⟨by rw [←hw];rfl,rfl⟩
 ·have e:onlyN n=0:=by simp only [onlyN,if_neg h]
  rw [e]
  by_cases h0:n<0
  ·go_enter Tryz.func108,Tryz.ntmps108
   go_wp2
   go_ret
   exact ⟨rfl,rfl⟩
  ·have h1:26≤n:=by omega
   go_enter Tryz.func108,Tryz.ntmps108
   go_wp2
   go_ret
   exact ⟨rfl,rfl⟩
def hasN (m:Nat) (n:Int):Bool:=(m &&& onlyN n) != 0
theorem hasN_iff (m:Nat) (n:Nat) (h:n<26):hasN m (n:Int)=m.testBit n:=by
 have e:onlyN (n:Int)=2 ^ n:=by simp [onlyN];omega
 unfold hasN
 rw [e]
 cases ht:m.testBit n with
 | true =>
  rw [bne_iff_ne]
  intro hz
  have:(m &&& 2 ^ n).testBit n=true:=by rw [Nat.testBit_and,ht,Nat.testBit_two_pow_self];rfl
  rw [hz] at this
  simp at this
 | false =>
  have:m &&& 2 ^ n=0:=by
   apply Nat.eq_of_testBit_eq
   intro i
   rw [Nat.testBit_and,Nat.zero_testBit]
   by_cases hi:n=i
   ·subst hi;rw [ht];rfl
   ·rw [Nat.testBit_two_pow_of_ne hi];simp
  rw [this];rfl
theorem hasSet_any (m:Nat) (n:Int) (w:World) (hm:m<2 ^ 26) :
  Calls Tryz.prog 93 #[.int .i64 m,.int .i64 n] w fun e w'=>e=.returned (.bool (hasN m n))∧w'=w:=by
 have hb:=bits_and m (onlyN n) hm (onlyN_lt n)
 go_enter Tryz.func93,Tryz.ntmps93
 go_wp2_with fail
 refine (only_any n w).mono ?_
 rintro e w1 ⟨rfl,rfl⟩
 go_wp2
 go_ret
 refine ⟨ret_b ?_,rfl⟩
 unfold hasN
 simp only [bne,hb]
 cases hq:(m &&& onlyN n) == 0 with
 | true=>simp at hq;simp [hq]
 | false=>simp at hq;simp [hq]
theorem Tryz.rowH:(Tryz.prog.underlying 150).map TypeDesc.isRow=some true:=by kernel_rfl
theorem Tryz.sizeH:(Tryz.prog.info? 150).map (·.size)=some 2:=by kernel_rfl
theorem load_held (w:World) (B:Nat) (a b:Int) (h0:w.cell? ⟨B,0,none⟩=some (.int .i64 a)) (h1:w.cell? ⟨B,1,none⟩=some (.int .i64 b)):(loadVar 150 ⟨B,0,none⟩).run Tryz.prog w=.ok (.agg #[.int .i64 a,.int .i64 b]) w:=by
 obtain ⟨dd,hu,hd⟩:=Option.map_eq_some_iff.1 Tryz.rowH
 refine run_loadVar_mid w B 0 150 [.int .i64 a,.int .i64 b] dd ?_ hu hd Tryz.sizeH
 intro k v hv
 rw [Nat.zero_add]
 match k,hv with
 | 0,hv=>simp at hv;rw [h0,hv]
 | 1,hv=>simp at hv;rw [h1,hv]
theorem results_cX {fn:Func} {a:Tmp} {t:TypeId} (h:fn.results=#[.cell a t]) (tmps:Array Value) (P:Program) (w:World) (b:Addr) (hp:tmps.getD a undef=.pointer (some b)) (v:Value) (hl:(loadVar t b).run P w=.ok v w):(results fn tmps).run P w=.ok v w:=by
 have hp':tmps[a]?.getD undef=.pointer (some b):=by simpa using hp
 simp [results,h,hp',asAddr,hl]
theorem heldAnd_any (a b c d:Nat) (w:World) (ha:a<2 ^ 26) (hb:b<2 ^ 26) (hc:c<2 ^ 26) (hd:d<2 ^ 26) :
  Calls Tryz.prog 92 #[.agg #[.int .i64 a,.int .i64 b],.agg #[.int .i64 c,.int .i64 d]] w fun e w'=>e=.returned (.agg #[.int .i64 (a ||| c:Nat),.int .i64 (b ||| d:Nat)])∧Nw w w':=by
 have e1:=bits_or a c ha hc
 have e2:=bits_or b d hb hd
 go_enter Tryz.func92,Tryz.ntmps92
 go_wp2
 refine bodyPost_ret (results_cX Tryz.results92 _ _ _ ⟨w.heap.size+2,0,none⟩ rfl _ (load_held _ _ (a ||| c:Nat) (b ||| d:Nat) ?_ ?_)) rfl ?_
 ·simp [go_sem,World.cell?_alloc_at]
 ·simp [go_sem,World.cell?_alloc_at]
 ·exact ⟨rfl,(((Kp.refl _ _).alloc _).alloc _).alloc _⟩
theorem heldOr_any (a b c d:Nat) (w:World) (ha:a<2 ^ 26) (hb:b<2 ^ 26) (hc:c<2 ^ 26) (hd:d<2 ^ 26) :
  Calls Tryz.prog 109 #[.agg #[.int .i64 a,.int .i64 b],.agg #[.int .i64 c,.int .i64 d]] w fun e w'=>e=.returned (.agg #[.int .i64 (a ||| c:Nat),.int .i64 (b &&& d:Nat)])∧Nw w w':=by
 have e1:=bits_or a c ha hc
 have e2:=bits_and b d hb hd
 go_enter Tryz.func109,Tryz.ntmps109
 go_wp2
 refine bodyPost_ret (results_cX Tryz.results109 _ _ _ ⟨w.heap.size+2,0,none⟩ rfl _ (load_held _ _ (a ||| c:Nat) (b &&& d:Nat) ?_ ?_)) rfl ?_
 ·simp [go_sem,World.cell?_alloc_at]
 ·simp [go_sem,World.cell?_alloc_at]
 ·exact ⟨rfl,(((Kp.refl _ _).alloc _).alloc _).alloc _⟩
def onlyS (p:Nat):Nat:=if p≤24 then 2 ^ p else 0
theorem onlyS_lt (p:Nat):onlyS p<2 ^ 25:=by
 unfold onlyS
 split
 ·exact Nat.pow_lt_pow_right (by omega) (by omega)
 ·omega
theorem onlyS_any (p:Nat) (w:World) (hp:p≤100000) :
  Calls Tryz.prog 72 #[.int .i64 p] w fun e w'=>e=.returned (.int .i64 (onlyS p:Nat))∧w'=w:=by
 by_cases h:p≤24
 ·have e:onlyS p=2 ^ p:=by simp [onlyS,h]
  have hlt:=onlyS_lt p
  rw [e] at hlt ⊢
  have hw:wrap64 (2 ^ p)=((2 ^ p:Nat):Int):=by
   have:=wrap_small (2 ^ p) (by omega)
   rw [←this]
   simp [wrap64,IntKind.wrap_i64]
  go_enter Tryz.func72,Tryz.ntmps72
  go_wp2
  go_ret
  exact ⟨by rw [←hw];rfl,rfl⟩
 ·have e:onlyS p=0:=by simp [onlyS,h]
  rw [e]
  go_enter Tryz.func72,Tryz.ntmps72
  go_wp2
  go_ret
  exact ⟨rfl,rfl⟩
def hasS (s p:Nat):Bool:=(s &&& onlyS p) != 0
theorem bits_and25 (m n:Nat) (hm:m<2 ^ 25) (hn:n<2 ^ 25):bits .and .i64 (m:Int) (n:Int)=((m &&& n:Nat):Int):=bits_and m n (by omega) (by omega)
theorem bits_or25 (m n:Nat) (hm:m<2 ^ 25) (hn:n<2 ^ 25):bits .or .i64 (m:Int) (n:Int)=((m ||| n:Nat):Int):=bits_or m n (by omega) (by omega)
theorem hasS_any (s p:Nat) (w:World) (hs:s<2 ^ 25) (hp:p≤100000) :
  Calls Tryz.prog 76 #[.int .i64 s,.int .i64 p] w fun e w'=>e=.returned (.bool (hasS s p))∧w'=w:=by
 have hb:=bits_and25 s (onlyS p) hs (onlyS_lt p)
 go_enter Tryz.func76,Tryz.ntmps76
 go_wp2_with fail
 refine (onlyS_any p w hp).mono ?_
 rintro e w1 ⟨rfl,rfl⟩
 go_wp2
 go_ret
 refine ⟨ret_b ?_,rfl⟩
 unfold hasS
 simp only [bne,hb]
 cases hq:(s &&& onlyS p) == 0 with
 | true=>simp at hq;simp [hq]
 | false=>simp at hq;simp [hq]
def cntS (s:Nat):Nat→Nat
 | 0=>0
 | n+1=>cntS s n+if hasS s n=true then 1 else 0
theorem cntS_le (s:Nat):∀n,cntS s n≤n:=by
 intro n
 induction n with
 | zero=>exact Nat.le_refl _
 | succ n ih=>simp only [cntS];split <;> omega
def countS (s:Nat):Nat:=cntS s 25
theorem countS_any (s:Nat) (w:World) (hs:s<2 ^ 25) :
  Calls Tryz.prog 75 #[.int .i64 s] w fun e w'=>e=.returned (.int .i64 (countS s:Nat))∧w'=w:=by
 have HH:Hid (∀p W,p≤100000→Calls Tryz.prog 76 #[.int .i64 s,.int .i64 (p:Nat)] W fun e w'=>e=.returned (.bool (hasS s p))∧w'=W):=fun p W hp=>hasS_any s p W hs hp
 go_enter Tryz.func75,Tryz.ntmps75
 go_wp2
 go_loopg [3,4] 25 (fun m v3 v4 wr=>∃i:Nat,v3=.int .i64 (cntS s i:Nat)∧v4=.int .i64 i∧m=25 - i∧i≤25∧wr=w)
 case atStart=>exact ⟨0,rfl,rfl,rfl,by omega,rfl⟩
 case round =>
  obtain ⟨i,rfl,rfl,hm,hi,rfl⟩:=hrel
  have HM:Hid (_=25 - i):=hm
  have hc:=cntS_le s i
  clear hm
  by_cases hil:i<25
  ·have hstep:cntS s (i+1)=cntS s i+if hasS s i=true then 1 else 0:=rfl
   have HS:Hid (cntS s (i+1)=cntS s i+if hasS s i=true then 1 else 0):=hstep
   clear hstep
   go_wp2_with fail
   refine (HH.out i _ (by omega)).mono ?_
   rintro e w1 ⟨rfl,hw1⟩
   have hw2:=hw1.symm
   subst hw2
   clear hw1
   generalize hasS s i=hb at *
   generalize cntS s i=ci at *
   cases hb with
   | false =>
    go_wp2
    go_roundg (25 - (i+1))
    case measure=>rw [HM.out];omega
    case rel=>exact ⟨i+1,by rw [HS.out];simp,by simp,rfl,by omega,rfl⟩
   | true =>
    go_wp2
    go_roundg (25 - (i+1))
    case measure=>rw [HM.out];omega
    case rel=>exact ⟨i+1,by rw [HS.out];simp,by simp,rfl,by omega,rfl⟩
  ·have hie:i=25:=by omega
   subst hie
   go_wp2
   go_ret
   exact ⟨rfl,rfl⟩
def In64 (x:Int):Prop := -9223372036854775808≤x∧x≤9223372036854775807
instance (x:Int):Decidable (In64 x):=by unfold In64;infer_instance
theorem sum_bool {a b:Int} (ha:In64 a) (hb:In64 b):(decide (0≤b) == decide (a≤wrap64 (a+b)))=decide (In64 (a+b)):=by
 rw [Bool.eq_iff_iff]
 simp only [beq_iff_eq,decide_eq_decide,decide_eq_true_eq]
 unfold In64 at *
 unfold wrap64
 omega
theorem diff_bool {a b:Int} (ha:In64 a) (hb:In64 b):(decide (0≤b) == decide (wrap64 (a - b)≤a))=decide (In64 (a - b)):=by
 rw [Bool.eq_iff_iff]
 simp only [beq_iff_eq,decide_eq_decide,decide_eq_true_eq]
 unfold In64 at *
 unfold wrap64
 omega
theorem sum_any (a b:Int) (ha:In64 a) (hb:In64 b) (w:World) :
  Calls Tryz.prog 126 #[.int .i64 a,.int .i64 b] w fun e w'=>e=.returned (.tuple #[.int .i64 (wrap64 (a+b)),.bool (decide (In64 (a+b)))])∧w'=w:=by
 have HB:Hid ((decide (0≤b) == decide (a≤wrap64 (a+b)))=decide (In64 (a+b))):=sum_bool ha hb
 obtain ⟨ha1,ha2⟩:=ha
 obtain ⟨hb1,hb2⟩:=hb
 go_enter Tryz.func126,Tryz.ntmps126
 go_wp2
 go_ret2
 exact ⟨by rw [←HB.out];rfl,rfl⟩
theorem diff_any (a b:Int) (ha:In64 a) (hb:In64 b) (w:World) :
  Calls Tryz.prog 127 #[.int .i64 a,.int .i64 b] w fun e w'=>e=.returned (.tuple #[.int .i64 (wrap64 (a - b)),.bool (decide (In64 (a - b)))])∧w'=w:=by
 have HB:Hid ((decide (0≤b) == decide (wrap64 (a - b)≤a))=decide (In64 (a - b))):=diff_bool ha hb
 obtain ⟨ha1,ha2⟩:=ha
 obtain ⟨hb1,hb2⟩:=hb
 go_enter Tryz.func127,Tryz.ntmps127
 go_wp2
 go_ret2
 exact ⟨by rw [←HB.out];rfl,rfl⟩
theorem prod_bool {a b:Int} (ha:In64 a) (hb:In64 b) (h0:¬b=0) (h1:¬b = -1):((wrap64 (a*b)).tdiv b == a)=decide (In64 (a*b)):=by
 by_cases h:In64 (a*b)
 ·have e:wrap64 (a*b)=a*b:=by unfold wrap64;unfold In64 at h;omega
  rw [e,Int.mul_tdiv_cancel _ h0]
  simp [h]
 ·have hne:¬(wrap64 (a*b)).tdiv b=a:=by
   intro e
   obtain ⟨k,hk⟩:∃k:Int,wrap64 (a*b)=a*b - k*18446744073709551616:=by
    refine ⟨(a*b+9223372036854775808) / 18446744073709551616,?_⟩
    unfold wrap64
    omega
   have hk0:¬k=0:=by
    intro hk0
    subst hk0
    apply h
    have e2:wrap64 (a*b)=a*b:=by omega
    rw [←e2]
    unfold In64 wrap64
    omega
   have hd:=Int.tmod_add_mul_tdiv (wrap64 (a*b)) b
   rw [e] at hd
   have hm:((wrap64 (a*b)).tmod b).natAbs<b.natAbs:=by
    rw [Int.natAbs_tmod]
    exact Nat.mod_lt _ (by omega)
   have hcomm:b*a=a*b:=Int.mul_comm b a
   unfold In64 at hb
   generalize a*b=ab at *
   generalize wrap64 ab=wv at *
   omega
  simp [h,hne]
theorem wrap64_is (n:Int):In64 (wrap64 n):=by unfold In64 wrap64;omega
theorem quo_in {p b:Int} (hp:In64 p) (h0:¬b=0) (h1:¬b = -1):wrap64 (p.tdiv b)=p.tdiv b:=by
 suffices hr:In64 (p.tdiv b) by unfold In64 at hr;unfold wrap64;omega
 unfold In64 at hp ⊢
 by_cases hb:b=1
 ·subst hb;rw [Int.tdiv_one];exact hp
 ·have h2:2≤b.natAbs:=by omega
  have hq:(p.tdiv b).natAbs=p.natAbs / b.natAbs:=Int.natAbs_tdiv p b
  have hle:p.natAbs / b.natAbs≤p.natAbs / 2:=Nat.div_le_div_left h2 (by omega)
  omega
theorem prod_any (a b:Int) (ha:In64 a) (hb:In64 b) (w:World) :
  Calls Tryz.prog 128 #[.int .i64 a,.int .i64 b] w fun e w'=>e=.returned (.tuple #[.int .i64 (wrap64 (a*b)),.bool (decide (In64 (a*b)))])∧∃n,w'=w.drewN n:=by
 by_cases h1:b = -1
 ·subst h1
  have HD:=diff_any 0 a (by unfold In64;omega) ha w
  have e:a * -1 = -a:=by omega
  go_enter Tryz.func128,Tryz.ntmps128
  go_wp2_with fail
  refine HD.mono ?_
  rintro e1 w1 ⟨rfl,rfl⟩
  go_wp2
  go_ret2
  exact ⟨by rw [e];rfl,0,rfl⟩
 ·by_cases h0:b=0
  ·subst h0
   go_enter Tryz.func128,Tryz.ntmps128
   go_wp2
   go_quiet (fail)
   go_wp2
   go_ret2
   exact ⟨by rw [Int.mul_zero,show wrap64 0=0 from by unfold wrap64;omega,show decide (In64 0)=true from by simp [In64]];rfl,_,rfl⟩
  ·have HB:Hid (((wrap64 (a*b)).tdiv b == a)=decide (In64 (a*b))):=prod_bool ha hb h0 h1
   have HQ:Hid ((wrap64 ((wrap64 (a*b)).tdiv b) == a)=decide (In64 (a*b))):=by show _=_;rw [quo_in (wrap64_is _) h0 h1];exact HB.out
   have hb1:(b == -1)=false:=by simpa using h1
   have hb0:(b == 0)=false:=by simpa using h0
   obtain ⟨ha1,ha2⟩:=ha
   obtain ⟨hb2,hb3⟩:=hb
   go_enter Tryz.func128,Tryz.ntmps128
   go_wp2
   go_quiet (fail)
   go_wp2
   go_ret2
   exact ⟨by rw [←HQ.out];rfl,_,rfl⟩
end Go.Proofs.YtcboiapggnmpfaaGreatDoor
