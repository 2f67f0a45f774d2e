import Derived.Test.YtcboiapggnmpfabGreatDoorQbp
import Derived.Test.YtcboiapggnmpfabGreatDoorQbb
import Derived.Test.YtcboiapggnmpfabGreatDoorQba
import Derived.Test.YtcboiapggnmpfabGreatDoorQad
import Derived.Deep.DeepCutAuto
namespace Go.Proofs.YtcboiapggnmpfabGreatDoor
set_option maxRecDepth 100000
set_option maxHeartbeats 4000000
set_option linter.unusedSimpArgs false
set_option linter.unusedVariables false
open Go.RowKit
open Value (int bool)
open IntKind (i64)
def stepN (st:List Int×List Bool×Nat) (x:Int):List Int×List Bool×Nat :=
 if 0≤x∧x<26∧st.2.1[x.toNat]? = some false then (st.1.set x.toNat st.2.2,st.2.1.set x.toNat true,st.2.2+1) else st
def namesSt (l:List Int):List Int×List Bool×Nat:=l.foldl stepN (List.replicate 26 0,List.replicate 26 false,0)
structure NOk (st:List Int×List Bool×Nat) (n:Nat):Prop where
 h:st.1.length=26
 k:st.2.1.length=26
 c:st.2.2≤n
 b:∀x∈st.1,0≤x∧x≤n
theorem stepN_ok {st:List Int×List Bool×Nat} {n:Nat} (h:NOk st n) (x:Int):NOk (stepN st x) (n+1):=by
 unfold stepN
 split
 ·refine ⟨by simp [h.h],by simp [h.k],by have:=h.c;simp;omega,?_⟩
  intro y hy
  rcases List.mem_or_eq_of_mem_set hy with e|e
  ·have:=h.b y e;omega
  ·have:=h.c;omega
 ·exact ⟨h.h,h.k,Nat.le_succ_of_le h.c,fun y hy=>by have:=h.b y hy;omega⟩
theorem foldN_ok:∀(l:List Int) (st:List Int×List Bool×Nat) (n:Nat),NOk st n→NOk (l.foldl stepN st) (n+l.length):=by
 intro l
 induction l with
 | nil=>intro st n h;exact h
 | cons x r ih =>
  intro st n h
  have:=ih _ _ (stepN_ok h x)
  simp only [List.foldl_cons,List.length_cons]
  rw [show n+(r.length+1)=n+1+r.length by omega];exact this
theorem namesSt_ok (l:List Int):NOk (namesSt l) l.length:=by
 have:=foldN_ok l (List.replicate 26 0,List.replicate 26 false,0) 0 ⟨by simp,by simp,by simp,by intro x hx;simp at hx;simp [hx]⟩
 simpa [namesSt] using this
theorem namesSt_snoc (l:List Int) (x:Int):namesSt (l++[x])=stepN (namesSt l) x:=by simp [namesSt,List.foldl_append]
def boolsV (l:List Bool):List Value:=l.map bool
def hpOf (l:List Int) (j:Nat):Int:=((namesSt l).1[j]?).getD 0
theorem placesOfNames_any (g n c:Nat) (nm kd:Nat→Int) (w:World) (h:StsM w g n nm kd) (hn:n≤10000) :
  Calls Tryz.prog 68 #[.slice (some ⟨g,0,none⟩) n c] w fun e w' =>
   e=.returned (.agg (intsI (namesSt ((List.range n).map nm)).1).toArray)∧Nw w w':=by
 have H:Hid (StsM w g n nm kd):=h
 have hgl:=h.lt
 clear h
 go_enter Tryz.func68,Tryz.ntmps68
 go_wp2
 have HR0:Hid (Row (((w.alloc (.cells #[int i64 0,int i64 0,int i64 0,int i64 0,int i64 0,int i64 0,int i64 0,int i64 0,int i64 0,int i64 0,int i64 0,int i64 0,int i64 0,int i64 0,int i64 0,int i64 0,int i64 0,int i64 0,int i64 0,int i64 0,int i64 0,int i64 0,int i64 0,int i64 0,int i64 0,int i64 0] 160)).alloc (.cells #[int i64 0,int i64 0,int i64 0,int i64 0,int i64 0,int i64 0,int i64 0,int i64 0,int i64 0,int i64 0,int i64 0,int i64 0,int i64 0,int i64 0,int i64 0,int i64 0,int i64 0,int i64 0,int i64 0,int i64 0,int i64 0,int i64 0,int i64 0,int i64 0,int i64 0,int i64 0] 160)).alloc (.cells #[bool false,bool false,bool false,bool false,bool false,bool false,bool false,bool false,bool false,bool false,bool false,bool false,bool false,bool false,bool false,bool false,bool false,bool false,bool false,bool false,bool false,bool false,bool false,bool false,bool false,bool false] 192)) w.heap.size 160 (intsI (List.replicate 26 0))):=(Row.new w (intsI (List.replicate 26 0)) 160).alloc _ |>.alloc _
 have HR1:Hid (Row (((w.alloc (.cells #[int i64 0,int i64 0,int i64 0,int i64 0,int i64 0,int i64 0,int i64 0,int i64 0,int i64 0,int i64 0,int i64 0,int i64 0,int i64 0,int i64 0,int i64 0,int i64 0,int i64 0,int i64 0,int i64 0,int i64 0,int i64 0,int i64 0,int i64 0,int i64 0,int i64 0,int i64 0] 160)).alloc (.cells #[int i64 0,int i64 0,int i64 0,int i64 0,int i64 0,int i64 0,int i64 0,int i64 0,int i64 0,int i64 0,int i64 0,int i64 0,int i64 0,int i64 0,int i64 0,int i64 0,int i64 0,int i64 0,int i64 0,int i64 0,int i64 0,int i64 0,int i64 0,int i64 0,int i64 0,int i64 0] 160)).alloc (.cells #[bool false,bool false,bool false,bool false,bool false,bool false,bool false,bool false,bool false,bool false,bool false,bool false,bool false,bool false,bool false,bool false,bool false,bool false,bool false,bool false,bool false,bool false,bool false,bool false,bool false,bool false] 192)) (w.heap.size+1) 160 (intsI (List.replicate 26 0))):=by
  have:=(Row.new (w.alloc (.cells #[int i64 0,int i64 0,int i64 0,int i64 0,int i64 0,int i64 0,int i64 0,int i64 0,int i64 0,int i64 0,int i64 0,int i64 0,int i64 0,int i64 0,int i64 0,int i64 0,int i64 0,int i64 0,int i64 0,int i64 0,int i64 0,int i64 0,int i64 0,int i64 0,int i64 0,int i64 0] 160)) (intsI (List.replicate 26 0)) 160).alloc (.cells #[bool false,bool false,bool false,bool false,bool false,bool false,bool false,bool false,bool false,bool false,bool false,bool false,bool false,bool false,bool false,bool false,bool false,bool false,bool false,bool false,bool false,bool false,bool false,bool false,bool false,bool false] 192)
  rw [show (w.alloc (.cells #[int i64 0,int i64 0,int i64 0,int i64 0,int i64 0,int i64 0,int i64 0,int i64 0,int i64 0,int i64 0,int i64 0,int i64 0,int i64 0,int i64 0,int i64 0,int i64 0,int i64 0,int i64 0,int i64 0,int i64 0,int i64 0,int i64 0,int i64 0,int i64 0,int i64 0,int i64 0] 160)).heap.size=w.heap.size+1 by simp] at this
  exact this
 have HR2:Hid (Row (((w.alloc (.cells #[int i64 0,int i64 0,int i64 0,int i64 0,int i64 0,int i64 0,int i64 0,int i64 0,int i64 0,int i64 0,int i64 0,int i64 0,int i64 0,int i64 0,int i64 0,int i64 0,int i64 0,int i64 0,int i64 0,int i64 0,int i64 0,int i64 0,int i64 0,int i64 0,int i64 0,int i64 0] 160)).alloc (.cells #[int i64 0,int i64 0,int i64 0,int i64 0,int i64 0,int i64 0,int i64 0,int i64 0,int i64 0,int i64 0,int i64 0,int i64 0,int i64 0,int i64 0,int i64 0,int i64 0,int i64 0,int i64 0,int i64 0,int i64 0,int i64 0,int i64 0,int i64 0,int i64 0,int i64 0,int i64 0] 160)).alloc (.cells #[bool false,bool false,bool false,bool false,bool false,bool false,bool false,bool false,bool false,bool false,bool false,bool false,bool false,bool false,bool false,bool false,bool false,bool false,bool false,bool false,bool false,bool false,bool false,bool false,bool false,bool false] 192)) (w.heap.size+1+1) 192 (boolsV (List.replicate 26 false))):=by
  have:=Row.new ((w.alloc (.cells #[int i64 0,int i64 0,int i64 0,int i64 0,int i64 0,int i64 0,int i64 0,int i64 0,int i64 0,int i64 0,int i64 0,int i64 0,int i64 0,int i64 0,int i64 0,int i64 0,int i64 0,int i64 0,int i64 0,int i64 0,int i64 0,int i64 0,int i64 0,int i64 0,int i64 0,int i64 0] 160)).alloc (.cells #[int i64 0,int i64 0,int i64 0,int i64 0,int i64 0,int i64 0,int i64 0,int i64 0,int i64 0,int i64 0,int i64 0,int i64 0,int i64 0,int i64 0,int i64 0,int i64 0,int i64 0,int i64 0,int i64 0,int i64 0,int i64 0,int i64 0,int i64 0,int i64 0,int i64 0,int i64 0] 160)) (boolsV (List.replicate 26 false)) 192
  rw [show ((w.alloc (.cells #[int i64 0,int i64 0,int i64 0,int i64 0,int i64 0,int i64 0,int i64 0,int i64 0,int i64 0,int i64 0,int i64 0,int i64 0,int i64 0,int i64 0,int i64 0,int i64 0,int i64 0,int i64 0,int i64 0,int i64 0,int i64 0,int i64 0,int i64 0,int i64 0,int i64 0,int i64 0] 160)).alloc (.cells #[int i64 0,int i64 0,int i64 0,int i64 0,int i64 0,int i64 0,int i64 0,int i64 0,int i64 0,int i64 0,int i64 0,int i64 0,int i64 0,int i64 0,int i64 0,int i64 0,int i64 0,int i64 0,int i64 0,int i64 0,int i64 0,int i64 0,int i64 0,int i64 0,int i64 0,int i64 0] 160)).heap.size=w.heap.size+1+1 by simp] at this
  exact this
 have HK0:Hid (Nw w (((w.alloc (.cells #[int i64 0,int i64 0,int i64 0,int i64 0,int i64 0,int i64 0,int i64 0,int i64 0,int i64 0,int i64 0,int i64 0,int i64 0,int i64 0,int i64 0,int i64 0,int i64 0,int i64 0,int i64 0,int i64 0,int i64 0,int i64 0,int i64 0,int i64 0,int i64 0,int i64 0,int i64 0] 160)).alloc (.cells #[int i64 0,int i64 0,int i64 0,int i64 0,int i64 0,int i64 0,int i64 0,int i64 0,int i64 0,int i64 0,int i64 0,int i64 0,int i64 0,int i64 0,int i64 0,int i64 0,int i64 0,int i64 0,int i64 0,int i64 0,int i64 0,int i64 0,int i64 0,int i64 0,int i64 0,int i64 0] 160)).alloc (.cells #[bool false,bool false,bool false,bool false,bool false,bool false,bool false,bool false,bool false,bool false,bool false,bool false,bool false,bool false,bool false,bool false,bool false,bool false,bool false,bool false,bool false,bool false,bool false,bool false,bool false,bool false] 192))):=(((Kp.refl _ w).alloc _).alloc _).alloc _
 generalize (((w.alloc (.cells #[int i64 0,int i64 0,int i64 0,int i64 0,int i64 0,int i64 0,int i64 0,int i64 0,int i64 0,int i64 0,int i64 0,int i64 0,int i64 0,int i64 0,int i64 0,int i64 0,int i64 0,int i64 0,int i64 0,int i64 0,int i64 0,int i64 0,int i64 0,int i64 0,int i64 0,int i64 0] 160)).alloc (.cells #[int i64 0,int i64 0,int i64 0,int i64 0,int i64 0,int i64 0,int i64 0,int i64 0,int i64 0,int i64 0,int i64 0,int i64 0,int i64 0,int i64 0,int i64 0,int i64 0,int i64 0,int i64 0,int i64 0,int i64 0,int i64 0,int i64 0,int i64 0,int i64 0,int i64 0,int i64 0] 160)).alloc (.cells #[bool false,bool false,bool false,bool false,bool false,bool false,bool false,bool false,bool false,bool false,bool false,bool false,bool false,bool false,bool false,bool false,bool false,bool false,bool false,bool false,bool false,bool false,bool false,bool false,bool false,bool false] 192))=W0 at *
 have hne1:¬w.heap.size+1=w.heap.size+1+1:=by omega
 have hne2:¬w.heap.size+1+1=w.heap.size+1:=by omega
 go_loopg [5,6] n (fun m v5 v6 wr=>∃(i:Nat),v5=.int .i64 ((namesSt ((List.range i).map nm)).2.2:Nat)∧v6=.int .i64 i∧m=n - i∧i≤n∧Row wr w.heap.size 160 (intsI (List.replicate 26 0))∧Row wr (w.heap.size+1) 160 (intsI (namesSt ((List.range i).map nm)).1)∧Row wr (w.heap.size+1+1) 192 (boolsV (namesSt ((List.range i).map nm)).2.1)∧Nw w wr)
 case atStart=>exact ⟨0,rfl,rfl,rfl,by omega,HR0.out,HR1.out,HR2.out,HK0.out⟩
 case round =>
  obtain ⟨i,rfl,rfl,hm,hi,r0,r1,r2,hk⟩:=hrel
  have HM:Hid (_=n - i):=hm
  have HK:Hid (Nw w wr):=hk
  have R0:Hid (Row wr w.heap.size 160 (intsI (List.replicate 26 0))):=r0
  have R1:Hid (Row wr (w.heap.size+1) 160 (intsI (namesSt ((List.range i).map nm)).1)):=r1
  have R2:Hid (Row wr (w.heap.size+1+1) 192 (boolsV (namesSt ((List.range i).map nm)).2.1)):=r2
  have HNO:Hid (NOk (namesSt ((List.range i).map nm)) i):=by have:=namesSt_ok ((List.range i).map nm);rw [List.length_map,List.length_range] at this;exact this
  clear hm r0 r1 r2
  by_cases hil:i<n
  ·have d:=(H.out.nw hk).m i hil
   have hgl':g<wr.heap.size:=(H.out.nw hk).lt
   clear hk
   have HST:Hid (namesSt ((List.range (i+1)).map nm)=stepN (namesSt ((List.range i).map nm)) (nm i)):=by
    show _=_
    rw [List.range_succ,List.map_append];exact namesSt_snoc _ _
   generalize namesSt ((List.range i).map nm)=st at *
   generalize nm i=x at *
   obtain ⟨hl,kl,cnt⟩:=st
   simp only at R1 R2
   have hcnt:cnt≤i:=HNO.out.c
   have HNO1:Hid (hl.length=26):=HNO.out.h
   have HNO2:Hid (kl.length=26):=HNO.out.k
   by_cases h0:x<0
   ·have HS2:Hid (namesSt ((List.range (i+1)).map nm)=(hl,kl,cnt)):=by show _=_;rw [HST.out];unfold stepN;rw [if_neg (by omega)]
    go_wp2
    go_roundg (n - (i+1))
    case measure=>rw [HM.out];omega
    case rel=>exact ⟨i+1,by rw [HS2.out],by simp,rfl,by omega,R0.out,by rw [HS2.out];exact R1.out,by rw [HS2.out];exact R2.out,HK.out⟩
   ·by_cases h1:x<26
    ·obtain ⟨j,hj⟩:∃j:Nat,x=j:=⟨x.toNat,by omega⟩
     subst hj
     have hj26:j<26:=by omega
     obtain ⟨b,hb⟩:∃b,kl[j]? = some b:=⟨_,List.getElem?_eq_getElem (by rw [HNO2.out];exact hj26)⟩
     obtain ⟨v,hv⟩:∃v,hl[j]? = some v:=⟨_,List.getElem?_eq_getElem (by rw [HNO1.out];exact hj26)⟩
     have cb:wr.cell? ⟨w.heap.size+1+1,j,none⟩=some (.bool b):=by rw [R2.out.cell];simp [boolsV,hb]
     have cv:wr.cell? ⟨w.heap.size+1,j,none⟩=some (.int .i64 v):=by rw [R1.out.cell];simp [intsI,hv]
     have fb:wr.frozen? ⟨w.heap.size+1+1,j,none⟩=false:=R2.out.froz j
     have fv:wr.frozen? ⟨w.heap.size+1,j,none⟩=false:=R1.out.froz j
     cases b with
     | true =>
      have HS2:Hid (namesSt ((List.range (i+1)).map nm)=(hl,kl,cnt)):=by show _=_;rw [HST.out];unfold stepN;rw [if_neg (by simp [hb])]
      clear hb hv
      go_wp2
      go_roundg (n - (i+1))
      case measure=>rw [HM.out];omega
      case rel=>exact ⟨i+1,by rw [HS2.out],by simp,rfl,by omega,R0.out,by rw [HS2.out];exact R1.out,by rw [HS2.out];exact R2.out,HK.out⟩
     | false =>
      have HS2:Hid (namesSt ((List.range (i+1)).map nm)=(hl.set j cnt,kl.set j true,cnt+1)):=by show _=_;rw [HST.out];unfold stepN;rw [if_pos (by simp [hb];omega)];rfl
      clear hb hv
      go_wp2
      go_roundg (n - (i+1))
      case measure=>rw [HM.out];omega
      case rel =>
       have ka:Kp (fun b=>b=w.heap.size+1∨b=w.heap.size+1+1) wr ((wr.setCell ⟨w.heap.size+1+1,j,none⟩ (.bool true)).setCell ⟨w.heap.size+1,j,none⟩ (.int .i64 cnt)):=((Kp.refl _ wr).setCell (p:=⟨w.heap.size+1+1,j,none⟩) (Or.inr (Or.inr rfl)) _).setCell (p:=⟨w.heap.size+1,j,none⟩) (Or.inr (Or.inl rfl)) _
       refine ⟨i+1,by rw [HS2.out];simp,by simp,rfl,by omega,R0.out.kp ka (by omega),?_,?_,HK.out.trans' ka (by intro b hb h;omega)⟩
       ·rw [HS2.out]
        have:=(R1.out.kp ((Kp.refl (fun b=>b=w.heap.size+1+1) wr).setCell (p:=⟨w.heap.size+1+1,j,none⟩) (Or.inr rfl) (.bool true)) hne1).set j (.int .i64 (cnt:Int))
        simpa [intsI,List.map_set] using this
       ·rw [HS2.out]
        have:=(R2.out.set j (.bool true)).kp ((Kp.refl (fun b=>b=w.heap.size+1) _).setCell (p:=⟨w.heap.size+1,j,none⟩) (Or.inr rfl) (.int .i64 (cnt:Int))) hne2
        simpa [boolsV,List.map_set] using this
    ·have HS2:Hid (namesSt ((List.range (i+1)).map nm)=(hl,kl,cnt)):=by show _=_;rw [HST.out];unfold stepN;rw [if_neg (by omega)]
     go_wp2
     go_roundg (n - (i+1))
     case measure=>rw [HM.out];omega
     case rel=>exact ⟨i+1,by rw [HS2.out],by simp,rfl,by omega,R0.out,by rw [HS2.out];exact R1.out,by rw [HS2.out];exact R2.out,HK.out⟩
  ·have hie:i=n:=by omega
   subst hie
   clear hk
   have HNO':=HNO.out
   have R1':=R1.out
   clear HNO R1 R2
   rcases hst:namesSt ((List.range i).map nm) with ⟨hl,kl,cnt⟩
   rw [hst] at HNO' R1'
   have HST:Hid (namesSt ((List.range i).map nm)=(hl,kl,cnt)):=hst
   have R1:Hid (Row wr (w.heap.size+1) 160 (intsI hl)):=R1'
   have HNO1:Hid (hl.length=26):=HNO'.h
   clear hst HNO' R1'
   obtain ⟨dd,hu,hd⟩:=Option.map_eq_some_iff.1 Tryz.rowHo
   have HU:Hid (Tryz.prog.underlying 160=some dd):=hu
   have HD:Hid (dd.isRow=true):=hd
   clear hu hd
   have HSZ:Hid ((intsI hl).length=26):=by have:=HNO1.out;show _=_;simpa [intsI] using this
   have HRG:Hid (wr.rangeAt (w.heap.size+1) 0 (intsI hl)):=by intro j v hv;rw [Nat.zero_add,R1.out.cell];exact hv
   have HLN:Hid ((intsI (List.replicate 26 0)).length=(intsI hl).length):=by show _=_;rw [HSZ.out];simp [intsI]
   have HR0':Hid (Row wr w.heap.size 160 ([]++(intsI (List.replicate 26 0)++[]))):=by show Row _ _ _ _;rw [List.nil_append,List.append_nil];exact R0.out
   have HOC:Hid (∀v∈intsI hl,v.oneCell'=true):=by intro v hv;simp only [intsI,List.mem_map] at hv;obtain ⟨a,_,rfl⟩:=hv;rfl
   go_wp2_with (first|(with_reducible (show Go.wpList _ _ _ (({ dst:=_,op:=Op.load 160 _,type:=_,pos:=_,after:=_,guard:=_ }:Oper)::_) _ _);refine wpList_load_mid rfl 160 _ rfl (w.heap.size+1) 0 rfl (intsI hl) dd HRG.out HU.out HD.out (size_ho HSZ.out) ?_)|(with_reducible (show Go.wpList _ _ _ (({ dst:=_,op:=Op.store 160 _ _,type:=_,pos:=_,after:=_,guard:=_ }:Oper)::_) _ _);refine wpList_store_Row rfl 160 _ _ rfl w.heap.size 0 (intsI hl) rfl rfl 160 [] (intsI (List.replicate 26 0)) [] HR0'.out rfl HLN.out (size_ho HSZ.out) HOC.out ?_;intro w7 hr7 hk7)|fail)
   have HR7:Hid (w7.rangeAt w.heap.size 0 (intsI hl)):=by intro j v hv;rw [Nat.zero_add,hr7.cell,List.nil_append,List.append_nil];exact hv
   have HK7:Hid (Nw w w7):=HK.out.trans' hk7 (by intro b hb h;omega)
   clear hr7 hk7
   go_wp2
   refine bodyPost_ret (v:=.agg (intsI hl).toArray) (results_cX Tryz.results68 _ _ _ ⟨w.heap.size,0,none⟩ rfl _ (run_loadVar_mid _ w.heap.size 0 160 (intsI hl) dd HR7.out HU.out HD.out (size_ho HSZ.out))) rfl ?_
   exact ⟨by rw [HST.out],HK7.out⟩
theorem oneCellsH (x:In):∀u∈insC x,u.oneCell'=true:=by
 intro u hu
 simp only [insC,List.mem_cons,List.not_mem_nil,or_false] at hu
 rcases hu with h|h|h|h|h|h|h|h|h|h|h|h|h|h <;> subst h <;> rfl
end Go.Proofs.YtcboiapggnmpfabGreatDoor
