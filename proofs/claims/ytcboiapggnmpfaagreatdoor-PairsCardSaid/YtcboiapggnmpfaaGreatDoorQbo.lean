import Derived.Test.YtcboiapggnmpfaaGreatDoorQbn
import Derived.Deep.QuietTactic
import Derived.BigQuiet
import Derived.Test.YtcboiapggnmpfaaGreatDoorQbb
import Derived.Test.YtcboiapggnmpfaaGreatDoorQba
import Derived.Test.YtcboiapggnmpfaaGreatDoorQae
import Derived.Deep.DeepCutAuto
namespace Go.Proofs.YtcboiapggnmpfaaGreatDoor
set_option maxRecDepth 100000
set_option maxHeartbeats 4000000
set_option linter.unusedSimpArgs false
set_option linter.unusedVariables false
open Go.RowKit
structure Hds (w:World) (B:Nat) (hv:Value) (hs:List (Value×List In)):Prop where
 row:w.ownsRow B 53 1 hv hs.length (hs.map (·.1))
 each:∀x∈hs,w.ownsRow B 120 14 x.1 x.2.length (codeC x.2)
theorem Hds.kp {S:Nat→Prop} {w w':World} {B:Nat} {hv:Value} {hs:List (Value×List In)} (h:Hds w B hv hs) (k:Kp S w w') (hS:∀b,B≤b→b<w.heap.size→¬S b):Hds w' B hv hs :=
 ⟨owns_kp h.row k (fun b hb=>hS b (h.row.lt b hb).1 (h.row.lt b hb).2),fun x hx=>owns_kp (h.each x hx) k (fun b hb=>hS b ((h.each x hx).lt b hb).1 ((h.each x hx).lt b hb).2)⟩
def startsS:List Nat→List Nat→Nat→List Nat
 | h::hr,f::fr,a=>a::startsS hr fr (a+(h+countS f))
 | _,_,a=>[a]
theorem startsS_len:∀(H F:List Nat) (a:Nat),H.length=F.length→(startsS H F a).length=F.length+1:=by
 intro H
 induction H with
 | nil=>intro F a h;cases F with
  | nil=>rfl
  | cons f r=>simp at h
 | cons x r ih=>intro F a h;cases F with
  | nil=>simp at h
  | cons f fr=>simp only [startsS,List.length_cons];rw [ih fr _ (by simpa using h)]
theorem startsOf_any (first:Nat) (sv fv hv:Value) (F:List Nat) (hs:List (Value×List In)) (w:World) (hf:first<2 ^ 25) (hF:Sets F) (ho:w.ownsRow 0 102 1 fv F.length (intsV F)) (hh:Hds w 0 hv hs) (hn:hs.length=F.length) (hb:F.length≤10000) (hl:∀x∈hs,x.2.length≤1000) :
  Calls Tryz.prog 46 #[.agg #[sv,.int .i64 first,fv],hv] w fun e w' =>
   ∃v,e=.returned v∧w'.ownsRow (w.heap.size+1) 3 1 v (F.length+1) (intsV (startsS (hs.map (fun x=>x.2.length)) F (countS first)))∧Nw w w':=by
 have HCT:Hid (∀s W,s<2 ^ 25→Calls Tryz.prog 75 #[.int .i64 (s:Nat)] W fun e w'=>e=.returned (.int .i64 (countS s:Nat))∧w'=W):=fun s W hs=>countS_any s W hs
 have HCL:Hid (∀s,countS s≤25):=fun s=>cntS_le s 25
 obtain ⟨hp,hc,rfl⟩:=ownsLenX hh.row
 obtain ⟨fp,fc,rfl⟩:=ownsLenX ho
 rw [hn]
 have HO:Hid (w.ownsRow 0 102 1 (.slice fp F.length fc) F.length (intsV F)):=ho
 have HH:Hid (w.ownsRow 0 53 1 (.slice hp F.length hc) F.length (hs.map (·.1))):=by have:=hh.row;rw [hn] at this;exact this
 have HE:Hid (∀x∈hs,w.ownsRow 0 120 14 x.1 x.2.length (codeC x.2)):=hh.each
 have HN:Hid (hs.length=F.length):=hn
 have HF:Hid (Sets F):=hF
 have HL:Hid (∀x∈hs,x.2.length≤1000):=hl
 obtain ⟨i1,hi1,hy0,hy1,hy2⟩:=info_parts Tryz.info3
 clear ho hh hn hF hl
 go_enter Tryz.func46,Tryz.ntmps46
 go_wp2_with fail
 refine (HCT.out first _ hf).mono ?_
 rintro e w1 ⟨rfl,hw1⟩
 have hw2:=hw1.symm
 subst hw2
 clear hw1
 go_wp2
 have HB:Hid ((w.alloc (.cells #[sv,.int .i64 first,.slice fp F.length fc] 105)).cell? ⟨w.heap.size,2,none⟩=some (.slice fp F.length fc)):=by show _=_;simp [go_sem,World.cell?_alloc_at]
 have HW0:Hid (Nw w (w.alloc (.cells #[sv,.int .i64 first,.slice fp F.length fc] 105))):=(Kp.refl _ w).alloc _
 have HS0:Hid ((w.alloc (.cells #[sv,.int .i64 first,.slice fp F.length fc] 105)).heap.size=w.heap.size+1):=by show _=_;simp
 generalize w.alloc (.cells #[sv,.int .i64 first,.slice fp F.length fc] 105)=W0 at *
 have hc0:=HCL.out first
 go_loopg [5,6,7] F.length (fun m v5 v6 v7 wr=>∃(i a:Nat) (S':List Nat),v6=.int .i64 a∧v7=.int .i64 i∧m=F.length - i∧i≤F.length∧a≤25+i*1025∧S'.length=i∧wr.ownsRow (w.heap.size+1) 3 1 v5 i (intsV S')∧S'++startsS ((hs.drop i).map (fun x=>x.2.length)) (F.drop i) a=startsS (hs.map (fun x=>x.2.length)) F (countS first)∧Nw W0 wr)
 case atStart=>exact ⟨0,countS first,[],rfl,rfl,rfl,by omega,by omega,rfl,World.ownsRow_nil _ _ _ _,rfl,Kp.refl _ _⟩
 case round =>
  obtain ⟨i,a,S',rfl,rfl,hm,hi,ha,hSl,hw,he,hk⟩:=hrel
  have HM:Hid (_=F.length - i):=hm
  have HW:Hid (wr.ownsRow (w.heap.size+1) 3 1 u5 i (intsV S')):=hw
  have HK:Hid (Nw W0 wr):=hk
  have HEQ:Hid (S'++startsS ((hs.drop i).map (fun x=>x.2.length)) (F.drop i) a=startsS (hs.map (fun x=>x.2.length)) F (countS first)):=he
  have HSL:Hid (S'.length=i):=hSl
  have hszr:w.heap.size+1≤wr.heap.size:=by have:=hk.size;rw [HS0.out] at this;exact this
  clear hm hw hk he hSl
  obtain ⟨up,uc,hu5⟩:=ownsLenX HW.out
  subst hu5
  have b2:wr.cell? ⟨w.heap.size,2,none⟩=some (.slice fp F.length fc):=(HK.out.cell (p:=⟨w.heap.size,2,none⟩) (by rw [HS0.out];exact Nat.lt_succ_self _) (fun h=>h)).trans HB.out
  by_cases hil:i<F.length
  ·obtain ⟨y,hy⟩:∃y,F[i]? = some y:=⟨_,List.getElem?_eq_getElem hil⟩
   obtain ⟨x,hx⟩:∃x,hs[i]? = some x:=⟨_,List.getElem?_eq_getElem (by rw [HN.out];exact hil)⟩
   have hyb:=HF.out y (List.mem_of_getElem? hy)
   have hxl:=HL.out x (List.mem_of_getElem? hx)
   have hcy:=HCL.out y
   have HEQ2:Hid (S'++[a]++startsS ((hs.drop (i+1)).map (fun x=>x.2.length)) (F.drop (i+1)) (a+(x.2.length+countS y))=startsS (hs.map (fun x=>x.2.length)) F (countS first)):=by
    have e:=HEQ.out
    obtain ⟨h1,h2⟩:=List.getElem?_eq_some_iff.1 hx
    obtain ⟨h3,h4⟩:=List.getElem?_eq_some_iff.1 hy
    rw [List.drop_eq_getElem_cons h1,h2,List.drop_eq_getElem_cons h3,h4] at e
    simp only [List.map_cons,startsS] at e
    show _=_
    rw [List.append_assoc];exact e
   obtain ⟨gf,cf,hvf⟩:=owns_some HO.out (by omega)
   simp only [Value.slice.injEq] at hvf
   obtain ⟨rfl,_,rfl⟩:=hvf
   obtain ⟨gh,ch,hvh⟩:=owns_some HH.out (by omega)
   simp only [Value.slice.injEq] at hvh
   obtain ⟨rfl,_,rfl⟩:=hvh
   obtain ⟨xv,xl⟩:=x
   simp only at hxl hcy HEQ2
   have hxo:=HE.out (xv,xl) (List.mem_of_getElem? hx)
   obtain ⟨xp,xc,hxv⟩:=ownsLenX hxo
   simp only at hxv
   subst hxv
   have HCF:Hid (∀W,Nw w W→W.cell? ⟨gf,i,none⟩=some (.int .i64 y)∧W.cell? ⟨gh,i,none⟩=some (.slice xp xl.length xc)):=by
    intro W hW
    exact ⟨owns_cell (owns_kp HO.out hW (fun _ _ h=>h)) i (intsV_get hy),owns_cell (owns_kp HH.out hW (fun _ _ h=>h)) i (by rw [List.getElem?_map,hx];rfl)⟩
   have hgf:=(HO.out.lt gf rfl).2
   have hgh:=(HH.out.lt gh rfl).2
   clear hy hx hxo
   go_wp2_with (at_builtin;refine wpList_append_lies _ rfl _ _ 22 rfl (w.heap.size+1) 3 i1 (.int .i64 0) 1 8 Tryz.underlying22 hi1 hy0 hy1 hy2 rfl (by decide) _ _ _ rfl (HW.out.alloc _) ⟨wr.heap.size,0,none⟩ 1 1 [.int .i64 (a:Int)] rfl rfl ?c1 ?c2 (by decide) ?c3 ?c4 ?c5 _ rfl ?_)
   case c1=>exact news_one _ (by simp) _ _
   case c2=>exact intsV_one [a]
   case c3=>unfold maxLen;omega
   case c4=>omega
   case c5=>simp;omega
   intro g3 cap3 w3 hown3 hgrow hat hlt3
   have HK3:Hid (Nw W0 w3):=((HK.out.mono (fun _ _ h=>h)).alloc _).grown hgrow (fun b hb=>Or.inl (by rw [HS0.out];exact ((HW.out.lt b hb).1)))
   have HO3:Hid (w3.ownsRow (w.heap.size+1) 3 1 (.slice (some ⟨g3,0,none⟩) (i+1) cap3) (i+1) (intsV (S'++[a]))):=by
    show w3.ownsRow _ _ _ _ _ _
    rw [show intsV (S'++[a])=intsV S'++[.int .i64 (a:Int)] by simp [intsV]]
    exact hown3
   obtain ⟨z1,z2⟩:=HCF.out w3 (HW0.out.trans HK3.out)
   have z3:w3.cell? ⟨w.heap.size,2,none⟩=some (.slice (some ⟨gf,0,none⟩) F.length fc):=(HK3.out.cell (p:=⟨w.heap.size,2,none⟩) (by rw [HS0.out];exact Nat.lt_succ_self _) (fun h=>h)).trans HB.out
   clear hown3 hgrow hat b2
   go_wp2
   go_quiet ((go_at_call 75;exact Calls.quiet_of_same (HCT.out y _ hyb)))
   generalize countS y=cy at *
   go_wp2
   go_roundg (F.length - (i+1))
   case measure=>rw [HM.out];omega
   case rel=>exact ⟨i+1,a+(xl.length+cy),S'++[a],by simp,by simp,rfl,by omega,by omega,by simp [HSL.out],owns_kp HO3.out ((Kp.refl (fun _=>False) w3).drewN _) (fun _ _ h=>h),HEQ2.out,HK3.out.trans ((Kp.refl (fun _=>False) w3).drewN _)⟩
  ·have hie:i=F.length:=by omega
   subst hie
   have hd:decide ((F.length:Nat)<F.length)=false:=by simp
   go_wp2_with (at_builtin;refine wpList_append_lies _ rfl _ _ 22 rfl (w.heap.size+1) 3 i1 (.int .i64 0) 1 8 Tryz.underlying22 hi1 hy0 hy1 hy2 rfl (by decide) _ _ _ rfl (HW.out.alloc _) ⟨wr.heap.size,0,none⟩ 1 1 [.int .i64 (a:Int)] rfl rfl ?c1 ?c2 (by decide) ?c3 ?c4 ?c5 _ rfl ?_)
   case c1=>exact news_one _ (by simp) _ _
   case c2=>exact intsV_one [a]
   case c3=>unfold maxLen;omega
   case c4=>omega
   case c5=>simp;omega
   intro g3 cap3 w3 hown3 hgrow hat hlt3
   go_wp2
   go_ret
   refine ⟨_,rfl,?_,?_⟩
   ·have e:=HEQ.out
    have hdr:hs.drop F.length=[]:=by rw [←HN.out,List.drop_length]
    rw [hdr,List.drop_length] at e
    simp only [List.map_nil,startsS] at e
    rw [←e,show intsV (S'++[a])=intsV S'++[.int .i64 (a:Int)] by simp [intsV]]
    exact hown3
   ·exact HW0.out.trans (((HK.out.mono (fun _ _ h=>h)).alloc _).grown hgrow (fun b hb=>Or.inl (by rw [HS0.out];exact ((HW.out.lt b hb).1))) |>.mono (fun _ _ h=>h))
open Value (int bool)
open IntKind (i64)
def stepN (st:List Int×List Bool×Nat) (x:Int):List Int×List Bool×Nat :=
 if 0≤x∧x<26∧st.2.1[x.toNat]? = some false then (st.1.set x.toNat st.2.2,st.2.1.set x.toNat true,st.2.2+1) else st
def namesSt (l:List Int):List Int×List Bool×Nat:=l.foldl stepN (List.replicate 26 0,List.replicate 26 false,0)
structure NOk (st:List Int×List Bool×Nat) (n:Nat):Prop where
 h:st.1.length=26
 k:st.2.1.length=26
 c:st.2.2≤n
 b:∀x∈st.1,0≤x∧x≤n
theorem stepN_ok {st:List Int×List Bool×Nat} {n:Nat} (h:NOk st n) (x:Int):NOk (stepN st x) (n+1):=by
 unfold stepN
 split
 ·refine ⟨by simp [h.h],by simp [h.k],by have:=h.c;simp;omega,?_⟩
  intro y hy
  rcases List.mem_or_eq_of_mem_set hy with e|e
  ·have:=h.b y e;omega
  ·have:=h.c;omega
 ·exact ⟨h.h,h.k,Nat.le_succ_of_le h.c,fun y hy=>by have:=h.b y hy;omega⟩
theorem foldN_ok:∀(l:List Int) (st:List Int×List Bool×Nat) (n:Nat),NOk st n→NOk (l.foldl stepN st) (n+l.length):=by
 intro l
 induction l with
 | nil=>intro st n h;exact h
 | cons x r ih =>
  intro st n h
  have:=ih _ _ (stepN_ok h x)
  simp only [List.foldl_cons,List.length_cons]
  rw [show n+(r.length+1)=n+1+r.length by omega];exact this
theorem namesSt_ok (l:List Int):NOk (namesSt l) l.length:=by
 have:=foldN_ok l (List.replicate 26 0,List.replicate 26 false,0) 0 ⟨by simp,by simp,by simp,by intro x hx;simp at hx;simp [hx]⟩
 simpa [namesSt] using this
theorem namesSt_snoc (l:List Int) (x:Int):namesSt (l++[x])=stepN (namesSt l) x:=by simp [namesSt,List.foldl_append]
def boolsV (l:List Bool):List Value:=l.map bool
def hpOf (l:List Int) (j:Nat):Int:=((namesSt l).1[j]?).getD 0
theorem placesOfNames_any (g n c:Nat) (nm kd:Nat→Int) (w:World) (h:StsM w g n nm kd) (hn:n≤10000) :
  Calls Tryz.prog 73 #[.slice (some ⟨g,0,none⟩) n c] w fun e w' =>
   e=.returned (.agg (intsI (namesSt ((List.range n).map nm)).1).toArray)∧Nw w w':=by
 have H:Hid (StsM w g n nm kd):=h
 have hgl:=h.lt
 clear h
 go_enter Tryz.func73,Tryz.ntmps73
 go_wp2
 have HR0:Hid (Row (((w.alloc (.cells #[int i64 0,int i64 0,int i64 0,int i64 0,int i64 0,int i64 0,int i64 0,int i64 0,int i64 0,int i64 0,int i64 0,int i64 0,int i64 0,int i64 0,int i64 0,int i64 0,int i64 0,int i64 0,int i64 0,int i64 0,int i64 0,int i64 0,int i64 0,int i64 0,int i64 0,int i64 0] 164)).alloc (.cells #[int i64 0,int i64 0,int i64 0,int i64 0,int i64 0,int i64 0,int i64 0,int i64 0,int i64 0,int i64 0,int i64 0,int i64 0,int i64 0,int i64 0,int i64 0,int i64 0,int i64 0,int i64 0,int i64 0,int i64 0,int i64 0,int i64 0,int i64 0,int i64 0,int i64 0,int i64 0] 164)).alloc (.cells #[bool false,bool false,bool false,bool false,bool false,bool false,bool false,bool false,bool false,bool false,bool false,bool false,bool false,bool false,bool false,bool false,bool false,bool false,bool false,bool false,bool false,bool false,bool false,bool false,bool false,bool false] 197)) w.heap.size 164 (intsI (List.replicate 26 0))):=(Row.new w (intsI (List.replicate 26 0)) 164).alloc _ |>.alloc _
 have HR1:Hid (Row (((w.alloc (.cells #[int i64 0,int i64 0,int i64 0,int i64 0,int i64 0,int i64 0,int i64 0,int i64 0,int i64 0,int i64 0,int i64 0,int i64 0,int i64 0,int i64 0,int i64 0,int i64 0,int i64 0,int i64 0,int i64 0,int i64 0,int i64 0,int i64 0,int i64 0,int i64 0,int i64 0,int i64 0] 164)).alloc (.cells #[int i64 0,int i64 0,int i64 0,int i64 0,int i64 0,int i64 0,int i64 0,int i64 0,int i64 0,int i64 0,int i64 0,int i64 0,int i64 0,int i64 0,int i64 0,int i64 0,int i64 0,int i64 0,int i64 0,int i64 0,int i64 0,int i64 0,int i64 0,int i64 0,int i64 0,int i64 0] 164)).alloc (.cells #[bool false,bool false,bool false,bool false,bool false,bool false,bool false,bool false,bool false,bool false,bool false,bool false,bool false,bool false,bool false,bool false,bool false,bool false,bool false,bool false,bool false,bool false,bool false,bool false,bool false,bool false] 197)) (w.heap.size+1) 164 (intsI (List.replicate 26 0))):=by
  have:=(Row.new (w.alloc (.cells #[int i64 0,int i64 0,int i64 0,int i64 0,int i64 0,int i64 0,int i64 0,int i64 0,int i64 0,int i64 0,int i64 0,int i64 0,int i64 0,int i64 0,int i64 0,int i64 0,int i64 0,int i64 0,int i64 0,int i64 0,int i64 0,int i64 0,int i64 0,int i64 0,int i64 0,int i64 0] 164)) (intsI (List.replicate 26 0)) 164).alloc (.cells #[bool false,bool false,bool false,bool false,bool false,bool false,bool false,bool false,bool false,bool false,bool false,bool false,bool false,bool false,bool false,bool false,bool false,bool false,bool false,bool false,bool false,bool false,bool false,bool false,bool false,bool false] 197)
  rw [show (w.alloc (.cells #[int i64 0,int i64 0,int i64 0,int i64 0,int i64 0,int i64 0,int i64 0,int i64 0,int i64 0,int i64 0,int i64 0,int i64 0,int i64 0,int i64 0,int i64 0,int i64 0,int i64 0,int i64 0,int i64 0,int i64 0,int i64 0,int i64 0,int i64 0,int i64 0,int i64 0,int i64 0] 164)).heap.size=w.heap.size+1 by simp] at this
  exact this
 have HR2:Hid (Row (((w.alloc (.cells #[int i64 0,int i64 0,int i64 0,int i64 0,int i64 0,int i64 0,int i64 0,int i64 0,int i64 0,int i64 0,int i64 0,int i64 0,int i64 0,int i64 0,int i64 0,int i64 0,int i64 0,int i64 0,int i64 0,int i64 0,int i64 0,int i64 0,int i64 0,int i64 0,int i64 0,int i64 0] 164)).alloc (.cells #[int i64 0,int i64 0,int i64 0,int i64 0,int i64 0,int i64 0,int i64 0,int i64 0,int i64 0,int i64 0,int i64 0,int i64 0,int i64 0,int i64 0,int i64 0,int i64 0,int i64 0,int i64 0,int i64 0,int i64 0,int i64 0,int i64 0,int i64 0,int i64 0,int i64 0,int i64 0] 164)).alloc (.cells #[bool false,bool false,bool false,bool false,bool false,bool false,bool false,bool false,bool false,bool false,bool false,bool false,bool false,bool false,bool false,bool false,bool false,bool false,bool false,bool false,bool false,bool false,bool false,bool false,bool false,bool false] 197)) (w.heap.size+1+1) 197 (boolsV (List.replicate 26 false))):=by
  have:=Row.new ((w.alloc (.cells #[int i64 0,int i64 0,int i64 0,int i64 0,int i64 0,int i64 0,int i64 0,int i64 0,int i64 0,int i64 0,int i64 0,int i64 0,int i64 0,int i64 0,int i64 0,int i64 0,int i64 0,int i64 0,int i64 0,int i64 0,int i64 0,int i64 0,int i64 0,int i64 0,int i64 0,int i64 0] 164)).alloc (.cells #[int i64 0,int i64 0,int i64 0,int i64 0,int i64 0,int i64 0,int i64 0,int i64 0,int i64 0,int i64 0,int i64 0,int i64 0,int i64 0,int i64 0,int i64 0,int i64 0,int i64 0,int i64 0,int i64 0,int i64 0,int i64 0,int i64 0,int i64 0,int i64 0,int i64 0,int i64 0] 164)) (boolsV (List.replicate 26 false)) 197
  rw [show ((w.alloc (.cells #[int i64 0,int i64 0,int i64 0,int i64 0,int i64 0,int i64 0,int i64 0,int i64 0,int i64 0,int i64 0,int i64 0,int i64 0,int i64 0,int i64 0,int i64 0,int i64 0,int i64 0,int i64 0,int i64 0,int i64 0,int i64 0,int i64 0,int i64 0,int i64 0,int i64 0,int i64 0] 164)).alloc (.cells #[int i64 0,int i64 0,int i64 0,int i64 0,int i64 0,int i64 0,int i64 0,int i64 0,int i64 0,int i64 0,int i64 0,int i64 0,int i64 0,int i64 0,int i64 0,int i64 0,int i64 0,int i64 0,int i64 0,int i64 0,int i64 0,int i64 0,int i64 0,int i64 0,int i64 0,int i64 0] 164)).heap.size=w.heap.size+1+1 by simp] at this
  exact this
 have HK0:Hid (Nw w (((w.alloc (.cells #[int i64 0,int i64 0,int i64 0,int i64 0,int i64 0,int i64 0,int i64 0,int i64 0,int i64 0,int i64 0,int i64 0,int i64 0,int i64 0,int i64 0,int i64 0,int i64 0,int i64 0,int i64 0,int i64 0,int i64 0,int i64 0,int i64 0,int i64 0,int i64 0,int i64 0,int i64 0] 164)).alloc (.cells #[int i64 0,int i64 0,int i64 0,int i64 0,int i64 0,int i64 0,int i64 0,int i64 0,int i64 0,int i64 0,int i64 0,int i64 0,int i64 0,int i64 0,int i64 0,int i64 0,int i64 0,int i64 0,int i64 0,int i64 0,int i64 0,int i64 0,int i64 0,int i64 0,int i64 0,int i64 0] 164)).alloc (.cells #[bool false,bool false,bool false,bool false,bool false,bool false,bool false,bool false,bool false,bool false,bool false,bool false,bool false,bool false,bool false,bool false,bool false,bool false,bool false,bool false,bool false,bool false,bool false,bool false,bool false,bool false] 197))):=(((Kp.refl _ w).alloc _).alloc _).alloc _
 generalize (((w.alloc (.cells #[int i64 0,int i64 0,int i64 0,int i64 0,int i64 0,int i64 0,int i64 0,int i64 0,int i64 0,int i64 0,int i64 0,int i64 0,int i64 0,int i64 0,int i64 0,int i64 0,int i64 0,int i64 0,int i64 0,int i64 0,int i64 0,int i64 0,int i64 0,int i64 0,int i64 0,int i64 0] 164)).alloc (.cells #[int i64 0,int i64 0,int i64 0,int i64 0,int i64 0,int i64 0,int i64 0,int i64 0,int i64 0,int i64 0,int i64 0,int i64 0,int i64 0,int i64 0,int i64 0,int i64 0,int i64 0,int i64 0,int i64 0,int i64 0,int i64 0,int i64 0,int i64 0,int i64 0,int i64 0,int i64 0] 164)).alloc (.cells #[bool false,bool false,bool false,bool false,bool false,bool false,bool false,bool false,bool false,bool false,bool false,bool false,bool false,bool false,bool false,bool false,bool false,bool false,bool false,bool false,bool false,bool false,bool false,bool false,bool false,bool false] 197))=W0 at *
 have hne1:¬w.heap.size+1=w.heap.size+1+1:=by omega
 have hne2:¬w.heap.size+1+1=w.heap.size+1:=by omega
 go_loopg [5,6] n (fun m v5 v6 wr=>∃(i:Nat),v5=.int .i64 ((namesSt ((List.range i).map nm)).2.2:Nat)∧v6=.int .i64 i∧m=n - i∧i≤n∧Row wr w.heap.size 164 (intsI (List.replicate 26 0))∧Row wr (w.heap.size+1) 164 (intsI (namesSt ((List.range i).map nm)).1)∧Row wr (w.heap.size+1+1) 197 (boolsV (namesSt ((List.range i).map nm)).2.1)∧Nw w wr)
 case atStart=>exact ⟨0,rfl,rfl,rfl,by omega,HR0.out,HR1.out,HR2.out,HK0.out⟩
 case round =>
  obtain ⟨i,rfl,rfl,hm,hi,r0,r1,r2,hk⟩:=hrel
  have HM:Hid (_=n - i):=hm
  have HK:Hid (Nw w wr):=hk
  have R0:Hid (Row wr w.heap.size 164 (intsI (List.replicate 26 0))):=r0
  have R1:Hid (Row wr (w.heap.size+1) 164 (intsI (namesSt ((List.range i).map nm)).1)):=r1
  have R2:Hid (Row wr (w.heap.size+1+1) 197 (boolsV (namesSt ((List.range i).map nm)).2.1)):=r2
  have HNO:Hid (NOk (namesSt ((List.range i).map nm)) i):=by have:=namesSt_ok ((List.range i).map nm);rw [List.length_map,List.length_range] at this;exact this
  clear hm r0 r1 r2
  by_cases hil:i<n
  ·have d:=(H.out.nw hk).m i hil
   have hgl':g<wr.heap.size:=(H.out.nw hk).lt
   clear hk
   have HST:Hid (namesSt ((List.range (i+1)).map nm)=stepN (namesSt ((List.range i).map nm)) (nm i)):=by
    show _=_
    rw [List.range_succ,List.map_append];exact namesSt_snoc _ _
   generalize namesSt ((List.range i).map nm)=st at *
   generalize nm i=x at *
   obtain ⟨hl,kl,cnt⟩:=st
   simp only at R1 R2
   have hcnt:cnt≤i:=HNO.out.c
   have HNO1:Hid (hl.length=26):=HNO.out.h
   have HNO2:Hid (kl.length=26):=HNO.out.k
   by_cases h0:x<0
   ·have HS2:Hid (namesSt ((List.range (i+1)).map nm)=(hl,kl,cnt)):=by show _=_;rw [HST.out];unfold stepN;rw [if_neg (by omega)]
    go_wp2
    go_roundg (n - (i+1))
    case measure=>rw [HM.out];omega
    case rel=>exact ⟨i+1,by rw [HS2.out],by simp,rfl,by omega,R0.out,by rw [HS2.out];exact R1.out,by rw [HS2.out];exact R2.out,HK.out⟩
   ·by_cases h1:x<26
    ·obtain ⟨j,hj⟩:∃j:Nat,x=j:=⟨x.toNat,by omega⟩
     subst hj
     have hj26:j<26:=by omega
     obtain ⟨b,hb⟩:∃b,kl[j]? = some b:=⟨_,List.getElem?_eq_getElem (by rw [HNO2.out];exact hj26)⟩
     obtain ⟨v,hv⟩:∃v,hl[j]? = some v:=⟨_,List.getElem?_eq_getElem (by rw [HNO1.out];exact hj26)⟩
     have cb:wr.cell? ⟨w.heap.size+1+1,j,none⟩=some (.bool b):=by rw [R2.out.cell];simp [boolsV,hb]
     have cv:wr.cell? ⟨w.heap.size+1,j,none⟩=some (.int .i64 v):=by rw [R1.out.cell];simp [intsI,hv]
     have fb:wr.frozen? ⟨w.heap.size+1+1,j,none⟩=false:=R2.out.froz j
     have fv:wr.frozen? ⟨w.heap.size+1,j,none⟩=false:=R1.out.froz j
     cases b with
     | true =>
      have HS2:Hid (namesSt ((List.range (i+1)).map nm)=(hl,kl,cnt)):=by show _=_;rw [HST.out];unfold stepN;rw [if_neg (by simp [hb])]
      clear hb hv
      go_wp2
      go_roundg (n - (i+1))
      case measure=>rw [HM.out];omega
      case rel=>exact ⟨i+1,by rw [HS2.out],by simp,rfl,by omega,R0.out,by rw [HS2.out];exact R1.out,by rw [HS2.out];exact R2.out,HK.out⟩
     | false =>
      have HS2:Hid (namesSt ((List.range (i+1)).map nm)=(hl.set j cnt,kl.set j true,cnt+1)):=by show _=_;rw [HST.out];unfold stepN;rw [if_pos (by simp [hb];omega)];rfl
      clear hb hv
      go_wp2
      go_roundg (n - (i+1))
      case measure=>rw [HM.out];omega
      case rel =>
       have ka:Kp (fun b=>b=w.heap.size+1∨b=w.heap.size+1+1) wr ((wr.setCell ⟨w.heap.size+1+1,j,none⟩ (.bool true)).setCell ⟨w.heap.size+1,j,none⟩ (.int .i64 cnt)):=((Kp.refl _ wr).setCell (p:=⟨w.heap.size+1+1,j,none⟩) (Or.inr (Or.inr rfl)) _).setCell (p:=⟨w.heap.size+1,j,none⟩) (Or.inr (Or.inl rfl)) _
       refine ⟨i+1,by rw [HS2.out];simp,by simp,rfl,by omega,R0.out.kp ka (by omega),?_,?_,HK.out.trans' ka (by intro b hb h;omega)⟩
       ·rw [HS2.out]
        have:=(R1.out.kp ((Kp.refl (fun b=>b=w.heap.size+1+1) wr).setCell (p:=⟨w.heap.size+1+1,j,none⟩) (Or.inr rfl) (.bool true)) hne1).set j (.int .i64 (cnt:Int))
        simpa [intsI,List.map_set] using this
       ·rw [HS2.out]
        have:=(R2.out.set j (.bool true)).kp ((Kp.refl (fun b=>b=w.heap.size+1) _).setCell (p:=⟨w.heap.size+1,j,none⟩) (Or.inr rfl) (.int .i64 (cnt:Int))) hne2
        simpa [boolsV,List.map_set] using this
    ·have HS2:Hid (namesSt ((List.range (i+1)).map nm)=(hl,kl,cnt)):=by show _=_;rw [HST.out];unfold stepN;rw [if_neg (by omega)]
     go_wp2
     go_roundg (n - (i+1))
     case measure=>rw [HM.out];omega
     case rel=>exact ⟨i+1,by rw [HS2.out],by simp,rfl,by omega,R0.out,by rw [HS2.out];exact R1.out,by rw [HS2.out];exact R2.out,HK.out⟩
  ·have hie:i=n:=by omega
   subst hie
   clear hk
   have HNO':=HNO.out
   have R1':=R1.out
   clear HNO R1 R2
   rcases hst:namesSt ((List.range i).map nm) with ⟨hl,kl,cnt⟩
   rw [hst] at HNO' R1'
   have HST:Hid (namesSt ((List.range i).map nm)=(hl,kl,cnt)):=hst
   have R1:Hid (Row wr (w.heap.size+1) 164 (intsI hl)):=R1'
   have HNO1:Hid (hl.length=26):=HNO'.h
   clear hst HNO' R1'
   obtain ⟨dd,hu,hd⟩:=Option.map_eq_some_iff.1 Tryz.rowHo
   have HU:Hid (Tryz.prog.underlying 164=some dd):=hu
   have HD:Hid (dd.isRow=true):=hd
   clear hu hd
   have HSZ:Hid ((intsI hl).length=26):=by have:=HNO1.out;show _=_;simpa [intsI] using this
   have HRG:Hid (wr.rangeAt (w.heap.size+1) 0 (intsI hl)):=by intro j v hv;rw [Nat.zero_add,R1.out.cell];exact hv
   have HLN:Hid ((intsI (List.replicate 26 0)).length=(intsI hl).length):=by show _=_;rw [HSZ.out];simp [intsI]
   have HR0':Hid (Row wr w.heap.size 164 ([]++(intsI (List.replicate 26 0)++[]))):=by show Row _ _ _ _;rw [List.nil_append,List.append_nil];exact R0.out
   have HOC:Hid (∀v∈intsI hl,v.oneCell'=true):=by intro v hv;simp only [intsI,List.mem_map] at hv;obtain ⟨a,_,rfl⟩:=hv;rfl
   go_wp2_with (first|(with_reducible (show Go.wpList _ _ _ (({ dst:=_,op:=Op.load 164 _,type:=_,pos:=_,after:=_,guard:=_ }:Oper)::_) _ _);refine wpList_load_mid rfl 164 _ rfl (w.heap.size+1) 0 rfl (intsI hl) dd HRG.out HU.out HD.out (size_ho HSZ.out) ?_)|(with_reducible (show Go.wpList _ _ _ (({ dst:=_,op:=Op.store 164 _ _,type:=_,pos:=_,after:=_,guard:=_ }:Oper)::_) _ _);refine wpList_store_Row rfl 164 _ _ rfl w.heap.size 0 (intsI hl) rfl rfl 164 [] (intsI (List.replicate 26 0)) [] HR0'.out rfl HLN.out (size_ho HSZ.out) HOC.out ?_;intro w7 hr7 hk7)|fail)
   have HR7:Hid (w7.rangeAt w.heap.size 0 (intsI hl)):=by intro j v hv;rw [Nat.zero_add,hr7.cell,List.nil_append,List.append_nil];exact hv
   have HK7:Hid (Nw w w7):=HK.out.trans' hk7 (by intro b hb h;omega)
   clear hr7 hk7
   go_wp2
   refine bodyPost_ret (v:=.agg (intsI hl).toArray) (results_cX Tryz.results73 _ _ _ ⟨w.heap.size,0,none⟩ rfl _ (run_loadVar_mid _ w.heap.size 0 164 (intsI hl) dd HR7.out HU.out HD.out (size_ho HSZ.out))) rfl ?_
   exact ⟨by rw [HST.out],HK7.out⟩
theorem oneCellsH (x:In):∀u∈insC x,u.oneCell'=true:=by
 intro u hu
 simp only [insC,List.mem_cons,List.not_mem_nil,or_false] at hu
 rcases hu with h|h|h|h|h|h|h|h|h|h|h|h|h|h <;> subst h <;> rfl
end Go.Proofs.YtcboiapggnmpfaaGreatDoor
