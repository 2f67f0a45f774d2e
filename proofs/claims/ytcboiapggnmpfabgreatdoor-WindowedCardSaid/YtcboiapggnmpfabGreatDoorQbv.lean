import Derived.Test.YtcboiapggnmpfabGreatDoorQbu
import Derived.Test.YtcboiapggnmpfabGreatDoorQbn
import Derived.Test.YtcboiapggnmpfabGreatDoorQam
import Derived.Test.YtcboiapggnmpfabGreatDoorQal
import Derived.Deep.MidRow
import Derived.Deep.LoopGhost
import Derived.Test.YtcboiapggnmpfabGreatDoorQae
import Derived.Test.YtcboiapggnmpfabGreatDoorQad
import Derived.Test.YtcboiapggnmpfabGreatDoorQbc
import Derived.Deep.QuietTactic
namespace Go.Proofs.YtcboiapggnmpfabGreatDoor
set_option maxRecDepth 100000
set_option maxHeartbeats 4000000
set_option linter.unusedSimpArgs false
set_option linter.unusedVariables false
open Go.RowKit
def rkF (l:List In):Nat→Nat→Nat
 | 0,_=>0
 | m+1,i =>
  match l[i]? with
  | none=>0
  | some x=>if x.op=0 then 0 else ((nxt x i).map (rkF l m)).foldl max 0+1
def rkB (l:List In) (n:Nat):Bool :=
 (List.range l.length).all fun i =>
  match l[i]? with
  | none=>true
  | some x=>decide (x.op=0)||(nxt x i).all fun j=>decide (rkF l n j<rkF l n i)
theorem no_round {l:List In} {n:Nat} (h:rkB l n=true) (j:Nat) (hj:j<l.length):¬Rch l false j j:=by
 intro hr
 have he:∀i k,Edge l false i k→rkF l n k<rkF l n i:=by
  rintro i k ⟨x,hx,h0,hk⟩
  have hi:=(List.getElem?_eq_some_iff.1 hx).1
  have:=(List.all_eq_true.1 h) i (List.mem_range.2 hi)
  rw [hx] at this
  simp only [Bool.or_eq_true,decide_eq_true_eq,List.all_eq_true] at this
  rcases this with e|e
  ·have:=h0 e;simp at this
  ·exact e k hk
 have:=hr.closed (S:=fun x=>rkF l n x<rkF l n j) (fun k hk=>he j k hk) (fun x k hx hk=>Nat.lt_trans (he x k hk) hx)
 exact Nat.lt_irrefl _ this
def validB (l:List In) (n:Nat):Bool:=decide (l.length≤1000)&&decide (0<l.length)&&decide (firstNone l=l.length)&&rkB l n
theorem validB_is {l:List In} {n:Nat} (h:validB l n=true):ValidIs l 0 0:=by
 unfold validB at h
 simp only [Bool.and_eq_true,decide_eq_true_eq] at h
 obtain ⟨⟨⟨h1,h2⟩,h3⟩,h4⟩:=h
 refine Or.inr (Or.inr (Or.inr ⟨h1,?_,h3,rnd_none (fun j hj=>no_round h4 j hj),rfl,rfl⟩))
 intro e;rw [e] at h2;simp at h2
instance (x:Tm):Decidable (TmOk x):=by unfold TmOk In64;infer_instance
def inOkB (l:List In):Bool:=l.all fun x=>decide (TmOk x.test.left)&&decide (TmOk x.test.right)&&decide (TmOk x.test.more)
theorem inOkB_is {l:List In} (h:inOkB l=true):∀x∈l,InOk x:=by
 intro x hx
 have:=(List.all_eq_true.1 h) x hx
 simp only [Bool.and_eq_true,decide_eq_true_eq] at this
 exact ⟨this.1.1,this.1.2,this.2⟩
instance (l:List Int):DecidablePred (hkP l):=fun a=>by unfold hkP;infer_instance
instance (l:List Int) (a b:Int):Decidable (hfP l a b):=by unfold hfP;infer_instance
instance (l:List Int) (R:Rules) (T:Tri) (k:Nat):Decidable (rightS R (hkP l) (hfP l) T k):=by unfold rightS;infer_instance
instance (t:Nt) (sts:List St):Decidable (LargeP t sts):=by unfold LargeP;infer_instance
def allRightB (l:List Int) (sts:List St) (T:Tri):Bool:=(List.range sts.length).all fun j=>decide (rightS (rulesOf sts) (hkP l) (hfP l) T j)
theorem codeOf_fst {T:Nt} {L L':List (St×Value)} (h:L.map Prod.fst=L'.map Prod.fst) (hw:Bool) (win:Int):codeOf T L hw win=codeOf T L' hw win:=by
 have hlen:L.length=L'.length:=by have:=congrArg List.length h;simpa using this
 have hg:∀k,(L[k]?).map Prod.fst=(L'[k]?).map Prod.fst:=fun k=>by rw [←List.getElem?_map,←List.getElem?_map,h]
 have hn:nmL L=nmL L':=by
  funext k
  have:=hg k
  unfold nmL
  cases h1:L[k]? <;> cases h2:L'[k]? <;> rw [h1,h2] at this <;> simp at this ⊢
  rw [this]
 have hh:∀hp s,headOfP hp hw win L s=headOfP hp hw win L' s:=by
  intro hp s
  have:=hg s
  unfold headOfP
  cases h1:L[s]? <;> cases h2:L'[s]? <;> rw [h1,h2] at this <;> simp at this ⊢
  rw [this]
 unfold codeOf
 rw [hlen,hn]
 congr 1
 exact List.map_congr_left (fun s _=>hh _ s)
def progL (l:List Int) (sts:List St) (T:Tri) (N:Nt) (win:Option Int):Option (List In) :=
 if allRightB l sts T=true∧¬LargeP N sts then some (codeOf N (N.steps.map fun y=>(y,.bool false)) win.isSome (win.getD 0)) else none
noncomputable def progB (sc s:ByteArray):Option (List In) :=
 if s.size≤120∧schemaB (bI sc)=true then
  (pTopOf (pAtom 8) (toks 0 (bI s))).1.bind fun p=>progL (bI sc) (altS (atomS 8) p.1.1 p.1.2) (altT (atomT 8) p.1.1 p.1.2) (altTr (atomTr 8) p.1) p.2
 else none
theorem progB_is {sc s:ByteArray} {l:List In} {n:Nat} (h:progB sc s=some l) (hv:validB l n=true) (hi:inOkB l=true):ProgIs sc s l:=by
 unfold progB at h
 split at h
 ·rename_i h1
  obtain ⟨p,hp1,hp2⟩:=Option.bind_eq_some_iff.1 h
  have hp:pTopOf (pAtom 8) (toks 0 (bI s))=(some (p.1,p.2),(pTopOf (pAtom 8) (toks 0 (bI s))).2):=by
   rw [←hp1]
  unfold progL at hp2
  split at hp2
  ·rename_i h2
   simp only [Option.some.injEq] at hp2
   have hT:ProgT (bI sc) p.1 0 0:=by
    refine Or.inr (Or.inr ⟨?_,h2.2,rfl,rfl⟩)
    intro j hj
    have:=(List.all_eq_true.1 h2.1) j (List.mem_range.2 hj)
    simpa using this
   have hC:ProgC sc s 0 0:=Or.inr (Or.inr (Or.inr ⟨h1.1,h1.2,p.1,p.2,_,hp,hT⟩))
   refine ⟨fun f q hf=>(hf.uniq hC).1,h1.2,?_,validB_is hv,inOkB_is hi⟩
   intro t' win' L x' hp' hk
   rw [hp] at hp'
   have e1:p.1=t':=by have:=congrArg (fun z=>z.1) hp';simp only [Option.some.injEq,Prod.mk.injEq] at this;exact this.1
   have e2:p.2=win':=by have:=congrArg (fun z=>z.1) hp';simp only [Option.some.injEq,Prod.mk.injEq] at this;exact this.2
   subst e1;subst e2
   rw [←hp2]
   refine codeOf_fst ?_ _ _
   rw [hk.steps,List.map_map]
   simp [Function.comp_def]
  ·cases hp2
 ·cases h
def cloF (code:List In):Nat→List (Nat×Nat)→List (Nat×Nat)→List (Nat×Nat)
 | 0,_,acc=>acc
 | m+1,[],acc=>acc
 | m+1,p::todo,acc=>if acc.contains p=true then cloF code m todo acc else match code[p.1]? with
  | none=>cloF code m todo (p::acc)
  | some x=>cloF code m (nxA x p.1 p.2++todo) (p::acc)
def shutB (code:List In) (R:List (Nat×Nat)):Bool:=R.all fun p=>match code[p.1]? with
 | none=>true
 | some x=>(nxA x p.1 p.2).all (fun q=>R.contains q)&&(decide (¬x.op=4)||decide (0≤x.a))&&(decide (¬x.op=5)||(decide (0≤x.a)&&decide (0≤x.b)))
theorem shutB_is {code:List In} {R:List (Nat×Nat)} (h:shutB code R=true):ShutA code R:=by
 intro p hp x hx
 have:=(List.all_eq_true.1 h) p hp
 rw [hx] at this
 simp only [Bool.and_eq_true,Bool.or_eq_true,decide_eq_true_eq,List.all_eq_true,List.contains_iff_mem] at this
 obtain ⟨⟨h1,h2⟩,h3⟩:=this
 refine ⟨h1,fun o => ?_,fun o => ?_⟩
 ·rcases h2 with h|h
  ·exact absurd o h
  ·exact h
 ·rcases h3 with h|h
  ·exact absurd o h
  ·exact h
def tabT (tl:List (List (Nat×Nat))) (p:Nat):List (Nat×Nat):=tl.getD p []
def tabL (code:List In):List (List (Nat×Nat)):=(List.range code.length).map fun p=>if isTk code p=true then cloF code 400 [(p+1,0)] [] else []
def tabB (code:List In) (tl:List (List (Nat×Nat))):Bool:=(List.range code.length).all fun p => !isTk code p||((tabT tl p).contains (p+1,0)&&shutB code (tabT tl p))
theorem tabB_is {code:List In} {tl:List (List (Nat×Nat))} (h:tabB code tl=true):TabOk code (tabT tl):=by
 refine ⟨fun p hp => ?_⟩
 have hl:=tks_mem.2 hp
 unfold tksL at hl
 rw [List.mem_filter,List.mem_range] at hl
 have:=(List.all_eq_true.1 h) p (List.mem_range.2 hl.1)
 simp only [hp,Bool.not_true,Bool.false_or,Bool.and_eq_true,List.contains_iff_mem] at this
 exact ⟨this.1,shutB_is this.2⟩
def freeB (code:List In) (bs:List Nat) (n:Nat):Bool:=bs.all (isTk code)&&tabB code (tabL code)&&limB code (tabT (tabL code)) bs 200 200 n []
theorem free_of {sc:List Int} {code:List In} {n:Nat} (h:freeB code (beginsS code) n=true) {L:List Evt} (hL:L.length≤n) (hg:GoesE sc 0 L) {i:Nat} {e:Evt} (hi:L[i]? = some e) :
  (feedS sc code (beginsS code) 200 200 (runS sc code (beginsS code) 200 200 ⟨[],0,0,false⟩ (L.take i)) e).2.2=0∧(runS sc code (beginsS code) 200 200 ⟨[],0,0,false⟩ (L.take i)).count=i:=by
 unfold freeB at h
 simp only [Bool.and_eq_true] at h
 have:=free_all (sc:=sc) (tabB_is h.1.2) (fun b hb=>(List.all_eq_true.1 h.1.1) b hb) (live:=200) (found:=200) n [] L ⟨[],0,0,false⟩ hL h.2 ⟨fun u hu=>by simp at hu,fun q=>by simp⟩ rfl hg i e hi
 exact ⟨this.1,by simpa using this.2⟩
def ncode10:List In:=[⟨4,1,0,tst0⟩,⟨0,4,0,tst0⟩,⟨4,3,0,tst0⟩,⟨6,0,0,tst0⟩]
theorem nprog10:ProgIs ⟨#[49,49,49]⟩ ⟨#[46]⟩ ncode10:=progB_is (n:=30) (by kernel_rfl) (by kernel_rfl) (by kernel_rfl)
def pickK (c n:Int):Int:=(if c<0 then -(c+1) else c) % n
theorem pickK_lt {c n:Int} (hn:0<n):0≤pickK c n∧pickK c n<n:=⟨Int.emod_nonneg _ (by omega),Int.emod_lt_of_pos _ hn⟩
theorem pickK_any (c n:Int) (w:World) (hc:In64 c) (hn:0<n) (hn2:n≤1000) :
  Calls Tryz.prog 5 #[.int .i64 c,.int .i64 n] w fun e w'=>e=.returned (.int .i64 (pickK c n))∧w'=w:=by
 obtain ⟨h1,h2⟩:=hc
 by_cases hneg:c<0
 ·have e1:(-(c+1)).tmod n=pickK c n:=by unfold pickK;rw [if_pos hneg,Int.tmod_eq_emod_of_nonneg (by omega)]
  have hn0:¬n=0:=by omega
  generalize pickK c n=p at *
  go_enter Tryz.func5,Tryz.ntmps5
  go_wp2
  go_ret
  exact ⟨by first|rfl|(rw [←e1];rfl),rfl⟩
 ·have e1:c.tmod n=pickK c n:=by unfold pickK;rw [if_neg hneg,Int.tmod_eq_emod_of_nonneg (by omega)]
  have hn0:¬n=0:=by omega
  generalize pickK c n=p at *
  go_enter Tryz.func5,Tryz.ntmps5
  go_wp2
  go_ret
  exact ⟨by first|rfl|(rw [←e1];rfl),rfl⟩
def evC5 (e:Evt):List Value:=[.int .i64 e.at',.int .i64 e.kind,.int .i64 e.x,.int .i64 e.y,.int .i64 e.z]
def evsR (l:List Evt):List Value:=(l.map evC5).flatten
theorem evsR_one (l:List Evt) (e:Evt):evsR (l++[e])=evsR l++evC5 e:=by simp [evsR]
theorem evC5_one (e:Evt):∀u∈evC5 e,u.oneCell'=true:=by
 intro u hu
 simp only [evC5,List.mem_cons,List.not_mem_nil,or_false] at hu
 rcases hu with h|h|h|h|h <;> subst h <;> rfl
theorem Tryz.infoEv2:(Tryz.prog.info? 36).map (fun i=>(i.zero,i.size,i.bytes))=some (some (.agg #[.int .i64 0,.int .i64 0,.int .i64 0,.int .i64 0,.int .i64 0]),5,40):=by kernel_rfl
theorem Tryz.unEvs:Tryz.prog.underlying 23=some (.slice 36):=by kernel_rfl
def evAt (now n:Int):Evt:=⟨now+pickK (n.tdiv 3) 5,pickK n 3,if 1125899906842624<n∨n < -1125899906842624 then n else pickK (n.tdiv 15) 10,0,0⟩
def strTo (ns:List Int):Nat→List Evt×Int
 | 0=>([],0)
 | i+1=>match ns[i]? with
  | none=>strTo ns i
  | some n=>((strTo ns i).1++[evAt (strTo ns i).2 n],(strTo ns i).2+pickK (n.tdiv 3) 5)
theorem strTo_succ {ns:List Int} {i:Nat} {n:Int} (h:ns[i]? = some n):strTo ns (i+1)=((strTo ns i).1++[evAt (strTo ns i).2 n],(strTo ns i).2+pickK (n.tdiv 3) 5):=by
 simp [strTo,h]
theorem strTo_len (ns:List Int):∀i,i≤ns.length→(strTo ns i).1.length=i:=by
 intro i
 induction i with
 | zero=>intro _;rfl
 | succ i ih =>
  intro hi
  rw [strTo_succ (n:=ns[i]'(by omega)) (by simp)]
  simp [ih (by omega)]
theorem strTo_now (ns:List Int):∀i,0≤(strTo ns i).2∧(strTo ns i).2≤4*i:=by
 intro i
 induction i with
 | zero=>simp [strTo]
 | succ i ih =>
  unfold strTo
  split
  ·omega
  ·rename_i n _
   have:=pickK_lt (c:=n.tdiv 3) (n:=5) (by omega)
   simp only
   omega
theorem tdiv_in {n:Int} (h:In64 n) {k:Int} (hk:0<k):In64 (n.tdiv k):=by
 obtain ⟨h1,h2⟩:=h
 have h3:n.tdiv k≤n.natAbs ∧ -(n.natAbs:Int)≤n.tdiv k:=by
  have:=Int.natAbs_tdiv_le_natAbs n k
  omega
 by_cases hn:0≤n
 ·have:=Int.tdiv_nonneg hn (Int.le_of_lt hk)
  unfold In64
  omega
 ·have:=Int.tdiv_nonneg (a := -n) (b:=k) (by omega) (by omega)
  rw [Int.neg_tdiv] at this
  unfold In64
  omega
theorem wrap64_eq {n:Int} (h:In64 n):wrap64 n=n:=by
 obtain ⟨h1,h2⟩:=h
 unfold wrap64;omega
def NumsP (w:World) (p:Option Addr) (ns:List Int):Prop:=¬ns=[]→∃g o,p=some ⟨g,o,none⟩∧g<w.heap.size∧∀(i:Nat) (n:Int),ns[i]? = some n→w.cell? ⟨g,o+i,none⟩=some (.int .i64 n)
theorem NumsP.nw {w w':World} {p:Option Addr} {ns:List Int} (h:NumsP w p ns) (k:Nw w w'):NumsP w' p ns:=by
 intro hne
 obtain ⟨g,o,e,hl,hc⟩:=h hne
 exact ⟨g,o,e,Nat.lt_of_lt_of_le hl k.size,fun i n hn=>(k.cell (p:=⟨g,o+i,none⟩) hl (fun h=>h)).trans (hc i n hn)⟩
structure Eb (W0 wr:World) (v:Value) (l:List Evt):Prop where
 own:wr.ownsRow W0.heap.size 36 5 v l.length (evsR l)
 nw:Nw W0 wr
theorem Eb.next {W0 wr w':World} {v:Value} {l:List Evt} (h:Eb W0 wr v l) (k:Nw wr w'):Eb W0 w' v l:=⟨owns_kp h.own k (fun _ _ h=>h),h.nw.trans k⟩
theorem Eb.more {W0 wr w':World} {v v':Value} {l:List Evt} {x:Evt} (h:Eb W0 wr v l) (hg:wr.grownBy w' v.ownBlock) (ho:w'.ownsRow W0.heap.size 36 5 v' (l.length+1) (evsR l++evC5 x)):Eb W0 w' v' (l++[x]):=by
 refine ⟨?_,h.nw.grown hg (fun b hb=>Or.inl (h.own.lt b hb).1)⟩
 have e1:(l++[x]).length=l.length+1:=by simp
 rw [e1,evsR_one];exact ho
theorem stream_any (p:Option Addr) (cap most:Nat) (ns:List Int) (w:World) (hp:NumsP w p ns) (h64:∀n∈ns,In64 n) (hl:ns.length≤maxLen) (hm:most≤1000) :
  Calls Tryz.prog 4 #[.slice p ns.length cap,.int .i64 most] w fun e w'=>∃v,e=.returned v∧Eb w w' v (strTo ns (min ns.length most)).1:=by
 unfold maxLen at hl
 obtain ⟨i0,hi0,hz0,hz1,hz2⟩:=info_parts Tryz.infoEv2
 have HPK:Hid (∀(c n:Int) (W:World),In64 c→0<n→n≤1000→Calls Tryz.prog 5 #[.int .i64 c,.int .i64 n] W fun e w'=>e=.returned (.int .i64 (pickK c n))∧w'=W):=pickK_any
 have HP:Hid (NumsP w p ns):=hp
 clear hp
 go_enter Tryz.func4,Tryz.ntmps4
 go_wp2
 go_loopg [5,6,7] (min ns.length most) (fun m v5 v6 v7 wr=>∃i:Nat,v6=.int .i64 (strTo ns i).2∧v7=.int .i64 i∧m=min ns.length most - i∧i≤min ns.length most∧Eb w wr v5 (strTo ns i).1)
 case atStart=>exact ⟨0,rfl,rfl,rfl,by omega,⟨World.ownsRow_nil _ _ _ _,Kp.refl _ _⟩⟩
 case round =>
  obtain ⟨i,rfl,rfl,hmm,hil,hB⟩:=hrel
  have HM:Hid (_=min ns.length most - i):=hmm
  have HB:Hid (Eb w wr u5 (strTo ns i).1):=hB
  clear hmm
  by_cases hi:i<ns.length∧i<most
  ·obtain ⟨n,hn⟩:∃n,ns[i]? = some n:=⟨ns[i]'hi.1,by simp [hi.1]⟩
   have hne:¬ns=[]:=by intro e;rw [e] at hn;simp at hn
   obtain ⟨g,o,rfl,hgl,hc⟩:=(HP.out.nw hB.nw) hne
   have c0:=hc i n hn
   have hin:In64 n:=h64 n (List.mem_of_getElem? hn)
   have h15:In64 (n.tdiv 15):=tdiv_in hin (by omega)
   have h3:In64 (n.tdiv 3):=tdiv_in hin (by omega)
   have HST:Hid (strTo ns (i+1)=((strTo ns i).1++[evAt (strTo ns i).2 n],(strTo ns i).2+pickK (n.tdiv 3) 5)):=strTo_succ hn
   have hnow:=strTo_now ns i
   have hlen:=strTo_len ns i (by omega)
   have hp5:=pickK_lt (c:=n.tdiv 3) (n:=5) (by omega)
   have hi1:(i:Int)<ns.length:=by omega
   have hi2:(i:Int)<most:=by omega
   clear hc hB hne hn
   have HP15:Hid (∀W,Calls Tryz.prog 5 #[.int .i64 (wrap64 (n.tdiv 15)),.int .i64 10] W fun e w'=>e=.returned (.int .i64 (pickK (n.tdiv 15) 10))∧w'=W):=fun W=>by
    rw [wrap64_eq h15];exact HPK.out _ _ W h15 (by omega) (by omega)
   have HP3:Hid (∀W,Calls Tryz.prog 5 #[.int .i64 (wrap64 (n.tdiv 3)),.int .i64 5] W fun e w'=>e=.returned (.int .i64 (pickK (n.tdiv 3) 5))∧w'=W):=fun W=>by
    rw [wrap64_eq h3];exact HPK.out _ _ W h3 (by omega) (by omega)
   have HP3n:Hid (∀W,Calls Tryz.prog 5 #[.int .i64 (n.tdiv 3),.int .i64 5] W fun e w'=>e=.returned (.int .i64 (pickK (n.tdiv 3) 5))∧w'=W):=fun W=>HPK.out _ _ W h3 (by omega) (by omega)
   have HPN:Hid (∀W,Calls Tryz.prog 5 #[.int .i64 n,.int .i64 3] W fun e w'=>e=.returned (.int .i64 (pickK n 3))∧w'=W):=fun W=>HPK.out _ _ W hin (by omega) (by omega)
   clear h15 h3
   go_wp2_with fail
   refine (HP15.out _).mono ?_
   rintro e w1 ⟨rfl,rfl⟩
   by_cases hb:1125899906842624<n
   ·have hb1:decide (1125899906842624<n)=true:=by simpa using hb
    have HX:Hid (evAt (strTo ns i).2 n=⟨(strTo ns i).2+pickK (n.tdiv 3) 5,pickK n 3,n,0,0⟩):=by show _=_;unfold evAt;rw [if_pos (Or.inl hb)]
    go_wp2_with fail
    refine (HP3.out _).mono ?_
    rintro e w2 ⟨rfl,rfl⟩
    go_wp2_with fail
    refine (HPN.out _).mono ?_
    rintro e w3 ⟨rfl,rfl⟩
    go_wp2_with (at_builtin;refine wpList_append_lies _ rfl _ _ 23 rfl w.heap.size 36 i0 (.agg #[.int .i64 0,.int .i64 0,.int .i64 0,.int .i64 0,.int .i64 0]) 5 40 Tryz.unEvs hi0 hz0 hz1 hz2 rfl (by decide) _ _ _ rfl (HB.out.own.alloc _) ⟨w3.heap.size,0,none⟩ 1 1 (evC5 ⟨(strTo ns i).2+pickK (n.tdiv 3) 5,pickK n 3,n,0,0⟩) rfl rfl ?c1 (evC5_one _) (by decide) ?c3 ?c4 ?c5 _ rfl ?_)
    case c1=>exact news_one _ (by simp) _ _
    case c3=>unfold maxLen;omega
    case c4=>omega
    case c5=>have:=HB.out.nw.size;simp;omega
    intro g3 cap3 w4 hown3 hgrow3 hat3 hlt3
    have HB3:Hid (Eb w w4 (.slice (some ⟨g3,0,none⟩) (i+1) cap3) ((strTo ns i).1++[⟨(strTo ns i).2+pickK (n.tdiv 3) 5,pickK n 3,n,0,0⟩])):=(HB.out.next ((Kp.refl _ _).alloc _)).more hgrow3 (by rw [hlen];exact hown3)
    clear hown3 hgrow3 hat3
    go_wp2
    go_roundg (min ns.length most - (i+1))
    case measure=>rw [HM.out];omega
    case rel=>exact ⟨i+1,by rw [HST.out],by simp,rfl,by omega,by rw [HST.out];show Eb w w4 _ ((strTo ns i).1++[evAt (strTo ns i).2 n]);rw [HX.out];exact HB3.out⟩
   ·by_cases hb2:n < -1125899906842624
    ·have hb1:decide (1125899906842624<n)=false:=by simpa using hb
     have hb3:decide (n < -1125899906842624)=true:=by simpa using hb2
     have HX:Hid (evAt (strTo ns i).2 n=⟨(strTo ns i).2+pickK (n.tdiv 3) 5,pickK n 3,n,0,0⟩):=by show _=_;unfold evAt;rw [if_pos (Or.inr hb2)]
     go_wp2_with fail
     refine (HP3.out _).mono ?_
     rintro e w2 ⟨rfl,rfl⟩
     go_wp2_with fail
     refine (HPN.out _).mono ?_
     rintro e w3 ⟨rfl,rfl⟩
     go_wp2_with (at_builtin;refine wpList_append_lies _ rfl _ _ 23 rfl w.heap.size 36 i0 (.agg #[.int .i64 0,.int .i64 0,.int .i64 0,.int .i64 0,.int .i64 0]) 5 40 Tryz.unEvs hi0 hz0 hz1 hz2 rfl (by decide) _ _ _ rfl (HB.out.own.alloc _) ⟨w3.heap.size,0,none⟩ 1 1 (evC5 ⟨(strTo ns i).2+pickK (n.tdiv 3) 5,pickK n 3,n,0,0⟩) rfl rfl ?c1 (evC5_one _) (by decide) ?c3 ?c4 ?c5 _ rfl ?_)
     case c1=>exact news_one _ (by simp) _ _
     case c3=>unfold maxLen;omega
     case c4=>omega
     case c5=>have:=HB.out.nw.size;simp;omega
     intro g3 cap3 w4 hown3 hgrow3 hat3 hlt3
     have HB3:Hid (Eb w w4 (.slice (some ⟨g3,0,none⟩) (i+1) cap3) ((strTo ns i).1++[⟨(strTo ns i).2+pickK (n.tdiv 3) 5,pickK n 3,n,0,0⟩])):=(HB.out.next ((Kp.refl _ _).alloc _)).more hgrow3 (by rw [hlen];exact hown3)
     clear hown3 hgrow3 hat3
     go_wp2
     go_roundg (min ns.length most - (i+1))
     case measure=>rw [HM.out];omega
     case rel=>exact ⟨i+1,by rw [HST.out],by simp,rfl,by omega,by rw [HST.out];show Eb w w4 _ ((strTo ns i).1++[evAt (strTo ns i).2 n]);rw [HX.out];exact HB3.out⟩
    ·have hb1:decide (1125899906842624<n)=false:=by simpa using hb
     have hb3:decide (n < -1125899906842624)=false:=by simpa using hb2
     have HX:Hid (evAt (strTo ns i).2 n=⟨(strTo ns i).2+pickK (n.tdiv 3) 5,pickK n 3,pickK (n.tdiv 15) 10,0,0⟩):=by show _=_;unfold evAt;rw [if_neg (by omega)]
     go_wp2_with fail
     refine (HP3n.out _).mono ?_
     rintro e w2 ⟨rfl,rfl⟩
     go_wp2_with fail
     refine (HPN.out _).mono ?_
     rintro e w3 ⟨rfl,rfl⟩
     go_wp2_with (at_builtin;refine wpList_append_lies _ rfl _ _ 23 rfl w.heap.size 36 i0 (.agg #[.int .i64 0,.int .i64 0,.int .i64 0,.int .i64 0,.int .i64 0]) 5 40 Tryz.unEvs hi0 hz0 hz1 hz2 rfl (by decide) _ _ _ rfl (HB.out.own.alloc _) ⟨w3.heap.size,0,none⟩ 1 1 (evC5 ⟨(strTo ns i).2+pickK (n.tdiv 3) 5,pickK n 3,pickK (n.tdiv 15) 10,0,0⟩) rfl rfl ?c1 (evC5_one _) (by decide) ?c3 ?c4 ?c5 _ rfl ?_)
     case c1=>exact news_one _ (by simp) _ _
     case c3=>unfold maxLen;omega
     case c4=>omega
     case c5=>have:=HB.out.nw.size;simp;omega
     intro g3 cap3 w4 hown3 hgrow3 hat3 hlt3
     have HB3:Hid (Eb w w4 (.slice (some ⟨g3,0,none⟩) (i+1) cap3) ((strTo ns i).1++[⟨(strTo ns i).2+pickK (n.tdiv 3) 5,pickK n 3,pickK (n.tdiv 15) 10,0,0⟩])):=(HB.out.next ((Kp.refl _ _).alloc _)).more hgrow3 (by rw [hlen];exact hown3)
     clear hown3 hgrow3 hat3
     go_wp2
     go_roundg (min ns.length most - (i+1))
     case measure=>rw [HM.out];omega
     case rel=>exact ⟨i+1,by rw [HST.out],by simp,rfl,by omega,by rw [HST.out];show Eb w w4 _ ((strTo ns i).1++[evAt (strTo ns i).2 n]);rw [HX.out];exact HB3.out⟩
  ·have ei:i=min ns.length most:=by omega
   by_cases hq:i<ns.length
   ·have hq1:(i:Int)<ns.length:=by omega
    have hq2:¬(i:Int)<most:=by omega
    go_wp2
    go_ret
    exact ⟨_,rfl,by rw [←ei];exact HB.out⟩
   ·have hq1:¬(i:Int)<ns.length:=by omega
    go_wp2
    go_ret
    exact ⟨_,rfl,by rw [←ei];exact HB.out⟩
theorem great_any (w:World):Calls Tryz.prog 12 #[] w fun e w'=>e=.returned (.agg #[.int .i64 200,.int .i64 200])∧Nw w w':=by
 have HL:∀W:World,W.cell? ⟨w.heap.size,0,none⟩=some (.int .i64 200)→W.cell? ⟨w.heap.size,1,none⟩=some (.int .i64 200)→(loadVar 45 ⟨w.heap.size,0,none⟩).run Tryz.prog W=.ok (.agg #[.int .i64 200,.int .i64 200]) W:=by
  intro W h0 h1
  obtain ⟨dd,hu,hd⟩:=Option.map_eq_some_iff.1 (show (Tryz.prog.underlying 45).map TypeDesc.isRow=some true by kernel_rfl)
  refine run_loadVar_mid W w.heap.size 0 45 [.int .i64 200,.int .i64 200] dd ?_ hu hd (by kernel_rfl)
  intro k v hv
  rw [Nat.zero_add]
  match k,hv with
  | 0,hv=>simp at hv;rw [h0,hv]
  | 1,hv=>simp at hv;rw [h1,hv]
 have HLL:Hid (∀W:World,W.cell? ⟨w.heap.size,0,none⟩=some (.int .i64 200)→W.cell? ⟨w.heap.size,1,none⟩=some (.int .i64 200)→(loadVar 45 ⟨w.heap.size,0,none⟩).run Tryz.prog W=.ok (.agg #[.int .i64 200,.int .i64 200]) W):=HL
 clear HL
 go_enter Tryz.func12,Tryz.ntmps12
 go_wp2
 refine bodyPost_ret (results_cX Tryz.results12 _ _ _ ⟨w.heap.size,0,none⟩ rfl _ (HLL.out _ ?_ ?_)) rfl ?_
 ·simp [go_sem,World.cell?_alloc_at]
 ·simp [go_sem,World.cell?_alloc_at]
 ·exact ⟨rfl,(Kp.refl _ w).alloc _⟩
theorem none_any (w:World):Calls Tryz.prog 15 #[] w fun e w'=>e=.returned (.agg #[.int .i64 (-1),.int .i64 (-1),.int .i64 (-1),.int .i64 (-1)])∧Nw w w':=by
 have HLL:Hid (∀W:World,(∀k,k<4→W.cell? ⟨w.heap.size,k,none⟩=some (.int .i64 (-1)))→(loadVar 32 ⟨w.heap.size,0,none⟩).run Tryz.prog W=.ok (.agg #[.int .i64 (-1),.int .i64 (-1),.int .i64 (-1),.int .i64 (-1)]) W):=by
  intro W h0
  obtain ⟨dd,hu,hd⟩:=Option.map_eq_some_iff.1 (show (Tryz.prog.underlying 32).map TypeDesc.isRow=some true by kernel_rfl)
  refine run_loadVar_mid W w.heap.size 0 32 [.int .i64 (-1),.int .i64 (-1),.int .i64 (-1),.int .i64 (-1)] dd ?_ hu hd (by kernel_rfl)
  intro k v hv
  rw [Nat.zero_add]
  match k,hv with
  | 0,hv=>simp at hv;rw [h0 0 (by omega),hv]
  | 1,hv=>simp at hv;rw [h0 1 (by omega),hv]
  | 2,hv=>simp at hv;rw [h0 2 (by omega),hv]
  | 3,hv=>simp at hv;rw [h0 3 (by omega),hv]
 go_enter Tryz.func15,Tryz.ntmps15
 go_wp2
 refine bodyPost_ret (results_cX Tryz.results15 _ _ _ ⟨w.heap.size,0,none⟩ rfl _ (HLL.out _ ?_)) rfl ?_
 ·intro k hk
  match k,hk with
  | 0,_=>simp [go_sem,World.cell?_alloc_at]
  | 1,_=>simp [go_sem,World.cell?_alloc_at]
  | 2,_=>simp [go_sem,World.cell?_alloc_at]
  | 3,_=>simp [go_sem,World.cell?_alloc_at]
 ·exact ⟨rfl,(Kp.refl _ w).alloc _⟩
theorem Tryz.kuMt:(Tryz.prog.underlying 34).bind dFields=some [(3,0),(3,1),(32,2)]:=by kernel_rfl
theorem Tryz.kuA4:Tryz.prog.underlying 32=some (.array 4 3):=by kernel_rfl
theorem Tryz.kcA4:Tryz.prog.cellsOf 32=4:=by kernel_rfl
theorem Tryz.kcMt:Tryz.prog.cellsOf 34=6:=by kernel_rfl
structure MtOk (m:Mt):Prop where
 f:In64 m.first
 l:In64 m.last
 h0:In64 m.h0
 h1:In64 m.h1
 h2:In64 m.h2
 h3:In64 m.h3
def mtL (m:Mt):List Lit:=[.int .i64 m.first,.int .i64 m.last,.int .i64 m.h0,.int .i64 m.h1,.int .i64 m.h2,.int .i64 m.h3]
theorem kl_mt {m:Mt} (h:MtOk m) (D:Nat):Tryz.prog.keyLits (D+3) 34 (mtC m)=some (mtL m):=by
 have e4:Tryz.prog.keyLits (D+2) 32 [.int .i64 m.h0,.int .i64 m.h1,.int .i64 m.h2,.int .i64 m.h3]=some [.int .i64 m.h0,.int .i64 m.h1,.int .i64 m.h2,.int .i64 m.h3]:=by
  rw [kl_array (D:=D+1) Tryz.kuA4 (by rw [Tryz.kcA4];rfl)]
  have er:List.range 4=[0,1,2,3]:=rfl
  rw [er,Tryz.kcInt]
  simp [kl_int Tryz.kuInt h.h0,kl_int Tryz.kuInt h.h1,kl_int Tryz.kuInt h.h2,kl_int Tryz.kuInt h.h3]
 rw [kl_struct (D:=D+2) Tryz.kuMt (by rw [Tryz.kcMt];rfl)]
 simp [Tryz.kcInt,Tryz.kcA4,mtC,kl_int Tryz.kuInt h.f,kl_int Tryz.kuInt h.l,e4,mtL]
theorem Tryz.ktMt:Tryz.prog.keyTypeAt 3 34=true:=by kernel_rfl
theorem formed_mt (m:Mt):(Value.agg (mtC m).toArray).formed Tryz.prog 34=true:=by
 obtain ⟨dd,hu,hd⟩:=Option.map_eq_some_iff.1 (show (Tryz.prog.underlying 34).map TypeDesc.isRow=some true by kernel_rfl)
 exact formed_of hu hd (by rw [Tryz.kcMt];rfl)
theorem mtL_inj {u t:Mt}:mtL u=mtL t↔u=t:=by
 obtain ⟨a,b,c,d,e,f⟩:=u
 obtain ⟨a',b',c',d',e',f'⟩:=t
 simp [mtL]
theorem equal_mt {u t:Mt} (hu:MtOk u) (ht:MtOk t) (w:World):(Op.equal 34 (.agg (mtC u).toArray) (.agg (mtC t).toArray)).run Tryz.prog w=.ok (decide (u=t)) w:=by
 obtain ⟨r,hr,hiff⟩:=run_equalIn_deep 9997 3 34 Tryz.ktMt w 3 3 (.agg (mtC u).toArray) (.agg (mtC t).toArray) (mtL u) (mtL t) (formed_mt u) (formed_mt t) (kl_mt hu 0) (kl_mt ht 0)
 have e:r=decide (u=t):=by
  rw [Bool.eq_iff_iff,hiff,mtL_inj]
  simp
 rw [←e]
 exact hr
theorem Tryz.egMt:Tryz.prog.eqGuardType Tryz.prog.depth 34=false:=by kernel_rfl
theorem exec_neqM {o:Oper} {x y:Operand} {ty:TypeId} (ho:o.op=.binOp .neq 34 x y ty) {a:Act} {u t:Mt} (hx:a.eval x=.agg (mtC u).toArray) (hy:a.eval y=.agg (mtC t).toArray) (hu:MtOk u) (ht:MtOk t) (w:World) :
  (execOp a.eval o).run Tryz.prog w=.ok (.value (.bool (!decide (u=t)))) w:=by
 unfold execOp
 have he:(eqGuard .neq 34 x y (.agg (mtC u).toArray) (.agg (mtC t).toArray)).run Tryz.prog w=.ok () w:=by
  simp [eqGuard,Tryz.egMt]
 have h2:(Op.equal 34 (.agg (mtC u).toArray) (.agg (mtC t).toArray)).run Tryz.prog w=.ok (decide (u=t)) w:=equal_mt hu ht w
 simp [ho,hx,hy,he,binOp,h2]
theorem exec_neqS {o:Oper} {x y:Operand} {ty:TypeId} (ho:o.op=.binOp .neq 34 x y ty) {a:Act} {u:Mt} (hx:a.eval x=.agg (mtC u).toArray) (hy:a.eval y=.agg (mtC u).toArray) (hu:MtOk u) (w:World) :
  (execOp a.eval o).run Tryz.prog w=.ok (.value (.bool false)) w:=by
 have:=exec_neqM ho hx hy hu hu w
 simpa using this
theorem Tryz.rowMt':(Tryz.prog.underlying 34).map TypeDesc.isRow=some true:=by kernel_rfl
def MtsP (w:World) (p:Option Addr) (l:List Mt):Prop:=¬l=[]→∃g,p=some ⟨g,0,none⟩∧g<w.heap.size∧∀(i:Nat) (x:Mt),l[i]? = some x→w.rangeAt g (i*6) (mtC x)
theorem MtsP.nw {w w':World} {p:Option Addr} {l:List Mt} (h:MtsP w p l) (k:Nw w w'):MtsP w' p l:=by
 intro hne
 obtain ⟨g,e,hl,hc⟩:=h hne
 exact ⟨g,e,Nat.lt_of_lt_of_le hl k.size,fun i x hx j v hv=>(k.cell (p:=⟨g,i*6+j,none⟩) hl (fun h=>h)).trans (hc i x hx j v hv)⟩
theorem sameM_same (p p':Option Addr) (cap cap':Nat) (l:List Mt) (w:World) (hp:MtsP w p l) (hp':MtsP w p' l) (hm:l.length≤800000000000) (hok:∀x∈l,MtOk x) :
  Calls Tryz.prog 10 #[.slice p l.length cap,.slice p' l.length cap'] w fun e w'=>e=.returned (.bool true)∧Nw w w':=by
 go_enter Tryz.func10,Tryz.ntmps10
 go_wp2
 go_loopg [5] l.length (fun m v5 wr=>∃i:Nat,v5=.int .i64 i∧m=l.length - i∧i≤l.length∧MtsP wr p l∧MtsP wr p' l∧Nw w wr)
 case atStart=>exact ⟨0,rfl,rfl,by omega,hp,hp',Kp.refl _ _⟩
 case round =>
  obtain ⟨i,rfl,hm',hi,hc,hc',hnw⟩:=hrel
  by_cases hi':i<l.length
  ·obtain ⟨x,hx⟩:∃x,l[i]? = some x:=⟨l[i],by simp [hi']⟩
   have hne:¬l=[]:=by intro e;rw [e] at hx;simp at hx
   obtain ⟨g,rfl,hgl,hcr⟩:=hc hne
   obtain ⟨g',rfl,hgl',hcr'⟩:=hc' hne
   have HR:Hid (∀W,Nw wr W→W.rangeAt g (i*6) (mtC x)):=fun W k j v hv=>(k.cell (p:=⟨g,i*6+j,none⟩) hgl (fun h=>h)).trans (hcr i x hx j v hv)
   have HR':Hid (∀W,Nw wr W→W.rangeAt g' (i*6) (mtC x)):=fun W k j v hv=>(k.cell (p:=⟨g',i*6+j,none⟩) hgl' (fun h=>h)).trans (hcr' i x hx j v hv)
   have hmo:MtOk x:=hok x (List.mem_of_getElem? hx)
   have HMO:Hid (MtOk x):=hmo
   have HP:Hid (MtsP wr (some ⟨g,0,none⟩) l):=hc
   have HP':Hid (MtsP wr (some ⟨g',0,none⟩) l):=hc'
   have HK:Hid (Nw w wr):=hnw
   obtain ⟨dd,hu,hd⟩:=Option.map_eq_some_iff.1 Tryz.rowMt'
   clear hc hc' hnw hcr hcr' hp hp' hok hmo
   go_wp2
   refine wp_region_held_drew (S:=fun W=>Nw wr W) (by kernel_rfl) ((Kp.refl _ _).drew) (fun hHeld => ?_)
   refine tM 0 rfl (fun W hSW=>by (try dsimp only at hSW);go_simp;rw []) hHeld ?_
   refine tM 1 rfl (fun W hSW=>by (try dsimp only at hSW);go_simp;rw []) hHeld ?_
   refine tM 2 rfl (fun W hSW=>by (try dsimp only at hSW);go_simp;rw []) hHeld ?_
   refine tN (i:=3) (v:=_) rfl (yieldsIf_load_mid (by rfl) 34 _ rfl g (i*6) rfl (mtC x) dd HR.out hu hd (size_mt x)) hHeld ?_
   refine tM 4 rfl (fun W hSW=>by (try dsimp only at hSW);go_simp;rw []) hHeld ?_
   refine tM 5 rfl (fun W hSW=>by (try dsimp only at hSW);go_simp;rw []) hHeld ?_
   refine tM 6 rfl (fun W hSW=>by (try dsimp only at hSW);go_simp;rw []) hHeld ?_
   refine tN (i:=7) (v:=_) rfl (yieldsIf_load_mid (by rfl) 34 _ rfl g' (i*6) rfl (mtC x) dd HR'.out hu hd (size_mt x)) hHeld ?_
   refine tN (i:=8) (v:=.bool false) rfl (Or.inl ⟨by rfl,fun W hSW=>exec_neqS rfl rfl rfl HMO.out W⟩) hHeld ?_
   refine wpAnyH_done (by kernel_rfl) ?_ _
   have kw2:Hid (Nw wr wr.drew):=(Kp.refl _ _).drew
   go_wp2
   go_roundg (l.length - (i+1))
   case measure=>omega
   case rel=>exact ⟨i+1,by simp,rfl,by omega,HP.out.nw kw2.out,HP'.out.nw kw2.out,HK.out.trans kw2.out⟩
  ·go_wp2
   go_ret
   exact ⟨rfl,hnw⟩
end Go.Proofs.YtcboiapggnmpfabGreatDoor
