import Derived.Test.YtcboiapggnmpfabGreatQbt
import Derived.Test.YtcboiapggnmpfabGreatQbu
import Derived.Test.YtcboiapggnmpfabGreatQbp
import Derived.Test.YtcboiapggnmpfabGreatQam
import Derived.Test.YtcboiapggnmpfabGreatQal
import Derived.Deep.MidRow
import Derived.Deep.LoopGhost
namespace Go.Proofs.YtcboiapggnmpfabGreat
set_option maxRecDepth 100000
set_option maxHeartbeats 4000000
set_option linter.unusedSimpArgs false
set_option linter.unusedVariables false
open Go.RowKit
theorem feedX_any (A:Nat) (sc:List Int) (live found:Int) (g cap:Nat) (l:List In) (bv:Value) (bs:List Nat) (r:Rst) (e:Evt) (w:World) (hc:RunC sc live found l bs) (hk:RunK w A sc live found g cap l bv bs r) (he:EvOk e) (hct:r.count≤1000000) :
  Calls Tryz.prog 21 #[.pointer (some ⟨A,0,none⟩),evV e] w (FeedPost w A sc live found g cap l bv bs (feedS sc l bs live found r e)):=by
 obtain ⟨⟨wv,hM⟩,hwn,hwk⟩:=hk
 have hAl:A<w.heap.size:=hM.lt
 have HK0:Hid (Nw w (w.alloc (.cells #[.int .i64 e.at',.int .i64 e.kind,.int .i64 e.x,.int .i64 e.y,.int .i64 e.z] 47))):=(Kp.refl _ w).alloc _
 have HFD:Hid (∀W,Nw w W→Calls Tryz.prog 32 #[.pointer (some ⟨A,0,none⟩),.agg #[.int .i64 e.at',.int .i64 e.kind,.int .i64 e.x,.int .i64 e.y,.int .i64 e.z]] W (FeedPost W A sc live found g cap l bv bs (feedS sc l bs live found r e))):=fun W kW=>feedT_any A sc live found g cap l bv bs r e W hc ⟨⟨wv,hM.nw kW⟩,hwn,hwk⟩ he hct
 have HB0:Hid (∀W,Kp (fun b=>b=A) (w.alloc (.cells #[.int .i64 e.at',.int .i64 e.kind,.int .i64 e.x,.int .i64 e.y,.int .i64 e.z] 47)) W→Bx W w.heap.size [.int .i64 e.at',.int .i64 e.kind,.int .i64 e.x,.int .i64 e.y,.int .i64 e.z]):=fun W kW=>(Bx.new w [.int .i64 e.at',.int .i64 e.kind,.int .i64 e.x,.int .i64 e.y,.int .i64 e.z] 47).kp (by simp) kW (by show ¬w.heap.size=A;omega)
 have HA0:Hid (A<(w.alloc (.cells #[.int .i64 e.at',.int .i64 e.kind,.int .i64 e.x,.int .i64 e.y,.int .i64 e.z] 47)).heap.size):=by show _<_;simp;omega
 have s1:∀W,Bx W w.heap.size [.int .i64 e.at',.int .i64 e.kind,.int .i64 e.x,.int .i64 e.y,.int .i64 e.z]→W.cell? ⟨w.heap.size,0,none⟩=some (.int .i64 e.at')∧W.cell? ⟨w.heap.size,1,none⟩=some (.int .i64 e.kind)∧W.cell? ⟨w.heap.size,2,none⟩=some (.int .i64 e.x)∧W.cell? ⟨w.heap.size,3,none⟩=some (.int .i64 e.y)∧W.cell? ⟨w.heap.size,4,none⟩=some (.int .i64 e.z):=fun W hb=>⟨hb.cell (k:=0) rfl,hb.cell (k:=1) rfl,hb.cell (k:=2) rfl,hb.cell (k:=3) rfl,hb.cell (k:=4) rfl⟩
 generalize feedS sc l bs live found r e=P at *
 obtain ⟨r',ms,c⟩:=P
 unfold evV
 clear hM hwk hwn hc he hct
 go_enter Tryz.func21,Tryz.ntmps21
 go_wp2
 generalize (w.alloc (.cells #[.int .i64 e.at',.int .i64 e.kind,.int .i64 e.x,.int .i64 e.y,.int .i64 e.z] 47))=w0 at *
 refine wp_region_held_drew (S:=fun W=>Bx W w.heap.size [.int .i64 e.at',.int .i64 e.kind,.int .i64 e.x,.int .i64 e.y,.int .i64 e.z]) (by kernel_rfl) (HB0.out _ ((Kp.refl _ _).drew)) (fun hHeld => ?_)
 refine tL (i:=0) (v := ?_) rfl (Or.inl ⟨by rfl,fun W hSW => ?y0⟩) hHeld ?_
 case y0=>(try dsimp only at hSW);go_simp;rw []
 simp only [Act.put,sA,sZ,sS]
 refine tL (i:=1) (v := ?_) rfl (Or.inl ⟨by rfl,fun W hSW => ?y1⟩) hHeld ?_
 case y1=>(try dsimp only at hSW);go_simp;rw []
 simp only [Act.put,sA,sZ,sS]
 refine tL (i:=2) (v := ?_) rfl (Or.inl ⟨by rfl,fun W hSW => ?y2⟩) hHeld ?_
 case y2=>(try dsimp only at hSW);go_simp;rw []
 simp only [Act.put,sA,sZ,sS]
 refine tL (i:=3) (v := ?_) rfl (Or.inl ⟨by rfl,fun W hSW => ?y3⟩) hHeld ?_
 case y3=>(try dsimp only at hSW);go_simp;rw []
 simp only [Act.put,sA,sZ,sS]
 refine wpAnyH_ready (rs:=[4]) (by kernel_rfl) (by simp) ?_
 refine consL rfl (fun K hK => ?_) AllReadyH.nil
 go_simp
 refine (HFD.out _ HK0.out.drew).mono ?_
 rintro e7 w7 ⟨v,rfl,hov,hrk,k7,hnl,hlw⟩
 have k8:Kp (fun b=>b=A) w0 w7:=((Kp.refl _ _).drew).trans k7
 have hS7:=HB0.out w7 k8
 try dsimp only
 refine hK.out _ _ hS7 (fun _ => ?_)
 clear hK K
 try simp only [Act.put,sA,sZ,sS]
 refine tL (i:=5) (v := ?_) rfl (Or.inl ⟨by rfl,fun W hSW => ?y5⟩) hS7 ?_
 case y5=>(try dsimp only at hSW);go_simp;rw []
 simp only [Act.put,sA,sZ,sS]
 refine tL (i:=6) (v := ?_) rfl (Or.inl ⟨by rfl,fun W hSW => ?y6⟩) hS7 ?_
 case y6=>(try dsimp only at hSW);go_simp;rw []
 simp only [Act.put,sA,sZ,sS]
 refine tL (i:=7) (v := ?_) rfl (Or.inl ⟨by rfl,fun W hSW => ?y7⟩) hS7 ?_
 case y7=>(try dsimp only at hSW);go_simp;rw []
 simp only [Act.put,sA,sZ,sS]
 refine tL (i:=8) (v := ?_) rfl (Or.inl ⟨by rfl,fun W hSW => ?y8⟩) hS7 ?_
 case y8=>(try dsimp only at hSW);go_simp;rw []
 simp only [Act.put,sA,sZ,sS]
 refine wpAnyH_done (by kernel_rfl) ?_ _
 have HFIN:Hid (FeedPost w A sc live found g cap l bv bs (r',ms,c) (.returned (.tuple #[v,.int .i64 c])) w7):=by
  have hs:w.heap.size≤w0.drew.heap.size:=HK0.out.drew.size
  exact ⟨v,rfl,owns_baseP hov hs,hrk,(HK0.out.mono (fun _ _ h=>h.elim)).trans k8,hnl,fun v' b hv hb=>(hlw v' b hv hb).elim (fun h=>Or.inl (Nat.le_trans hs h)) (fun h=>Or.inr ((HK0.out.drew.cell (p:=⟨A,9,none⟩) hAl (fun h=>h)).symm.trans h))⟩
 clear hHeld s1 hS7 hov hrk k7 k8 hnl hlw
 go_wp2
 go_ret2
 exact HFIN.out
theorem liveX_any (A:Nat) (n:Nat) (p:Option Addr) (cc:Nat) (w:World) (h:w.cell? ⟨A,9,none⟩=some (.slice p n cc)) :
  Calls Tryz.prog 22 #[.pointer (some ⟨A,0,none⟩)] w fun e w'=>e=.returned (.int .i64 (n:Int))∧w'=w:=by
 have HL:Hid (Calls Tryz.prog 33 #[.pointer (some ⟨A,0,none⟩)] w fun e w'=>e=.returned (.int .i64 (n:Int))∧w'=w):=by
  show Calls _ _ _ _ _
  go_enter Tryz.func33,Tryz.ntmps33
  go_wp2
  go_ret
  exact ⟨rfl,rfl⟩
 go_enter Tryz.func22,Tryz.ntmps22
 go_wp2_with fail
 refine HL.out.mono ?_
 rintro e1 w1 ⟨rfl,rfl⟩
 go_wp2
 go_ret
 exact ⟨rfl,rfl⟩
theorem countX_any (A:Nat) (n:Int) (w:World) (h:w.cell? ⟨A,10,none⟩=some (.int .i64 n)) :
  Calls Tryz.prog 23 #[.pointer (some ⟨A,0,none⟩)] w fun e w'=>e=.returned (.int .i64 n)∧w'=w:=by
 have HL:Hid (Calls Tryz.prog 34 #[.pointer (some ⟨A,0,none⟩)] w fun e w'=>e=.returned (.int .i64 n)∧w'=w):=by
  show Calls _ _ _ _ _
  go_enter Tryz.func34,Tryz.ntmps34
  go_wp2
  go_ret
  exact ⟨rfl,rfl⟩
 go_enter Tryz.func23,Tryz.ntmps23
 go_wp2_with fail
 refine HL.out.mono ?_
 rintro e1 w1 ⟨rfl,rfl⟩
 go_wp2
 go_ret
 exact ⟨rfl,rfl⟩
structure ProgIs (sc s:ByteArray) (l:List In):Prop where
 ck:∀f p,ProgC sc s f p→f=0
 sc:schemaB (bI sc)=true
 code:∀(t:AltOf (Atom 8)) (win:Option Int) (L:List (St×Value)) x,pTopOf (pAtom 8) (toks 0 (bI s))=(some (t,win),x)→Known s t L→codeOf (altTr (atomTr 8) t) L win.isSome (win.getD 0)=l
 v:ValidIs l 0 0
 i:∀x∈l,InOk x
theorem new_any (sc s:ByteArray) (live found:Int) (l:List In) (w:World) (hsc:sc.size≤maxLen) (hs:s.size≤maxLen) (hp:ProgIs sc s l) (h1:1≤live) (h2:live≤200) (h3:1≤found) (h4:found≤200) :
  Calls Tryz.prog 18 #[.string sc,.agg #[.int .i64 live,.int .i64 found],.string s] w (LdPost w (bI sc) live found l):=by
 obtain ⟨_,hne,_⟩:=hp.v.all
 have h0:0<l.length:=List.length_pos_iff.2 hne
 have HCM:Hid (∀W,Calls Tryz.prog 24 #[.string sc,.string s] W fun e w'=>∃g cap,e=.returned (.tuple #[.slice (some ⟨g,0,none⟩) l.length cap,.int .i64 0])∧Code' w' g l∧Nw W w'):=fun W=>by
  refine (compileP_any sc s W hsc hs).mono ?_
  rintro e w' ⟨hk,⟨f,p,he,hf,hck⟩ | ⟨p,t,win,L,v,he,hck,⟨x,hx⟩,hkn,ho⟩⟩
  ·exact absurd (hp.ck f p hck) hf
  ·rw [hp.code t win L x hx hkn] at ho
   obtain ⟨g,cap,rfl⟩:=owns_some ho h0
   exact ⟨g,cap,he,Code'.of_cells (ho.lt g rfl).2 (fun j v hv=>owns_cell ho j hv),hk⟩
 have HLD:Hid (∀W g cap,Code' W g l→Calls Tryz.prog 25 #[.string sc,.agg #[.int .i64 live,.int .i64 found],.slice (some ⟨g,0,none⟩) l.length cap] W (LdPost W (bI sc) live found l)):=fun W g cap hc=>load_any sc live found g cap l W hsc hp.sc h1 h2 h3 h4 hc hp.v hp.i
 have HB0:Hid (∀W,Nw (w.alloc (.cells #[.int .i64 live,.int .i64 found] 44)) W→Bx W w.heap.size [.int .i64 live,.int .i64 found]):=fun W kW=>(Bx.new w [.int .i64 live,.int .i64 found] 44).kp (by simp) kW (fun h=>h)
 have HK0:Hid (Nw w (w.alloc (.cells #[.int .i64 live,.int .i64 found] 44))):=(Kp.refl _ w).alloc _
 clear hsc hs hp h1 h2 h3 h4 hne
 go_enter Tryz.func18,Tryz.ntmps18
 go_wp2_with fail
 refine (HCM.out _).mono ?_
 rintro e1 w1 ⟨g,cap,rfl,hc1,k1⟩
 have HC1:Hid (Code' w1 g l):=hc1
 have hb:=HB0.out w1 k1
 have d0:=hb.cell (k:=0) (v:=.int .i64 live) rfl
 have d1:=hb.cell (k:=1) (v:=.int .i64 found) rfl
 have hl1:=hb.lt (by simp)
 have HK1:Hid (Nw w w1):=HK0.out.trans k1
 clear hb hc1 k1 HCM
 go_wp2_with fail
 refine (HLD.out _ g cap HC1.out).mono ?_
 rintro e2 w2 ⟨X,rfl,⟨hk,hcc,hx,hn,hwe⟩⟩
 have HFIN:Hid (LdPost w (bI sc) live found l (.returned (.tuple #[.pointer (some ⟨X,0,none⟩),.int .i64 0])) w2):=by
  have hs:=HK1.out.size
  obtain ⟨g',cap',bv,h1,h2,h3⟩:=hk
  exact ⟨X,rfl,⟨g',cap',bv,h1,by omega,fun b hb=>by have:=h3 b hb;omega⟩,hcc,by omega,HK1.out.trans hn,hwe⟩
 clear hk hcc hx hn d0 d1 hwe
 go_wp2
 go_ret2
 exact HFIN.out
def rkF (l:List In):Nat→Nat→Nat
 | 0,_=>0
 | m+1,i =>
  match l[i]? with
  | none=>0
  | some x=>if x.op=0 then 0 else ((nxt x i).map (rkF l m)).foldl max 0+1
def rkB (l:List In) (n:Nat):Bool :=
 (List.range l.length).all fun i =>
  match l[i]? with
  | none=>true
  | some x=>decide (x.op=0)||(nxt x i).all fun j=>decide (rkF l n j<rkF l n i)
theorem no_round {l:List In} {n:Nat} (h:rkB l n=true) (j:Nat) (hj:j<l.length):¬Rch l false j j:=by
 intro hr
 have he:∀i k,Edge l false i k→rkF l n k<rkF l n i:=by
  rintro i k ⟨x,hx,h0,hk⟩
  have hi:=(List.getElem?_eq_some_iff.1 hx).1
  have:=(List.all_eq_true.1 h) i (List.mem_range.2 hi)
  rw [hx] at this
  simp only [Bool.or_eq_true,decide_eq_true_eq,List.all_eq_true] at this
  rcases this with e|e
  ·have:=h0 e;simp at this
  ·exact e k hk
 have:=hr.closed (S:=fun x=>rkF l n x<rkF l n j) (fun k hk=>he j k hk) (fun x k hx hk=>Nat.lt_trans (he x k hk) hx)
 exact Nat.lt_irrefl _ this
def validB (l:List In) (n:Nat):Bool:=decide (l.length≤1000)&&decide (0<l.length)&&decide (firstNone l=l.length)&&rkB l n
theorem validB_is {l:List In} {n:Nat} (h:validB l n=true):ValidIs l 0 0:=by
 unfold validB at h
 simp only [Bool.and_eq_true,decide_eq_true_eq] at h
 obtain ⟨⟨⟨h1,h2⟩,h3⟩,h4⟩:=h
 refine Or.inr (Or.inr (Or.inr ⟨h1,?_,h3,rnd_none (fun j hj=>no_round h4 j hj),rfl,rfl⟩))
 intro e;rw [e] at h2;simp at h2
instance (x:Tm):Decidable (TmOk x):=by unfold TmOk In64;infer_instance
def inOkB (l:List In):Bool:=l.all fun x=>decide (TmOk x.test.left)&&decide (TmOk x.test.right)&&decide (TmOk x.test.more)
theorem inOkB_is {l:List In} (h:inOkB l=true):∀x∈l,InOk x:=by
 intro x hx
 have:=(List.all_eq_true.1 h) x hx
 simp only [Bool.and_eq_true,decide_eq_true_eq] at this
 exact ⟨this.1.1,this.1.2,this.2⟩
instance (l:List Int):DecidablePred (hkP l):=fun a=>by unfold hkP;infer_instance
instance (l:List Int) (a b:Int):Decidable (hfP l a b):=by unfold hfP;infer_instance
instance (l:List Int) (R:Rules) (T:Tri) (k:Nat):Decidable (rightS R (hkP l) (hfP l) T k):=by unfold rightS;infer_instance
instance (t:Nt) (sts:List St):Decidable (LargeP t sts):=by unfold LargeP;infer_instance
def allRightB (l:List Int) (sts:List St) (T:Tri):Bool:=(List.range sts.length).all fun j=>decide (rightS (rulesOf sts) (hkP l) (hfP l) T j)
theorem codeOf_fst {T:Nt} {L L':List (St×Value)} (h:L.map Prod.fst=L'.map Prod.fst) (hw:Bool) (win:Int):codeOf T L hw win=codeOf T L' hw win:=by
 have hlen:L.length=L'.length:=by have:=congrArg List.length h;simpa using this
 have hg:∀k,(L[k]?).map Prod.fst=(L'[k]?).map Prod.fst:=fun k=>by rw [←List.getElem?_map,←List.getElem?_map,h]
 have hn:nmL L=nmL L':=by
  funext k
  have:=hg k
  unfold nmL
  cases h1:L[k]? <;> cases h2:L'[k]? <;> rw [h1,h2] at this <;> simp at this ⊢
  rw [this]
 have hh:∀hp s,headOfP hp hw win L s=headOfP hp hw win L' s:=by
  intro hp s
  have:=hg s
  unfold headOfP
  cases h1:L[s]? <;> cases h2:L'[s]? <;> rw [h1,h2] at this <;> simp at this ⊢
  rw [this]
 unfold codeOf
 rw [hlen,hn]
 congr 1
 exact List.map_congr_left (fun s _=>hh _ s)
def progL (l:List Int) (sts:List St) (T:Tri) (N:Nt) (win:Option Int):Option (List In) :=
 if allRightB l sts T=true∧¬LargeP N sts then some (codeOf N (N.steps.map fun y=>(y,.bool false)) win.isSome (win.getD 0)) else none
noncomputable def progB (sc s:ByteArray):Option (List In) :=
 if s.size≤120∧schemaB (bI sc)=true then
  (pTopOf (pAtom 8) (toks 0 (bI s))).1.bind fun p=>progL (bI sc) (altS (atomS 8) p.1.1 p.1.2) (altT (atomT 8) p.1.1 p.1.2) (altTr (atomTr 8) p.1) p.2
 else none
theorem progB_is {sc s:ByteArray} {l:List In} {n:Nat} (h:progB sc s=some l) (hv:validB l n=true) (hi:inOkB l=true):ProgIs sc s l:=by
 unfold progB at h
 split at h
 ·rename_i h1
  obtain ⟨p,hp1,hp2⟩:=Option.bind_eq_some_iff.1 h
  have hp:pTopOf (pAtom 8) (toks 0 (bI s))=(some (p.1,p.2),(pTopOf (pAtom 8) (toks 0 (bI s))).2):=by
   rw [←hp1]
  unfold progL at hp2
  split at hp2
  ·rename_i h2
   simp only [Option.some.injEq] at hp2
   have hT:ProgT (bI sc) p.1 0 0:=by
    refine Or.inr (Or.inr ⟨?_,h2.2,rfl,rfl⟩)
    intro j hj
    have:=(List.all_eq_true.1 h2.1) j (List.mem_range.2 hj)
    simpa using this
   have hC:ProgC sc s 0 0:=Or.inr (Or.inr (Or.inr ⟨h1.1,h1.2,p.1,p.2,_,hp,hT⟩))
   refine ⟨fun f q hf=>(hf.uniq hC).1,h1.2,?_,validB_is hv,inOkB_is hi⟩
   intro t' win' L x' hp' hk
   rw [hp] at hp'
   have e1:p.1=t':=by have:=congrArg (fun z=>z.1) hp';simp only [Option.some.injEq,Prod.mk.injEq] at this;exact this.1
   have e2:p.2=win':=by have:=congrArg (fun z=>z.1) hp';simp only [Option.some.injEq,Prod.mk.injEq] at this;exact this.2
   subst e1;subst e2
   rw [←hp2]
   refine codeOf_fst ?_ _ _
   rw [hk.steps,List.map_map]
   simp [Function.comp_def]
  ·cases hp2
 ·cases h
def cloF (code:List In):Nat→List (Nat×Nat)→List (Nat×Nat)→List (Nat×Nat)
 | 0,_,acc=>acc
 | m+1,[],acc=>acc
 | m+1,p::todo,acc=>if acc.contains p=true then cloF code m todo acc else match code[p.1]? with
  | none=>cloF code m todo (p::acc)
  | some x=>cloF code m (nxA x p.1 p.2++todo) (p::acc)
def shutB (code:List In) (R:List (Nat×Nat)):Bool:=R.all fun p=>match code[p.1]? with
 | none=>true
 | some x=>(nxA x p.1 p.2).all (fun q=>R.contains q)&&(decide (¬x.op=4)||decide (0≤x.a))&&(decide (¬x.op=5)||(decide (0≤x.a)&&decide (0≤x.b)))
theorem shutB_is {code:List In} {R:List (Nat×Nat)} (h:shutB code R=true):ShutA code R:=by
 intro p hp x hx
 have:=(List.all_eq_true.1 h) p hp
 rw [hx] at this
 simp only [Bool.and_eq_true,Bool.or_eq_true,decide_eq_true_eq,List.all_eq_true,List.contains_iff_mem] at this
 obtain ⟨⟨h1,h2⟩,h3⟩:=this
 refine ⟨h1,fun o => ?_,fun o => ?_⟩
 ·rcases h2 with h|h
  ·exact absurd o h
  ·exact h
 ·rcases h3 with h|h
  ·exact absurd o h
  ·exact h
def tabT (tl:List (List (Nat×Nat))) (p:Nat):List (Nat×Nat):=tl.getD p []
def tabL (code:List In):List (List (Nat×Nat)):=(List.range code.length).map fun p=>if isTk code p=true then cloF code 400 [(p+1,0)] [] else []
def tabB (code:List In) (tl:List (List (Nat×Nat))):Bool:=(List.range code.length).all fun p => !isTk code p||((tabT tl p).contains (p+1,0)&&shutB code (tabT tl p))
theorem tabB_is {code:List In} {tl:List (List (Nat×Nat))} (h:tabB code tl=true):TabOk code (tabT tl):=by
 refine ⟨fun p hp => ?_⟩
 have hl:=tks_mem.2 hp
 unfold tksL at hl
 rw [List.mem_filter,List.mem_range] at hl
 have:=(List.all_eq_true.1 h) p (List.mem_range.2 hl.1)
 simp only [hp,Bool.not_true,Bool.false_or,Bool.and_eq_true,List.contains_iff_mem] at this
 exact ⟨this.1,shutB_is this.2⟩
def freeB (code:List In) (bs:List Nat) (n:Nat):Bool:=bs.all (isTk code)&&tabB code (tabL code)&&limB code (tabT (tabL code)) bs 200 200 n []
theorem free_of {sc:List Int} {code:List In} {n:Nat} (h:freeB code (beginsS code) n=true) {L:List Evt} (hL:L.length≤n) (hg:GoesE sc 0 L) {i:Nat} {e:Evt} (hi:L[i]? = some e) :
  (feedS sc code (beginsS code) 200 200 (runS sc code (beginsS code) 200 200 ⟨[],0,0,false⟩ (L.take i)) e).2.2=0∧(runS sc code (beginsS code) 200 200 ⟨[],0,0,false⟩ (L.take i)).count=i:=by
 unfold freeB at h
 simp only [Bool.and_eq_true] at h
 have:=free_all (sc:=sc) (tabB_is h.1.2) (fun b hb=>(List.all_eq_true.1 h.1.1) b hb) (live:=200) (found:=200) n [] L ⟨[],0,0,false⟩ hL h.2 ⟨fun u hu=>by simp at hu,fun q=>by simp⟩ rfl hg i e hi
 exact ⟨this.1,by simpa using this.2⟩
def ncode0:List In:=[⟨4,1,0,tst0⟩,⟨0,0,0,tst0⟩,⟨3,0,0,tst0⟩,⟨4,4,0,tst0⟩,⟨0,1,0,tst0⟩,⟨2,0,0,⟨⟨1,1,0⟩,1,⟨2,1,0⟩,0,⟨0,0,0⟩⟩⟩,⟨4,7,0,tst0⟩,⟨6,0,0,tst0⟩]
theorem nprog0:ProgIs ⟨#[49,49,49]⟩ ⟨#[97,65,32,98,91,120,62,65,120,93]⟩ ncode0:=progB_is (n:=30) (by kernel_rfl) (by kernel_rfl) (by kernel_rfl)
theorem nfree0:freeB ncode0 (beginsS ncode0) 12=true:=by kernel_rfl
def ncode1:List In:=[⟨4,1,0,tst0⟩,⟨0,0,0,tst0⟩,⟨3,0,0,tst0⟩,⟨5,5,4,tst0⟩,⟨4,8,0,tst0⟩,⟨0,4,0,tst0⟩,⟨5,5,7,tst0⟩,⟨4,8,0,tst0⟩,⟨0,1,0,tst0⟩,⟨2,0,0,⟨⟨1,1,0⟩,1,⟨2,1,0⟩,0,⟨0,0,0⟩⟩⟩,⟨4,11,0,tst0⟩,⟨6,0,0,tst0⟩]
theorem nprog1:ProgIs ⟨#[49,49,49]⟩ ⟨#[97,65,46,42,98,91,120,62,65,120,93]⟩ ncode1:=progB_is (n:=30) (by kernel_rfl) (by kernel_rfl) (by kernel_rfl)
theorem nfree1:freeB ncode1 (beginsS ncode1) 12=true:=by kernel_rfl
def ncode2:List In:=[⟨4,1,0,tst0⟩,⟨0,0,0,tst0⟩,⟨3,0,0,tst0⟩,⟨5,5,4,tst0⟩,⟨4,8,0,tst0⟩,⟨0,4,0,tst0⟩,⟨5,5,7,tst0⟩,⟨4,8,0,tst0⟩,⟨0,1,0,tst0⟩,⟨2,0,0,⟨⟨1,1,0⟩,1,⟨2,1,0⟩,0,⟨0,0,0⟩⟩⟩,⟨3,1,0,tst0⟩,⟨5,13,12,tst0⟩,⟨4,16,0,tst0⟩,⟨0,4,0,tst0⟩,⟨5,13,15,tst0⟩,⟨4,16,0,tst0⟩,⟨0,2,0,tst0⟩,⟨2,0,0,⟨⟨1,1,0⟩,0,⟨3,1,0⟩,0,⟨0,0,0⟩⟩⟩,⟨4,19,0,tst0⟩,⟨6,0,0,tst0⟩]
theorem nprog2:ProgIs ⟨#[49,49,49]⟩ ⟨#[97,65,46,42,98,66,91,120,62,65,120,93,46,42,99,91,120,60,66,120,93]⟩ ncode2:=progB_is (n:=30) (by kernel_rfl) (by kernel_rfl) (by kernel_rfl)
theorem nfree2:freeB ncode2 (beginsS ncode2) 12=true:=by kernel_rfl
def ncode3:List In:=[⟨5,2,1,tst0⟩,⟨4,6,0,tst0⟩,⟨0,0,0,tst0⟩,⟨3,0,0,tst0⟩,⟨5,10,5,tst0⟩,⟨4,13,0,tst0⟩,⟨0,0,0,tst0⟩,⟨3,1,0,tst0⟩,⟨5,10,9,tst0⟩,⟨4,13,0,tst0⟩,⟨0,1,0,tst0⟩,⟨5,10,12,tst0⟩,⟨4,13,0,tst0⟩,⟨0,2,0,tst0⟩,⟨4,15,0,tst0⟩,⟨6,0,0,tst0⟩]
theorem nprog3:ProgIs ⟨#[49,49,49]⟩ ⟨#[40,97,65,124,97,66,41,98,42,99]⟩ ncode3:=progB_is (n:=30) (by kernel_rfl) (by kernel_rfl) (by kernel_rfl)
theorem nfree3:freeB ncode3 (beginsS ncode3) 12=true:=by kernel_rfl
def ncode4:List In:=[⟨5,2,1,tst0⟩,⟨4,7,0,tst0⟩,⟨0,0,0,tst0⟩,⟨3,0,0,tst0⟩,⟨4,5,0,tst0⟩,⟨0,1,0,tst0⟩,⟨4,12,0,tst0⟩,⟨0,1,0,tst0⟩,⟨3,1,0,tst0⟩,⟨4,10,0,tst0⟩,⟨0,0,0,tst0⟩,⟨4,12,0,tst0⟩,⟨0,2,0,tst0⟩,⟨3,2,0,tst0⟩,⟨4,15,0,tst0⟩,⟨6,0,0,tst0⟩]
theorem nprog4:ProgIs ⟨#[49,49,49]⟩ ⟨#[40,97,65,32,98,124,98,66,32,97,41,99,67]⟩ ncode4:=progB_is (n:=30) (by kernel_rfl) (by kernel_rfl) (by kernel_rfl)
theorem nfree4:freeB ncode4 (beginsS ncode4) 12=true:=by kernel_rfl
def ncode5:List In:=[⟨4,1,0,tst0⟩,⟨0,0,0,tst0⟩,⟨3,0,0,tst0⟩,⟨5,5,4,tst0⟩,⟨4,10,0,tst0⟩,⟨0,1,0,tst0⟩,⟨2,0,0,⟨⟨1,1,0⟩,2,⟨2,1,0⟩,0,⟨0,0,0⟩⟩⟩,⟨5,5,8,tst0⟩,⟨5,10,9,tst0⟩,⟨4,15,0,tst0⟩,⟨0,2,0,tst0⟩,⟨2,0,0,⟨⟨1,1,0⟩,3,⟨2,1,0⟩,0,⟨0,0,0⟩⟩⟩,⟨5,5,13,tst0⟩,⟨5,10,14,tst0⟩,⟨4,15,0,tst0⟩,⟨6,0,0,tst0⟩]
theorem nprog5:ProgIs ⟨#[49,49,49]⟩ ⟨#[97,65,40,98,91,120,61,65,120,93,124,99,91,120,35,65,120,93,41,43]⟩ ncode5:=progB_is (n:=30) (by kernel_rfl) (by kernel_rfl) (by kernel_rfl)
theorem nfree5:freeB ncode5 (beginsS ncode5) 12=true:=by kernel_rfl
def ncode6:List In:=[⟨4,1,0,tst0⟩,⟨0,0,0,tst0⟩,⟨2,0,0,⟨⟨1,1,0⟩,1,⟨0,0,1⟩,0,⟨0,0,0⟩⟩⟩,⟨3,0,0,tst0⟩,⟨5,6,5,tst0⟩,⟨4,11,0,tst0⟩,⟨0,1,0,tst0⟩,⟨5,9,8,tst0⟩,⟨4,11,0,tst0⟩,⟨0,1,0,tst0⟩,⟨4,11,0,tst0⟩,⟨0,2,0,tst0⟩,⟨2,0,0,⟨⟨1,0,0⟩,0,⟨2,0,0⟩,1,⟨0,0,9⟩⟩⟩,⟨3,1,0,tst0⟩,⟨4,15,0,tst0⟩,⟨6,0,0,tst0⟩]
theorem nprog6:ProgIs ⟨#[49,49,49]⟩ ⟨#[97,65,91,120,62,49,93,98,123,48,50,125,99,66,91,116,60,65,116,43,57,93]⟩ ncode6:=progB_is (n:=30) (by kernel_rfl) (by kernel_rfl) (by kernel_rfl)
theorem nfree6:freeB ncode6 (beginsS ncode6) 12=true:=by kernel_rfl
def ncode7:List In:=[⟨5,2,1,tst0⟩,⟨4,6,0,tst0⟩,⟨0,0,0,tst0⟩,⟨1,20,0,tst0⟩,⟨3,0,0,tst0⟩,⟨4,13,0,tst0⟩,⟨0,0,0,tst0⟩,⟨1,20,0,tst0⟩,⟨3,0,0,tst0⟩,⟨4,10,0,tst0⟩,⟨0,4,0,tst0⟩,⟨1,20,0,tst0⟩,⟨4,13,0,tst0⟩,⟨0,1,0,tst0⟩,⟨1,20,0,tst0⟩,⟨2,0,0,⟨⟨1,1,0⟩,0,⟨2,1,0⟩,3,⟨0,0,2⟩⟩⟩,⟨3,1,0,tst0⟩,⟨4,18,0,tst0⟩,⟨6,0,0,tst0⟩]
theorem nprog7:ProgIs ⟨#[49,49,49]⟩ ⟨#[40,97,65,124,97,65,46,41,98,66,91,120,60,65,120,42,50,93,64,50,48]⟩ ncode7:=progB_is (n:=30) (by kernel_rfl) (by kernel_rfl) (by kernel_rfl)
theorem nfree7:freeB ncode7 (beginsS ncode7) 12=true:=by kernel_rfl
def ncode8:List In:=[⟨4,1,0,tst0⟩,⟨0,2,0,tst0⟩,⟨3,0,0,tst0⟩,⟨5,5,4,tst0⟩,⟨4,13,0,tst0⟩,⟨0,4,0,tst0⟩,⟨5,8,7,tst0⟩,⟨4,13,0,tst0⟩,⟨0,4,0,tst0⟩,⟨5,11,10,tst0⟩,⟨4,13,0,tst0⟩,⟨0,4,0,tst0⟩,⟨4,13,0,tst0⟩,⟨0,2,0,tst0⟩,⟨2,0,0,⟨⟨1,1,0⟩,2,⟨2,1,0⟩,2,⟨0,0,1⟩⟩⟩,⟨3,1,0,tst0⟩,⟨4,17,0,tst0⟩,⟨6,0,0,tst0⟩]
theorem nprog8:ProgIs ⟨#[49,49,49]⟩ ⟨#[99,65,46,123,48,51,125,99,66,91,120,61,65,120,45,49,93]⟩ ncode8:=progB_is (n:=30) (by kernel_rfl) (by kernel_rfl) (by kernel_rfl)
theorem nfree8:freeB ncode8 (beginsS ncode8) 12=true:=by kernel_rfl
def ncode9:List In:=[⟨4,1,0,tst0⟩,⟨0,0,0,tst0⟩,⟨1,12,0,tst0⟩,⟨3,0,0,tst0⟩,⟨5,6,5,tst0⟩,⟨4,10,0,tst0⟩,⟨0,4,0,tst0⟩,⟨1,12,0,tst0⟩,⟨5,6,9,tst0⟩,⟨4,10,0,tst0⟩,⟨0,0,0,tst0⟩,⟨1,12,0,tst0⟩,⟨2,0,0,⟨⟨1,1,0⟩,1,⟨2,1,0⟩,0,⟨0,0,0⟩⟩⟩,⟨3,1,0,tst0⟩,⟨4,15,0,tst0⟩,⟨6,0,0,tst0⟩]
theorem nprog9:ProgIs ⟨#[49,49,49]⟩ ⟨#[97,65,46,42,97,66,91,120,62,65,120,93,64,49,50]⟩ ncode9:=progB_is (n:=30) (by kernel_rfl) (by kernel_rfl) (by kernel_rfl)
theorem nfree9:freeB ncode9 (beginsS ncode9) 12=true:=by kernel_rfl
def ncode10:List In:=[⟨4,1,0,tst0⟩,⟨0,4,0,tst0⟩,⟨4,3,0,tst0⟩,⟨6,0,0,tst0⟩]
theorem nprog10:ProgIs ⟨#[49,49,49]⟩ ⟨#[46]⟩ ncode10:=progB_is (n:=30) (by kernel_rfl) (by kernel_rfl) (by kernel_rfl)
def pickK (c n:Int):Int:=(if c<0 then -(c+1) else c) % n
theorem pickK_lt {c n:Int} (hn:0<n):0≤pickK c n∧pickK c n<n:=⟨Int.emod_nonneg _ (by omega),Int.emod_lt_of_pos _ hn⟩
theorem pickK_any (c n:Int) (w:World) (hc:In64 c) (hn:0<n) (hn2:n≤1000) :
  Calls Tryz.prog 14 #[.int .i64 c,.int .i64 n] w fun e w'=>e=.returned (.int .i64 (pickK c n))∧w'=w:=by
 obtain ⟨h1,h2⟩:=hc
 by_cases hneg:c<0
 ·have e1:(-(c+1)).tmod n=pickK c n:=by unfold pickK;rw [if_pos hneg,Int.tmod_eq_emod_of_nonneg (by omega)]
  have hn0:¬n=0:=by omega
  generalize pickK c n=p at *
  go_enter Tryz.func14,Tryz.ntmps14
  go_wp2
  go_ret
  exact ⟨by first|rfl|(rw [←e1];rfl),rfl⟩
 ·have e1:c.tmod n=pickK c n:=by unfold pickK;rw [if_neg hneg,Int.tmod_eq_emod_of_nonneg (by omega)]
  have hn0:¬n=0:=by omega
  generalize pickK c n=p at *
  go_enter Tryz.func14,Tryz.ntmps14
  go_wp2
  go_ret
  exact ⟨by first|rfl|(rw [←e1];rfl),rfl⟩
end Go.Proofs.YtcboiapggnmpfabGreat
