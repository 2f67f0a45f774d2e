import Derived.Test.YtcboiapggnmpfaaGreatDoorQaf
import Derived.Test.YtcboiapggnmpfaaGreatDoorQae
import Derived.Test.YtcboiapggnmpfaaGreatDoorQbc
import Derived.Deep.QuietTactic
import Derived.Test.YtcboiapggnmpfaaGreatDoorQbu
namespace Go.Proofs.YtcboiapggnmpfaaGreatDoor
set_option maxRecDepth 100000
set_option maxHeartbeats 8000000
set_option linter.unusedSimpArgs false
set_option linter.unusedVariables false
open Go.RowKit
theorem Tryz.kuMt:(Tryz.prog.underlying 35).bind dFields=some [(3,0),(3,1),(33,2)]:=by kernel_rfl
theorem Tryz.kuA4:Tryz.prog.underlying 33=some (.array 4 3):=by kernel_rfl
theorem Tryz.kcA4:Tryz.prog.cellsOf 33=4:=by kernel_rfl
theorem Tryz.kcMt:Tryz.prog.cellsOf 35=6:=by kernel_rfl
structure MtOk (m:Mt):Prop where
 f:In64 m.first
 l:In64 m.last
 h0:In64 m.h0
 h1:In64 m.h1
 h2:In64 m.h2
 h3:In64 m.h3
def mtL (m:Mt):List Lit:=[.int .i64 m.first,.int .i64 m.last,.int .i64 m.h0,.int .i64 m.h1,.int .i64 m.h2,.int .i64 m.h3]
theorem kl_mt {m:Mt} (h:MtOk m) (D:Nat):Tryz.prog.keyLits (D+3) 35 (mtC m)=some (mtL m):=by
 have e4:Tryz.prog.keyLits (D+2) 33 [.int .i64 m.h0,.int .i64 m.h1,.int .i64 m.h2,.int .i64 m.h3]=some [.int .i64 m.h0,.int .i64 m.h1,.int .i64 m.h2,.int .i64 m.h3]:=by
  rw [kl_array (D:=D+1) Tryz.kuA4 (by rw [Tryz.kcA4];rfl)]
  have er:List.range 4=[0,1,2,3]:=rfl
  rw [er,Tryz.kcInt]
  simp [kl_int Tryz.kuInt h.h0,kl_int Tryz.kuInt h.h1,kl_int Tryz.kuInt h.h2,kl_int Tryz.kuInt h.h3]
 rw [kl_struct (D:=D+2) Tryz.kuMt (by rw [Tryz.kcMt];rfl)]
 simp [Tryz.kcInt,Tryz.kcA4,mtC,kl_int Tryz.kuInt h.f,kl_int Tryz.kuInt h.l,e4,mtL]
theorem Tryz.ktMt:Tryz.prog.keyTypeAt 3 35=true:=by kernel_rfl
theorem formed_mt (m:Mt):(Value.agg (mtC m).toArray).formed Tryz.prog 35=true:=by
 obtain ⟨dd,hu,hd⟩:=Option.map_eq_some_iff.1 (show (Tryz.prog.underlying 35).map TypeDesc.isRow=some true by kernel_rfl)
 exact formed_of hu hd (by rw [Tryz.kcMt];rfl)
theorem mtL_inj {u t:Mt}:mtL u=mtL t↔u=t:=by
 obtain ⟨a,b,c,d,e,f⟩:=u
 obtain ⟨a',b',c',d',e',f'⟩:=t
 simp [mtL]
theorem equal_mt {u t:Mt} (hu:MtOk u) (ht:MtOk t) (w:World):(Op.equal 35 (.agg (mtC u).toArray) (.agg (mtC t).toArray)).run Tryz.prog w=.ok (decide (u=t)) w:=by
 obtain ⟨r,hr,hiff⟩:=run_equalIn_deep 9997 3 35 Tryz.ktMt w 3 3 (.agg (mtC u).toArray) (.agg (mtC t).toArray) (mtL u) (mtL t) (formed_mt u) (formed_mt t) (kl_mt hu 0) (kl_mt ht 0)
 have e:r=decide (u=t):=by
  rw [Bool.eq_iff_iff,hiff,mtL_inj]
  simp
 rw [←e]
 exact hr
theorem Tryz.egMt:Tryz.prog.eqGuardType Tryz.prog.depth 35=false:=by kernel_rfl
theorem exec_neqM {o:Oper} {x y:Operand} {ty:TypeId} (ho:o.op=.binOp .neq 35 x y ty) {a:Act} {u t:Mt} (hx:a.eval x=.agg (mtC u).toArray) (hy:a.eval y=.agg (mtC t).toArray) (hu:MtOk u) (ht:MtOk t) (w:World) :
  (execOp a.eval o).run Tryz.prog w=.ok (.value (.bool (!decide (u=t)))) w:=by
 unfold execOp
 have he:(eqGuard .neq 35 x y (.agg (mtC u).toArray) (.agg (mtC t).toArray)).run Tryz.prog w=.ok () w:=by
  simp [eqGuard,Tryz.egMt]
 have h2:(Op.equal 35 (.agg (mtC u).toArray) (.agg (mtC t).toArray)).run Tryz.prog w=.ok (decide (u=t)) w:=equal_mt hu ht w
 simp [ho,hx,hy,he,binOp,h2]
theorem exec_neqS {o:Oper} {x y:Operand} {ty:TypeId} (ho:o.op=.binOp .neq 35 x y ty) {a:Act} {u:Mt} (hx:a.eval x=.agg (mtC u).toArray) (hy:a.eval y=.agg (mtC u).toArray) (hu:MtOk u) (w:World) :
  (execOp a.eval o).run Tryz.prog w=.ok (.value (.bool false)) w:=by
 have:=exec_neqM ho hx hy hu hu w
 simpa using this
theorem Tryz.rowMt':(Tryz.prog.underlying 35).map TypeDesc.isRow=some true:=by kernel_rfl
def MtsP (w:World) (p:Option Addr) (l:List Mt):Prop:=¬l=[]→∃g,p=some ⟨g,0,none⟩∧g<w.heap.size∧∀(i:Nat) (x:Mt),l[i]? = some x→w.rangeAt g (i*6) (mtC x)
theorem MtsP.nw {w w':World} {p:Option Addr} {l:List Mt} (h:MtsP w p l) (k:Nw w w'):MtsP w' p l:=by
 intro hne
 obtain ⟨g,e,hl,hc⟩:=h hne
 exact ⟨g,e,Nat.lt_of_lt_of_le hl k.size,fun i x hx j v hv=>(k.cell (p:=⟨g,i*6+j,none⟩) hl (fun h=>h)).trans (hc i x hx j v hv)⟩
theorem sameM_same (p p':Option Addr) (cap cap':Nat) (l:List Mt) (w:World) (hp:MtsP w p l) (hp':MtsP w p' l) (hm:l.length≤800000000000) (hok:∀x∈l,MtOk x) :
  Calls Tryz.prog 17 #[.slice p l.length cap,.slice p' l.length cap'] w fun e w'=>e=.returned (.bool true)∧Nw w w':=by
 go_enter Tryz.func17,Tryz.ntmps17
 go_wp2
 go_loopg [5] l.length (fun m v5 wr=>∃i:Nat,v5=.int .i64 i∧m=l.length - i∧i≤l.length∧MtsP wr p l∧MtsP wr p' l∧Nw w wr)
 case atStart=>exact ⟨0,rfl,rfl,by omega,hp,hp',Kp.refl _ _⟩
 case round =>
  obtain ⟨i,rfl,hm',hi,hc,hc',hnw⟩:=hrel
  by_cases hi':i<l.length
  ·obtain ⟨x,hx⟩:∃x,l[i]? = some x:=⟨l[i],by simp [hi']⟩
   have hne:¬l=[]:=by intro e;rw [e] at hx;simp at hx
   obtain ⟨g,rfl,hgl,hcr⟩:=hc hne
   obtain ⟨g',rfl,hgl',hcr'⟩:=hc' hne
   have HR:Hid (∀W,Nw wr W→W.rangeAt g (i*6) (mtC x)):=fun W k j v hv=>(k.cell (p:=⟨g,i*6+j,none⟩) hgl (fun h=>h)).trans (hcr i x hx j v hv)
   have HR':Hid (∀W,Nw wr W→W.rangeAt g' (i*6) (mtC x)):=fun W k j v hv=>(k.cell (p:=⟨g',i*6+j,none⟩) hgl' (fun h=>h)).trans (hcr' i x hx j v hv)
   have hmo:MtOk x:=hok x (List.mem_of_getElem? hx)
   have HMO:Hid (MtOk x):=hmo
   have HP:Hid (MtsP wr (some ⟨g,0,none⟩) l):=hc
   have HP':Hid (MtsP wr (some ⟨g',0,none⟩) l):=hc'
   have HK:Hid (Nw w wr):=hnw
   obtain ⟨dd,hu,hd⟩:=Option.map_eq_some_iff.1 Tryz.rowMt'
   clear hc hc' hnw hcr hcr' hp hp' hok hmo
   go_wp2
   refine wp_region_held_drew (S:=fun W=>Nw wr W) (by kernel_rfl) ((Kp.refl _ _).drew) (fun hHeld => ?_)
   refine tM 0 rfl (fun W hSW=>by (try dsimp only at hSW);go_simp;rw []) hHeld ?_
   refine tM 1 rfl (fun W hSW=>by (try dsimp only at hSW);go_simp;rw []) hHeld ?_
   refine tM 2 rfl (fun W hSW=>by (try dsimp only at hSW);go_simp;rw []) hHeld ?_
   refine tN (i:=3) (v:=_) rfl (yieldsIf_load_mid (by rfl) 35 _ rfl g (i*6) rfl (mtC x) dd HR.out hu hd (size_mt x)) hHeld ?_
   refine tM 4 rfl (fun W hSW=>by (try dsimp only at hSW);go_simp;rw []) hHeld ?_
   refine tM 5 rfl (fun W hSW=>by (try dsimp only at hSW);go_simp;rw []) hHeld ?_
   refine tM 6 rfl (fun W hSW=>by (try dsimp only at hSW);go_simp;rw []) hHeld ?_
   refine tN (i:=7) (v:=_) rfl (yieldsIf_load_mid (by rfl) 35 _ rfl g' (i*6) rfl (mtC x) dd HR'.out hu hd (size_mt x)) hHeld ?_
   refine tN (i:=8) (v:=.bool false) rfl (Or.inl ⟨by rfl,fun W hSW=>exec_neqS rfl rfl rfl HMO.out W⟩) hHeld ?_
   refine wpAnyH_done (by kernel_rfl) ?_ _
   have kw2:Hid (Nw wr wr.drew):=(Kp.refl _ _).drew
   go_wp2
   go_roundg (l.length - (i+1))
   case measure=>omega
   case rel=>exact ⟨i+1,by simp,rfl,by omega,HP.out.nw kw2.out,HP'.out.nw kw2.out,HK.out.trans kw2.out⟩
  ·go_wp2
   go_ret
   exact ⟨rfl,hnw⟩
open Value (slice)
def outS (sc:List Int) (l:List In) (bs:List Nat) (live found:Int):Rst→List Evt→List (List Mt)
 | _,[]=>[]
 | r,e::L=>(feedS sc l bs live found r e).2.1::outS sc l bs live found (feedS sc l bs live found r e).1 L
theorem outS_snoc (sc:List Int) (l:List In) (bs:List Nat) (live found:Int) (e:Evt):∀(L:List Evt) (r:Rst),outS sc l bs live found r (L++[e])=outS sc l bs live found r L++[(feedS sc l bs live found (runS sc l bs live found r L) e).2.1]:=by
 intro L
 induction L with
 | nil=>intro r;rfl
 | cons x L ih=>intro r;simp only [List.cons_append,outS,ih];rfl
theorem runS_snoc (sc:List Int) (l:List In) (bs:List Nat) (live found:Int) (r:Rst) (L:List Evt) (e:Evt):runS sc l bs live found r (L++[e])=(feedS sc l bs live found (runS sc l bs live found r L) e).1:=by
 unfold runS;rw [List.foldl_append];rfl
theorem outS_len (sc:List Int) (l:List In) (bs:List Nat) (live found:Int):∀(L:List Evt) (r:Rst),(outS sc l bs live found r L).length=L.length:=by
 intro L
 induction L with
 | nil=>intro r;rfl
 | cons x L ih=>intro r;simp [outS,ih]
structure Mds (w:World) (B:Nat) (v:Value) (hs:List (Value×List Mt)):Prop where
 row:w.ownsRow B 30 1 v hs.length (hs.map (·.1))
 each:∀x∈hs,w.ownsRow B 35 6 x.1 x.2.length (mtsC x.2)
theorem Mds.kp {S:Nat→Prop} {w w':World} {B:Nat} {v:Value} {hs:List (Value×List Mt)} (h:Mds w B v hs) (k:Kp S w w') (hS:∀b,B≤b→b<w.heap.size→¬S b):Mds w' B v hs :=
 ⟨owns_kp h.row k (fun b hb=>hS b (h.row.lt b hb).1 (h.row.lt b hb).2),fun x hx=>owns_kp (h.each x hx) k (fun b hb=>hS b ((h.each x hx).lt b hb).1 ((h.each x hx).lt b hb).2)⟩
theorem Mds.base {w:World} {B B':Nat} {v:Value} {hs:List (Value×List Mt)} (h:Mds w B v hs) (hb:B'≤B):Mds w B' v hs :=
 ⟨ownsBaseX h.row hb,fun x hx=>ownsBaseX (h.each x hx) hb⟩
theorem Mds.more {w1 w':World} {B:Nat} {v v' hv:Value} {hs:List (Value×List Mt)} {l:List Mt} (h:Mds w1 B v hs) (h0:0<B) (hg:w1.grownBy w' v.ownBlock) (ho:w'.ownsRow B 30 1 v' (hs.length+1) (hs.map (·.1)++[hv])) (hl:w1.ownsRow B 35 6 hv l.length (mtsC l)):Mds w' B v' (hs++[(hv,l)]):=by
 have kk:Kp (fun b=>b=0∨v.ownBlock=some b) w1 w':=(Kp.refl _ w1).grown hg (fun b hb=>Or.inr (Or.inr hb))
 refine ⟨?_,?_⟩
 ·have e1:(hs++[(hv,l)]).length=hs.length+1:=by simp
  rw [e1,List.map_append];exact ho
 ·intro x hx
  rcases List.mem_append.1 hx with e|e
  ·exact ownsRow_apart (R:=0) (h.each x e) h.row (by decide) h0 kk
  ·simp only [List.mem_singleton] at e
   subst e
   exact ownsRow_apart (R:=0) hl h.row (by decide) h0 kk
theorem Tryz.infoSm:(Tryz.prog.info? 30).map (fun i=>(i.zero,i.size,i.bytes))=some (some (.slice none 0 0),1,24):=by kernel_rfl
theorem Tryz.underSM:Tryz.prog.underlying 27=some (.slice 30):=by kernel_rfl
def EvsP (w:World) (p:Option Addr) (l:List Evt):Prop:=¬l=[]→∃g,p=some ⟨g,0,none⟩∧g<w.heap.size∧∀(i:Nat) (x:Evt),l[i]? = some x→w.rangeAt g (i*5) (evC5 x)
theorem EvsP.kp {S:Nat→Prop} {w w':World} {p:Option Addr} {l:List Evt} (h:EvsP w p l) (k:Kp S w w') (hS:∀g,p=some ⟨g,0,none⟩→¬S g):EvsP w' p l:=by
 intro hne
 obtain ⟨g,e,hl,hc⟩:=h hne
 exact ⟨g,e,Nat.lt_of_lt_of_le hl k.size,fun i x hx j v hv=>(k.cell (p:=⟨g,i*5+j,none⟩) hl (hS g e)).trans (hc i x hx j v hv)⟩
theorem RunM.kq {S:Nat→Prop} {w w':World} {A:Nat} {sc:List Int} {live found:Int} {g cap:Nat} {l:List In} {bv:Value} {bs:List Nat} {wv:Value} {ws:List Thr} {count:Nat} {last:Int} {spent:Bool} (h:RunM w A sc live found g cap l bv bs wv ws count last spent) (k:Kp S w w') (hA:¬S A) (hg:¬S g) (hb:∀b,bv.ownBlock=some b→¬S b) (hw:∀b,wv.ownBlock=some b→¬S b):RunM w' A sc live found g cap l bv bs wv ws count last spent :=
 ⟨range_kp h.s h.lt k hA,(k.cell (p:=⟨A,5,none⟩) h.lt hA).trans h.l0,(k.cell (p:=⟨A,6,none⟩) h.lt hA).trans h.l1,(k.cell (p:=⟨A,7,none⟩) h.lt hA).trans h.cd,(k.cell (p:=⟨A,8,none⟩) h.lt hA).trans h.bg,(k.cell (p:=⟨A,9,none⟩) h.lt hA).trans h.wt,(k.cell (p:=⟨A,10,none⟩) h.lt hA).trans h.ct,(k.cell (p:=⟨A,11,none⟩) h.lt hA).trans h.ls,(k.cell (p:=⟨A,12,none⟩) h.lt hA).trans h.sp,fun p=>(k.frozen (p:=⟨A,p,none⟩) h.lt hA).trans (h.z p),h.code.kp k hg,owns_kp h.bo k hb,owns_kp h.wo k hw,h.gA,h.bA,h.wA⟩
theorem RunK.kq {w w':World} {B:Nat} {v:Value} {n:Nat} {xs:List Value} {A:Nat} {sc:List Int} {live found:Int} {g cap:Nat} {l:List In} {bv:Value} {bs:List Nat} {r:Rst} (h:RunK w A sc live found g cap l bv bs r) (ho:w.ownsRow B 30 1 v n xs) (k:Kp (fun b=>v.ownBlock=some b) w w') (hA:A<B) (hg:g<B):RunK w' A sc live found g cap l bv bs r:=by
 obtain ⟨⟨wv,hm⟩,hn,hk⟩:=h
 refine ⟨⟨wv,hm.kq k (fun e => ?_) (fun e => ?_) (fun b hb e => ?_) (fun b hb e => ?_)⟩,hn,hk⟩
 ·have:=(ho.lt A e).1;omega
 ·have:=(ho.lt g e).1;omega
 ·exact absurd (owns_types hm.bo ho hb e) (by decide)
 ·exact absurd (owns_types hm.wo ho hb e) (by decide)
structure FedM (sc:List Int) (l:List In) (bs:List Nat) (w:World) (A g cap:Nat) (bv:Value) (p:Option Addr) (L:List Evt) (r0:Rst) (i:Nat) (v:Value) (hs:List (Value×List Mt)) (wr:World):Prop where
 k:RunK wr A sc 200 200 g cap l bv bs (runS sc l bs 200 200 r0 (L.take i))
 e:EvsP wr p L
 m:Mds wr w.heap.size v hs
 o:hs.map (·.2)=outS sc l bs 200 200 r0 (L.take i)
 f:Kp (fun b=>b=A) w wr
theorem fed_any (sc:List Int) (l:List In) (bs:List Nat) (A g cap:Nat) (bv:Value) (p:Option Addr) (ec:Nat) (L:List Evt) (r0:Rst) (w:World) (hc:RunC sc 200 200 l bs) (hk:RunK w A sc 200 200 g cap l bv bs r0) (he:EvsP w p L) (hpA:∀g,p=some ⟨g,0,none⟩→¬g=A) (hge:∀g,p=some ⟨g,0,none⟩→g<w.heap.size) (hL:L.length≤1000) (hev:∀e∈L,EvOk e)
  (hok:∀i e,L[i]? = some e→(feedS sc l bs 200 200 (runS sc l bs 200 200 r0 (L.take i)) e).2.2=0∧(runS sc l bs 200 200 r0 (L.take i)).count≤1000000) :
  Calls Tryz.prog 16 #[.pointer (some ⟨A,0,none⟩),.slice p L.length ec] w fun e w'=>∃v hs,e=.returned (.tuple #[v,.bool (decide (((runS sc l bs 200 200 r0 L).count:Int)=(L.length:Int)))])∧Mds w' w.heap.size v hs∧hs.map (·.2)=outS sc l bs 200 200 r0 L∧RunK w' A sc 200 200 g cap l bv bs (runS sc l bs 200 200 r0 L)∧Kp (fun b=>b=A) w w':=by
 obtain ⟨i0,hi0,hz0,hz1,hz2⟩:=info_parts Tryz.infoSm
 have hAl:A<w.heap.size:=by obtain ⟨⟨_,h⟩,_,_⟩:=hk;exact h.lt
 have HC:Hid (RunC sc 200 200 l bs):=hc
 have HOK:Hid (∀i e,L[i]? = some e→(feedS sc l bs 200 200 (runS sc l bs 200 200 r0 (L.take i)) e).2.2=0∧(runS sc l bs 200 200 r0 (L.take i)).count≤1000000):=hok
 have HEV:Hid (∀e∈L,EvOk e):=hev
 have HPA:Hid (∀g,p=some ⟨g,0,none⟩→¬g=A):=hpA
 have hgl0:g<w.heap.size:=by obtain ⟨⟨_,h⟩,_,_⟩:=hk;exact h.code.lt
 have HGE:Hid (∀ge,p=some ⟨ge,0,none⟩→ge<w.heap.size):=hge
 have HS0:Hid (FedM sc l bs w A g cap bv p L r0 0 (.slice none 0 0) [] w):=⟨hk,he,⟨World.ownsRow_nil _ _ _ _,fun x hx=>by simp at hx⟩,rfl,Kp.refl _ _⟩
 clear hc hk he hok hev hpA hge
 go_enter Tryz.func16,Tryz.ntmps16
 go_wp2
 go_loopg [6,7] L.length (fun m v6 v7 wr=>∃(i:Nat) (hs:List (Value×List Mt)),v7=.int .i64 i∧m=L.length - i∧i≤L.length∧hs.length=i∧FedM sc l bs w A g cap bv p L r0 i v6 hs wr)
 case atStart=>exact ⟨0,[],rfl,rfl,by omega,rfl,HS0.out⟩
 case round =>
  obtain ⟨i,hs,rfl,hm,hil,hhl,hF⟩:=hrel
  have HM:Hid (_=L.length - i):=hm
  have HF:Hid (FedM sc l bs w A g cap bv p L r0 i u6 hs wr):=hF
  have HHL:Hid (hs.length=i):=hhl
  clear hm HS0 hhl
  by_cases hi:i<L.length
  ·obtain ⟨x,hx⟩:∃x,L[i]? = some x:=⟨L[i],by simp [hi]⟩
   have hne:¬L=[]:=by intro e;rw [e] at hx;simp at hx
   obtain ⟨ge,rfl,hgl,hce⟩:=hF.e hne
   obtain ⟨hz,hct⟩:=HOK.out i x hx
   have HTK:Hid (L.take (i+1)=L.take i++[x]):=by show _=_;rw [List.take_add_one,hx];rfl
   have HFD:Hid (Calls Tryz.prog 22 #[.pointer (some ⟨A,0,none⟩),.agg #[.int .i64 x.at',.int .i64 x.kind,.int .i64 x.x,.int .i64 x.y,.int .i64 x.z]] wr (FeedPost wr A sc 200 200 g cap l bv bs (feedS sc l bs 200 200 (runS sc l bs 200 200 r0 (L.take i)) x))):=feedX_any A sc 200 200 g cap l bv bs _ x wr HC.out hF.k (HEV.out x (List.mem_of_getElem? hx)) hct
   have HR1:Hid (runS sc l bs 200 200 r0 (L.take (i+1))=(feedS sc l bs 200 200 (runS sc l bs 200 200 r0 (L.take i)) x).1):=by show _=_;rw [HTK.out,runS_snoc]
   have HO1:Hid (outS sc l bs 200 200 r0 (L.take (i+1))=outS sc l bs 200 200 r0 (L.take i)++[(feedS sc l bs 200 200 (runS sc l bs 200 200 r0 (L.take i)) x).2.1]):=by show _=_;rw [HTK.out,outS_snoc]
   have HZ:Hid ((feedS sc l bs 200 200 (runS sc l bs 200 200 r0 (L.take i)) x).2.2=0):=hz
   generalize feedS sc l bs 200 200 (runS sc l bs 200 200 r0 (L.take i)) x=P at HFD HR1 HO1 HZ
   have d0:=hce i x hx 0 _ rfl
   have d1:=hce i x hx 1 _ rfl
   have d2:=hce i x hx 2 _ rfl
   have d3:=hce i x hx 3 _ rfl
   have d4:=hce i x hx 4 _ rfl
   simp only [Nat.add_zero] at d0
   have hil2:(i:Int)<L.length:=by omega
   clear hF hce hz hct hx hne
   go_wp2_with fail
   refine HFD.out.mono ?_
   rintro e3 w3 ⟨mv,rfl,hO,hk3,kk,_⟩
   obtain ⟨mp,mc,rfl⟩:=ownsLenX hO
   have HO:Hid (w3.ownsRow wr.heap.size 35 6 (.slice mp P.2.1.length mc) P.2.1.length (mtsC P.2.1)):=hO
   have HK3:Hid (RunK w3 A sc 200 200 g cap l bv bs P.1):=hk3
   have KK:Hid (Kp (fun b=>b=A) wr w3):=kk
   have hz3:=HZ.out
   clear hO hk3 kk HFD d0 d1 d2 d3 d4
   rw [hz3]
   have M3:Hid (Mds w3 w.heap.size u6 hs):=HF.out.m.kp KK.out (by intro b hb _ e;omega)
   have hwr:w.heap.size≤wr.heap.size:=HF.out.f.size
   have hw3:wr.heap.size≤w3.heap.size:=KK.out.size
   go_wp2_with (at_builtin;refine wpList_append_lies _ rfl _ _ 27 rfl w.heap.size 30 i0 (.slice none 0 0) 1 24 Tryz.underSM hi0 hz0 hz1 hz2 rfl (by decide) _ _ _ rfl (M3.out.row.alloc _) ⟨w3.heap.size,0,none⟩ 1 1 [.slice mp P.2.1.length mc] rfl rfl ?c1 ?c2 (by decide) ?c3 ?c4 ?c5 _ rfl ?_)
   case c1=>exact news_one _ (by simp) _ _
   case c2 =>
    intro u hu
    simp at hu
    subst hu
    rfl
   case c3=>have:=HHL.out;unfold maxLen;omega
   case c4=>have:=HHL.out;omega
   case c5=>simp;omega
   intro g4 cap4 w4 hown4 hgrow4 hat4 hlt4
   have k34:Nw w3 (w3.alloc (.cells #[.slice mp P.2.1.length mc] 30)):=(Kp.refl _ _).alloc _
   have M4:Hid (Mds w4 w.heap.size (.slice (some ⟨g4,0,none⟩) (hs.length+1) cap4) (hs++[(.slice mp P.2.1.length mc,P.2.1)])):=(M3.out.kp k34 (fun _ _ _ h=>h)).more (by omega) hgrow4 hown4 (ownsBaseX (owns_kp HO.out k34 (fun _ _ h=>h)) hwr)
   have k4:Kp (fun b=>u6.ownBlock=some b) w3 w4:=(k34.mono (fun _ _ h=>False.elim h)).grown hgrow4 (fun b hb=>Or.inr hb)
   have F4:Hid (FedM sc l bs w A g cap bv (some ⟨ge,0,none⟩) L r0 (i+1) (.slice (some ⟨g4,0,none⟩) (hs.length+1) cap4) (hs++[(.slice mp P.2.1.length mc,P.2.1)]) w4):=by
    have hge:ge<w.heap.size:=HGE.out ge rfl
    refine ⟨by rw [HR1.out];exact HK3.out.kq M3.out.row k4 hAl hgl0,?_,M4.out,?_,?_⟩
    ·refine (HF.out.e.kp KK.out HPA.out).kp k4 ?_
     intro g' e' e2
     have:=(M3.out.row.lt g' e2).1
     have:=HGE.out g' e'
     omega
    ·rw [HO1.out,←HF.out.o];simp
    ·exact (HF.out.f.trans' KK.out (fun _ _ h=>h)).trans' k4 (fun b hb e2=>by have:=(M3.out.row.lt b e2).1;omega)
   have HL4:Hid ((hs++[(slice mp P.2.1.length mc,P.2.1)]).length=i+1):=by show _=_;simp [HHL.out]
   clear hown4 hgrow4 hat4 k4
   go_wp2
   go_roundg (L.length - (i+1))
   case measure=>rw [HM.out];omega
   case rel=>exact ⟨i+1,_,by simp,rfl,by omega,HL4.out,F4.out⟩
  ·have ei:i=L.length:=by omega
   have HT:Hid (L.take i=L):=by show _=_;rw [ei];simp
   obtain ⟨wv,hR⟩:=hF.k.m
   have HCT:Hid (Calls Tryz.prog 23 #[.pointer (some ⟨A,0,none⟩)] wr fun e w'=>e=.returned (.int .i64 ((runS sc l bs 200 200 r0 L).count:Int))∧w'=wr):=by
    have:=countX_any A _ wr hR.ct
    rw [HT.out] at this
    exact this
   have hil2:¬(i:Int)<L.length:=by omega
   clear hR hF
   go_wp2_with fail
   refine HCT.out.mono ?_
   rintro e4 w4 ⟨rfl,rfl⟩
   go_wp2
   go_ret2
   have q1:=HF.out.k
   have q2:=HF.out.o
   rw [HT.out] at q1 q2
   exact ⟨_,hs,rfl,HF.out.m,q2,q1,HF.out.f⟩
theorem goes_snoc {sc:List Int} {e:Evt}:∀(l:List Evt) (now t:Int),GoesE sc now l→(e.kind=0∨e.kind=1∨e.kind=2)→goodE sc e=true→(l.foldl (fun _ x=>x.at') now)≤e.at'→GoesE sc now (l++[e]):=by
 intro l
 induction l with
 | nil=>intro now t _ hk hg ht;exact ⟨hk,hg,ht,trivial⟩
 | cons x l ih =>
  intro now t h hk hg ht
  obtain ⟨a,b,c,d⟩:=h
  exact ⟨a,b,c,ih x.at' t d hk hg ht⟩
theorem str_last (ns:List Int):∀i,(strTo ns i).1.foldl (fun _ x=>x.at') 0=(strTo ns i).2:=by
 intro i
 induction i with
 | zero=>rfl
 | succ i ih =>
  unfold strTo
  split
  ·exact ih
  ·simp [List.foldl_append,evAt]
theorem s111_k:hasK (bI ⟨#[49,49,49]⟩) 0=true∧hasK (bI ⟨#[49,49,49]⟩) 1=true∧hasK (bI ⟨#[49,49,49]⟩) 2=true:=⟨by kernel_rfl,by kernel_rfl,by kernel_rfl⟩
theorem s111_f:hasFd (bI ⟨#[49,49,49]⟩) 0 1=true∧hasFd (bI ⟨#[49,49,49]⟩) 1 1=true∧hasFd (bI ⟨#[49,49,49]⟩) 2 1=true:=⟨by kernel_rfl,by kernel_rfl,by kernel_rfl⟩
theorem str_good (now n:Int) (h0:0≤now) (h1:now≤100000):goodE (bI ⟨#[49,49,49]⟩) (evAt now n)=true∧((evAt now n).kind=0∨(evAt now n).kind=1∨(evAt now n).kind=2):=by
 have hk:=pickK_lt (c:=n) (n:=3) (by omega)
 have hp:=pickK_lt (c:=n.tdiv 3) (n:=5) (by omega)
 have hk3:(evAt now n).kind=0∨(evAt now n).kind=1∨(evAt now n).kind=2:=by show pickK n 3=0∨pickK n 3=1∨pickK n 3=2;omega
 refine ⟨?_,hk3⟩
 have ha:0≤(evAt now n).at'∧(evAt now n).at'≤1000000000000000:=by show 0≤now+pickK (n.tdiv 3) 5∧now+pickK (n.tdiv 3) 5≤_;omega
 have hy:(evAt now n).y=0∧(evAt now n).z=0:=⟨rfl,rfl⟩
 generalize evAt now n=e at *
 obtain ⟨a,k,x,y,z⟩:=e
 simp only at hk3 ha hy
 obtain ⟨rfl,rfl⟩:=hy
 unfold goodE goodF
 obtain ⟨k0,k1,k2⟩:=s111_k
 obtain ⟨f0,f1,f2⟩:=s111_f
 rcases hk3 with rfl|rfl|rfl
 ·rw [k0,f0];simp [ha.1,ha.2,evF]
 ·rw [k1,f1];simp [ha.1,ha.2,evF]
 ·rw [k2,f2];simp [ha.1,ha.2,evF]
theorem str_goes (ns:List Int):∀i,i≤1000→GoesE (bI ⟨#[49,49,49]⟩) 0 (strTo ns i).1:=by
 intro i
 induction i with
 | zero=>intro _;trivial
 | succ i ih =>
  intro hi
  have h1:=ih (by omega)
  have h2:=str_last ns i
  have h3:=strTo_now ns i
  unfold strTo
  split
  ·exact h1
  ·rename_i n hn
   obtain ⟨g1,g2⟩:=str_good (strTo ns i).2 n h3.1 (by omega)
   refine goes_snoc _ 0 0 h1 g2 g1 ?_
   rw [h2]
   have hp:=pickK_lt (c:=n.tdiv 3) (n:=5) (by omega)
   show _≤(strTo ns i).2+pickK (n.tdiv 3) 5
   omega
theorem str_ok (ns:List Int) (h64:∀n∈ns,In64 n):∀i,i≤1000→∀e∈(strTo ns i).1,EvOk e:=by
 intro i
 induction i with
 | zero=>intro _ e he;simp [strTo] at he
 | succ i ih =>
  intro hi e he
  have h3:=strTo_now ns i
  unfold strTo at he
  split at he
  ·exact ih (by omega) e he
  ·rename_i n hn
   rcases List.mem_append.1 he with h|h
   ·exact ih (by omega) e h
   ·simp only [List.mem_singleton] at h
    subst h
    have hk:=pickK_lt (c:=n) (n:=3) (by omega)
    have hp:=pickK_lt (c:=n.tdiv 3) (n:=5) (by omega)
    have hx:=pickK_lt (c:=n.tdiv 15) (n:=10) (by omega)
    have hn64:=h64 n (List.mem_of_getElem? hn)
    refine ⟨?_,?_,?_,?_,?_⟩
    ·show In64 ((strTo ns i).2+pickK (n.tdiv 3) 5);unfold In64;omega
    ·show In64 (pickK n 3);unfold In64;omega
    ·show In64 (if 1125899906842624<n∨n < -1125899906842624 then n else pickK (n.tdiv 15) 10)
     split
     ·exact hn64
     ·unfold In64;omega
    ·show In64 0;unfold In64;omega
    ·show In64 0;unfold In64;omega
theorem feed_count {sc:List Int} {l:List In} {bs:List Nat} {live found:Int} {r:Rst} {e:Evt} (h:(feedS sc l bs live found r e).2.2=0):(feedS sc l bs live found r e).1.count=r.count+1:=by
 unfold feedS at h ⊢
 split
 ·rename_i c;rw [if_pos c] at h;simp at h
 ·rename_i c1
  rw [if_neg c1] at h
  split
  ·rename_i c;rw [if_pos c] at h;simp at h
  ·rename_i c2
   rw [if_neg c2] at h
   split
   ·rename_i c;rw [if_pos c] at h;simp at h
   ·rfl
theorem run_count {sc:List Int} {l:List In} {bs:List Nat} {live found:Int} {r:Rst} {L:List Evt} (h:∀i e,L[i]? = some e→(feedS sc l bs live found (runS sc l bs live found r (L.take i)) e).2.2=0):∀i,i≤L.length→(runS sc l bs live found r (L.take i)).count=r.count+i:=by
 intro i
 induction i with
 | zero=>intro _;simp [runS]
 | succ i ih =>
  intro hi
  have hx:L[i]? = some (L[i]'(by omega)):=List.getElem?_eq_getElem (by omega)
  have e1:L.take (i+1)=L.take i++[L[i]'(by omega)]:=by rw [List.take_add_one,hx];rfl
  rw [e1,runS_snoc,feed_count (h i _ hx),ih (by omega)]
  omega
structure PatK (s:ByteArray) (code:List In) (L:List Evt):Prop where
 p:ProgIs ⟨#[49,49,49]⟩ s code
 z:s.size≤1000
 ok:∀i e,L[i]? = some e→(feedS (bI ⟨#[49,49,49]⟩) code (beginsS code) 200 200 (runS (bI ⟨#[49,49,49]⟩) code (beginsS code) 200 200 ⟨[],0,0,false⟩ (L.take i)) e).2.2=0
theorem found_any (s:ByteArray) (code:List In) (p:Option Addr) (ec:Nat) (L:List Evt) (w:World) (hK:PatK s code L) (he:EvsP w p L) (hge:∀g,p=some ⟨g,0,none⟩→g<w.heap.size) (hL:L.length≤1000) (hev:∀e∈L,EvOk e) :
  Calls Tryz.prog 8 #[.string s,.slice p L.length ec] w fun e w'=>∃v hs,e=.returned (.tuple #[v,.bool true])∧Mds w' w.heap.size v hs∧hs.map (·.2)=outS (bI ⟨#[49,49,49]⟩) code (beginsS code) 200 200 ⟨[],0,0,false⟩ L∧Nw w w':=by
 have HNW:Hid (∀W,Calls Tryz.prog 14 #[.string ⟨#[49,49,49]⟩,.agg #[.int .i64 200,.int .i64 200],.string s] W (LdPost W (bI ⟨#[49,49,49]⟩) 200 200 code)):=fun W=>new_any _ _ 200 200 _ W (by unfold maxLen;decide) (by have:=hK.z;unfold maxLen;omega) hK.p (by omega) (by omega) (by omega) (by omega)
 have hcn:=run_count (r:=⟨[],0,0,false⟩) hK.ok
 have HOK:Hid (∀i e,L[i]? = some e→(feedS (bI ⟨#[49,49,49]⟩) code (beginsS code) 200 200 (runS (bI ⟨#[49,49,49]⟩) code (beginsS code) 200 200 ⟨[],0,0,false⟩ (L.take i)) e).2.2=0∧(runS (bI ⟨#[49,49,49]⟩) code (beginsS code) 200 200 ⟨[],0,0,false⟩ (L.take i)).count≤1000000):=by
  intro i e hi
  have hl:=(List.getElem?_eq_some_iff.1 hi).1
  refine ⟨hK.ok i e hi,?_⟩
  rw [hcn i (by omega)]
  show 0+i≤_
  omega
 have HCN:Hid ((runS (bI ⟨#[49,49,49]⟩) code (beginsS code) 200 200 ⟨[],0,0,false⟩ L).count=L.length):=by
  have:=hcn L.length (Nat.le_refl _)
  rw [List.take_length] at this
  show _=_
  rw [this];show 0+_=_;omega
 have HE:Hid (EvsP w p L):=he
 have HGE:Hid (∀g,p=some ⟨g,0,none⟩→g<w.heap.size):=hge
 have HEV:Hid (∀e∈L,EvOk e):=hev
 clear hK he hge hev hcn
 generalize bI ⟨#[49,49,49]⟩=sc at *
 go_enter Tryz.func8,Tryz.ntmps8
 go_wp2_with fail
 refine (great_any w).mono ?_
 rintro e1 w1 ⟨rfl,k1⟩
 go_wp2_with fail
 refine (HNW.out w1).mono ?_
 rintro e2 w2 ⟨X,rfl,hnr⟩
 obtain ⟨g,cap,bv,hrk,hg,hbv⟩:=hnr.k
 have hX:w.heap.size≤X:=Nat.le_trans k1.size hnr.x
 have HX:Hid (w.heap.size≤X):=hX
 have K2:Hid (Nw w w2):=k1.trans hnr.n
 have HFE:Hid (Calls Tryz.prog 16 #[.pointer (some ⟨X,0,none⟩),.slice p L.length ec] w2 fun e w'=>∃v hs,e=.returned (.tuple #[v,.bool (decide (((runS sc code (beginsS code) 200 200 ⟨[],0,0,false⟩ L).count:Int)=(L.length:Int)))])∧Mds w' w2.heap.size v hs∧hs.map (·.2)=outS sc code (beginsS code) 200 200 ⟨[],0,0,false⟩ L∧RunK w' X sc 200 200 g cap code bv (beginsS code) (runS sc code (beginsS code) 200 200 ⟨[],0,0,false⟩ L)∧Kp (fun b=>b=X) w2 w') :=
  fed_any sc code (beginsS code) X g cap bv p ec L ⟨[],0,0,false⟩ w2 hnr.c hrk (HE.out.kp K2.out (fun _ _ h=>h)) (fun g' e'=>by have:=HGE.out g' e';omega) (fun g' e'=>Nat.lt_of_lt_of_le (HGE.out g' e') K2.out.size) hL HEV.out HOK.out
 clear hrk hnr hg hbv k1 HNW
 go_wp2_with fail
 refine HFE.out.mono ?_
 rintro e3 w3 ⟨v,hs,rfl,hm,ho,hk3,kk⟩
 have hd:decide (((runS sc code (beginsS code) 200 200 ⟨[],0,0,false⟩ L).count:Int)=(L.length:Int))=true:=by rw [HCN.out];simp
 rw [hd]
 obtain ⟨vp,vc,rfl⟩:=ownsLenX hm.row
 have HM:Hid (Mds w3 w.heap.size (.slice vp hs.length vc) hs):=hm.base K2.out.size
 have HO:Hid (hs.map (·.2)=outS sc code (beginsS code) 200 200 ⟨[],0,0,false⟩ L):=ho
 have K3:Hid (Nw w w3):=K2.out.trans' kk (by intro b hb e;have:=HX.out;omega)
 clear hm ho hk3 kk HFE hd
 go_wp2
 go_ret2
 exact ⟨_,hs,rfl,HM.out,HO.out,K3.out⟩
theorem outS_get (sc:List Int) (l:List In) (bs:List Nat) (live found:Int):∀(L:List Evt) (r:Rst) (i:Nat) (e:Evt),L[i]? = some e→(outS sc l bs live found r L)[i]? = some (feedS sc l bs live found (runS sc l bs live found r (L.take i)) e).2.1:=by
 intro L
 induction L with
 | nil=>intro r i e h;simp at h
 | cons x L ih =>
  intro r i e h
  cases i with
  | zero=>simp at h;subst h;rfl
  | succ i=>exact ih (feedS sc l bs live found r x).1 i e (by simpa using h)
end Go.Proofs.YtcboiapggnmpfaaGreatDoor
