import Derived.Test.YtcboiapggnmpfaaGreatDoorQao
import Derived.Test.YtcboiapggnmpfaaGreatDoorQad
import Derived.Test.YtcboiapggnmpfaaGreatDoorQae
namespace Go.Proofs.YtcboiapggnmpfaaGreatDoor
set_option maxRecDepth 100000
set_option maxHeartbeats 1000000
set_option linter.unusedSimpArgs false
set_option linter.unusedVariables false
open Go.RowKit
open Value (int)
structure PatM (w:World) (nv sv:Value) (M:List Nd) (L:List (St×Value)):Prop where
 nodes:w.ownsRow 0 186 6 nv M.length (ndsC M)
 steps:w.ownsRow 0 100 4 sv L.length (stsC L)
 tests:∀x∈L,w.ownsRow 0 118 11 x.2 x.1.tests.length (tstsC x.1.tests)
theorem PatM.nw {w w':World} {nv sv:Value} {M:List Nd} {L:List (St×Value)} (h:PatM w nv sv M L) (k:Nw w w'):PatM w' nv sv M L :=
 ⟨ownsKpX h.nodes k (fun _ _ h=>h),ownsKpX h.steps k (fun _ _ h=>h),fun x hx=>ownsKpX (h.tests x hx) k (fun _ _ h=>h)⟩
theorem ndsC_get:∀(M:List Nd) (i j:Nat) (x:Nd),M[i]? = some x→j<6→(ndsC M)[i*6+j]? = (ndC x)[j]?:=by
 intro M
 induction M with
 | nil=>intro i j x h;simp at h
 | cons y r ih =>
  intro i j x h hj
  have e:ndsC (y::r)=ndC y++ndsC r:=by simp [ndsC]
  have hl:(ndC y).length=6:=rfl
  rw [e]
  cases i with
  | zero=>simp at h;subst h;rw [List.getElem?_append_left (by omega)];simp
  | succ i =>
   simp at h
   rw [List.getElem?_append_right (by omega),hl]
   have:(i+1)*6+j - 6=i*6+j:=by omega
   rw [this];exact ih i j x h hj
theorem stsC_get:∀(L:List (St×Value)) (i j:Nat) (x:St×Value),L[i]? = some x→j<4→(stsC L)[i*4+j]? = (stC x)[j]?:=by
 intro M
 induction M with
 | nil=>intro i j x h;simp at h
 | cons y r ih =>
  intro i j x h hj
  have e:stsC (y::r)=stC y++stsC r:=by simp [stsC]
  have hl:(stC y).length=4:=rfl
  rw [e]
  cases i with
  | zero=>simp at h;subst h;rw [List.getElem?_append_left (by omega)];simp
  | succ i =>
   simp at h
   rw [List.getElem?_append_right (by omega),hl]
   have:(i+1)*4+j - 4=i*4+j:=by omega
   rw [this];exact ih i j x h hj
theorem PatM.node {w:World} {gn cn:Nat} {sv:Value} {M:List Nd} {L:List (St×Value)} (h:PatM w (.slice (some ⟨gn,0,none⟩) M.length cn) sv M L) {i:Nat} {x:Nd} (hi:M[i]? = some x) :
  w.cell? ⟨gn,i*6,none⟩=some (.int .i64 x.op)∧w.cell? ⟨gn,i*6+1,none⟩=some (.int .i64 x.step)∧w.cell? ⟨gn,i*6+2,none⟩=some (.int .i64 x.left)∧w.cell? ⟨gn,i*6+3,none⟩=some (.int .i64 x.right)∧w.cell? ⟨gn,i*6+4,none⟩=some (.int .i64 x.low)∧w.cell? ⟨gn,i*6+5,none⟩=some (.int .i64 x.high):=by
 have hc:∀j v,j<6→(ndC x)[j]? = some v→w.cell? ⟨gn,i*6+j,none⟩=some v:=fun j v hj hv=>owns_cell h.nodes (i*6+j) (by rw [ndsC_get M i j x hi hj];exact hv)
 exact ⟨hc 0 _ (by omega) rfl,hc 1 _ (by omega) rfl,hc 2 _ (by omega) rfl,hc 3 _ (by omega) rfl,hc 4 _ (by omega) rfl,hc 5 _ (by omega) rfl⟩
theorem PatM.step {w:World} {gs cs:Nat} {nv:Value} {M:List Nd} {L:List (St×Value)} (h:PatM w nv (.slice (some ⟨gs,0,none⟩) L.length cs) M L) {i:Nat} {x:St×Value} (hi:L[i]? = some x) :
  w.cell? ⟨gs,i*4,none⟩=some (.int .i64 x.1.pos)∧w.cell? ⟨gs,i*4+1,none⟩=some (.int .i64 x.1.kind)∧w.cell? ⟨gs,i*4+2,none⟩=some (.int .i64 x.1.name)∧w.cell? ⟨gs,i*4+3,none⟩=some x.2:=by
 have hc:∀j v,j<4→(stC x)[j]? = some v→w.cell? ⟨gs,i*4+j,none⟩=some v:=fun j v hj hv=>owns_cell h.steps (i*4+j) (by rw [stsC_get L i j x hi hj];exact hv)
 exact ⟨hc 0 _ (by omega) rfl,hc 1 _ (by omega) rfl,hc 2 _ (by omega) rfl,hc 3 _ (by omega) rfl⟩
def heldC (x:Nat×Nat):List Value:=[.int .i64 x.1,.int .i64 x.2]
def heldsC (l:List (Nat×Nat)):List Value:=(l.map heldC).flatten
theorem heldsC_length (l:List (Nat×Nat)):(heldsC l).length=l.length*2:=by
 induction l with
 | nil=>rfl
 | cons x r ih =>
  have:heldsC (x::r)=heldC x++heldsC r:=by simp [heldsC]
  rw [this,List.length_append,ih];simp [heldC];omega
theorem heldsC_append (a b:List (Nat×Nat)):heldsC (a++b)=heldsC a++heldsC b:=by simp [heldsC]
theorem heldsC_get:∀(M:List (Nat×Nat)) (i j:Nat) (x:Nat×Nat),M[i]? = some x→j<2→(heldsC M)[i*2+j]? = (heldC x)[j]?:=by
 intro M
 induction M with
 | nil=>intro i j x h;simp at h
 | cons y r ih =>
  intro i j x h hj
  have e:heldsC (y::r)=heldC y++heldsC r:=by simp [heldsC]
  have hl:(heldC y).length=2:=rfl
  rw [e]
  cases i with
  | zero=>simp at h;subst h;rw [List.getElem?_append_left (by omega)];simp
  | succ i =>
   simp at h
   rw [List.getElem?_append_right (by omega),hl]
   have:(i+1)*2+j - 2=i*2+j:=by omega
   rw [this];exact ih i j x h hj
theorem Tryz.info150:(Tryz.prog.info? 150).map (fun i=>(i.zero,i.size,i.bytes))=some (some (.agg #[.int .i64 0,.int .i64 0]),2,16):=by kernel_rfl
theorem made_held (n:Nat):(madeCells #[.int .i64 0,.int .i64 0] n).toList=List.replicate n (.int .i64 0):=by
 have hx:∀x:Nat,(#[.int .i64 0,.int .i64 0]:Array Value)[x % 2]! = int .i64 0:=by
  intro x
  have h:x % 2<2:=by omega
  generalize x % 2=y at h
  have:y=0∨y=1:=by omega
  rcases this with h|h <;> subst h <;> rfl
 have hs:(#[.int .i64 0,.int .i64 0]:Array Value).size=2:=rfl
 simp only [madeCells,hs,hx]
 apply List.ext_getElem?
 intro k
 simp [List.getElem?_replicate]
 by_cases h:k<n
 ·simp [h]
 ·simp [h]
theorem helds_zero (n:Nat):heldsC (List.replicate n (0,0))=List.replicate (n*2) (.int .i64 0):=by
 induction n with
 | zero=>rfl
 | succ n ih =>
  have e:heldsC ((0,0)::List.replicate n (0,0))=heldC (0,0)++heldsC (List.replicate n (0,0)):=by simp [heldsC]
  rw [List.replicate_succ,e,ih]
  have:(n+1)*2=n*2+1+1:=by omega
  rw [this,List.replicate_succ,List.replicate_succ]
  rfl
def nmT (t:Nt) (k:Nat):Int:=((t.steps[k]?).map (·.name)).getD (-1)
structure Adds (t:Nt) (i:Nat) (abs:List (Nat×Nat)):Prop where
 len:abs.length=t.size
 ok:∀(j:Nat) (u:Nt) (m k a b:Nat),j<i→(t.subs 0 0)[j]? = some (u,m,k)→abs[j]? = some (a,b)→AddIs (nmT t) u k a b
 zero:∀j:Nat,i≤j→j<t.size→abs[j]? = some (0,0)
theorem Adds.start (t:Nt):Adds t 0 (List.replicate t.size (0,0)):=⟨by simp,fun _ _ _ _ _ _ h=>by omega,fun j _ h=>by simp [h]⟩
theorem Adds.set {t:Nt} {i:Nat} {abs:List (Nat×Nat)} (h:Adds t i abs) {u:Nt} {m k a b:Nat} (hu:(t.subs 0 0)[i]? = some (u,m,k)) (hab:AddIs (nmT t) u k a b):Adds t (i+1) (abs.set i (a,b)):=by
 have hi:i<t.size:=by have:=(List.getElem?_eq_some_iff.1 hu).1;rwa [Nt.subs_length] at this
 refine ⟨by simp [h.len],?_,?_⟩
 ·intro j u' m' k' a' b' hj hs hg
  by_cases e:j=i
  ·subst e
   rw [hu] at hs
   simp only [Option.some.injEq,Prod.mk.injEq] at hs
   obtain ⟨rfl,rfl,rfl⟩:=hs
   rw [List.getElem?_set_self (by rw [h.len];exact hi)] at hg
   simp only [Option.some.injEq,Prod.mk.injEq] at hg
   obtain ⟨rfl,rfl⟩:=hg
   exact hab
  ·rw [List.getElem?_set_ne (by omega)] at hg
   exact h.ok j u' m' k' a' b' (by omega) hs hg
 ·intro j hj hl
  rw [List.getElem?_set_ne (by omega)]
  exact h.zero j (by omega) hl
theorem Adds.next {t:Nt} {i:Nat} {abs:List (Nat×Nat)} (h:Adds t i abs) {lo hi:Int} {b:Nt} {m k:Nat} (hu:(t.subs 0 0)[i]? = some (.rnd lo hi b,m,k)):Adds t (i+1) abs:=by
 have hil:i<t.size:=by have:=(List.getElem?_eq_some_iff.1 hu).1;rwa [Nt.subs_length] at this
 refine ⟨h.len,?_,fun j hj hl=>h.zero j (by omega) hl⟩
 intro j u' m' k' a' b' hj hs hg
 by_cases e:j=i
 ·subst e
  rw [hu] at hs
  simp only [Option.some.injEq,Prod.mk.injEq] at hs
  obtain ⟨rfl,rfl,rfl⟩:=hs
  rw [h.zero j (Nat.le_refl _) hil] at hg
  simp only [Option.some.injEq,Prod.mk.injEq] at hg
  obtain ⟨rfl,rfl⟩:=hg
  exact AddIs.rnd _ _ _ _ _
 ·exact h.ok j u' m' k' a' b' (by omega) hs hg
theorem helds_split {abs:List (Nat×Nat)} {i:Nat} {x:Nat×Nat} (h:abs[i]? = some x) (y:Nat×Nat):∃p q,heldsC abs=heldsC p++(heldC x++heldsC q)∧heldsC (abs.set i y)=heldsC p++(heldC y++heldsC q)∧p.length=i:=by
 obtain ⟨hi,hx⟩:=List.getElem?_eq_some_iff.1 h
 refine ⟨abs.take i,abs.drop (i+1),?_,?_,by simp;omega⟩
 ·have e:abs=abs.take i++(x::abs.drop (i+1)):=by rw [←hx,List.getElem_cons_drop,List.take_append_drop]
  conv=>lhs;rw [e]
  rw [heldsC_append];simp [heldsC]
 ·have e:abs.set i y=abs.take i++(y::abs.drop (i+1)):=by
   rw [List.set_eq_take_append_cons_drop,if_pos hi]
  rw [e,heldsC_append];simp [heldsC]
def Nt.Ops:Nt→Prop
 | .one _=>True
 | .two op l r=>(op=1∨op=2)∧l.Ops∧r.Ops
 | .rnd _ _ b=>b.Ops
theorem Nt.subs_ops:∀(t:Nt) (n st i:Nat) (u:Nt) (m k:Nat),t.Ops→(t.subs n st)[i]? = some (u,m,k)→u.Ops:=by
 intro t
 induction t with
 | one s =>
  intro n st i u m k h hi
  have:=List.mem_of_getElem? hi
  simp [Nt.subs] at this
  obtain ⟨rfl,_⟩:=this;exact h
 | two op l r hl hr =>
  intro n st i u m k h hi
  have:=List.mem_of_getElem? hi
  simp only [Nt.subs,List.mem_append,List.mem_singleton] at this
  rcases this with h1|h1|h1
  ·obtain ⟨j,hj⟩:=List.mem_iff_getElem?.1 h1;exact hl _ _ j u m k h.2.1 hj
  ·obtain ⟨j,hj⟩:=List.mem_iff_getElem?.1 h1;exact hr _ _ j u m k h.2.2 hj
  ·simp only [Prod.mk.injEq] at h1;obtain ⟨rfl,_⟩:=h1;exact h
 | rnd lo hi b hb =>
  intro n st i u m k h hi
  have:=List.mem_of_getElem? hi
  simp only [Nt.subs,List.mem_append,List.mem_singleton] at this
  rcases this with h1|h1
  ·obtain ⟨j,hj⟩:=List.mem_iff_getElem?.1 h1;exact hb _ _ j u m k h hj
  ·simp only [Prod.mk.injEq] at h1;obtain ⟨rfl,_⟩:=h1;exact h
theorem heldsC_set {abs:List (Nat×Nat)} {i:Nat} (hi:i<abs.length) (a b:Nat):((heldsC abs).set (i*2) (.int .i64 a)).set (i*2+1) (.int .i64 b)=heldsC (abs.set i (a,b)):=by
 obtain ⟨x,hx⟩:∃x,abs[i]? = some x:=⟨abs[i],by simp [hi]⟩
 obtain ⟨p,q,e1,e2,hp⟩:=helds_split hx (a,b)
 rw [e1,e2]
 have hl:(heldsC p).length=i*2:=by rw [heldsC_length,hp]
 rw [List.set_append_right _ _ (by omega),hl,List.set_append_right _ _ (by omega),hl]
 have:i*2+1 - i*2=1:=by omega
 rw [this,Nat.sub_self]
 rfl
theorem Row.heldSet {w:World} {g i:Nat} {e:TypeId} {abs:List (Nat×Nat)} (h:Row w g e (heldsC abs)) (hi:i<abs.length) (a b:Nat) :
  Row ((w.setCell ⟨g,i*2,none⟩ (.int .i64 a)).setCell ⟨g,i*2+1,none⟩ (.int .i64 b)) g e (heldsC (abs.set i (a,b))):=by
 rw [←heldsC_set hi];exact (h.set _ _).set _ _
theorem pat_at (w:World) (t:TypeId) (a b c d:Value) {B:Nat} (hB:B=w.heap.size):PAt (w.alloc (.cells #[a,b,c,d] t)) B a b c d:=by
 subst hB
 constructor <;> simp [go_sem,World.cell?_alloc_at,World.frozen?_alloc_at]
def AddPost (t:Nt) (w:World) (e:Ending) (w':World):Prop :=
 ∃(abs:List (Nat×Nat)) (g:Nat),e=.returned (.slice (some ⟨g,0,none⟩) t.size t.size)∧Adds t t.size abs∧Row w' g 150 (heldsC abs)∧w.heap.size≤g∧Nw w w'
theorem owns_someX {w:World} {base size n:Nat} {e:TypeId} {v:Value} {xs:List Value} (h:w.ownsRow base e size v n xs) (hn:0<n):∃g c,v=.slice (some ⟨g,0,none⟩) n c:=by
 rcases h.2 with ⟨_,h0⟩ | ⟨g,cap,cur,rfl,_⟩
 ·omega
 ·exact ⟨g,cap,rfl⟩
theorem Nt.steps_pos:∀t:Nt,1≤t.steps.length:=by
 intro t
 induction t with
 | one s=>simp [Nt.steps]
 | two op l r hl hr=>simp [Nt.steps];omega
 | rnd lo hi b hb=>simpa [Nt.steps] using hb
theorem added_any (t:Nt) (nv sv:Value) (wb:Bool) (wi:Int) (L:List (St×Value)) (w:World) (h:PatM w nv sv (t.nd 0 0) L) (hL:L.map Prod.fst=t.steps) (hsz:t.size≤10000) (hops:t.Ops) :
  Calls Tryz.prog 91 #[.agg #[nv,sv,.bool wb,.int .i64 wi]] w (AddPost t w):=by
 have hpos:=t.size_pos
 obtain ⟨gn,cn,hnv⟩:=owns_someX h.nodes (by rw [Nt.nd_length];exact hpos)
 obtain ⟨gs,cs,hsv⟩:=owns_someX h.steps (by have:=congrArg List.length hL;have:=t.steps_pos;simp at *;omega)
 subst hnv hsv
 have hbn:=h.nodes.lt gn rfl
 have hbs:=h.steps.lt gs rfl
 have hnl:=t.nd_length 0 0
 have HP:Hid (PatM w (.slice (some ⟨gn,0,none⟩) (t.nd 0 0).length cn) (.slice (some ⟨gs,0,none⟩) L.length cs) (t.nd 0 0) L):=h
 have HL:Hid (L.map Prod.fst=t.steps):=hL
 have hLl:L.length≤10000:=by have h1:=congrArg List.length hL;have h2:=t.steps_le;simp at h1;omega
 clear h hL
 rw [hnl]
 clear hnl
 obtain ⟨i0,hi0,hz0,hz1,hz2⟩:=info_parts Tryz.info150
 go_enter Tryz.func91,Tryz.ntmps91
 go_wp2_with (first|(at_make;refine wpList_make_full _ rfl _ _ 188 rfl (w.heap.size+1) 150 i0 (.agg #[.int .i64 0,.int .i64 0]) 2 Tryz.underlying188 hi0 hz0 hz1 _ _ _ _ t.size rfl rfl ?a1 ?a2 ?b1 ?b2 ?b3 ?_)|fail)
 case a1=>omega
 case a2=>omega
 case b1=>first|omega|(rw [hz2];omega)
 case b2=>unfold maxLen;omega
 case b3=>simp
 intro w1 hown1 hgrow1
 have hA:=(pat_at w 70 (.slice (some ⟨gn,0,none⟩) t.size cn) (.slice (some ⟨gs,0,none⟩) L.length cs) (.bool wb) (.int .i64 wi) (B:=w.heap.size) rfl)
 have kg:Kp (fun _=>False) (w.alloc (.cells #[.slice (some ⟨gn,0,none⟩) t.size cn,.slice (some ⟨gs,0,none⟩) L.length cs,.bool wb,.int .i64 wi] 70)) w1:=(Kp.refl _ _).grown hgrow1 (by intro k hk;cases hk)
 have PA1:Hid (PAt w1 w.heap.size (.slice (some ⟨gn,0,none⟩) t.size cn) (.slice (some ⟨gs,0,none⟩) L.length cs) (.bool wb) (.int .i64 wi)):=hA.sm (kg.sm hA.lt (fun h=>h))
 have R1:Hid (Row w1 (w.heap.size+1) 150 (heldsC (List.replicate t.size (0,0)))):=by
  have:=Row.of_fullS hown1
  rw [made_held] at this
  show Row _ _ _ _
  rw [helds_zero]
  simpa using this
 have K1:Hid (Nw w w1):=((Kp.refl _ w).alloc _).trans kg
 clear hown1 hgrow1 hA kg
 have hG:(w.alloc (.cells #[.slice (some ⟨gn,0,none⟩) t.size cn,.slice (some ⟨gs,0,none⟩) L.length cs,.bool wb,.int .i64 wi] 70)).heap.size=w.heap.size+1:=by simp
 try rw [hG]
 clear hG
 go_wp2
 go_loopg [4] t.size (fun m v4 wr=>∃(i:Nat) (abs:List (Nat×Nat)),v4=.int .i64 i∧m=t.size - i∧i≤t.size∧Adds t i abs∧Row wr (w.heap.size+1) 150 (heldsC abs)∧PAt wr w.heap.size (.slice (some ⟨gn,0,none⟩) t.size cn) (.slice (some ⟨gs,0,none⟩) L.length cs) (.bool wb) (.int .i64 wi)∧Nw w wr)
 case atStart=>exact ⟨0,_,rfl,rfl,by omega,Adds.start t,R1.out,PA1.out,K1.out⟩
 case round =>
  obtain ⟨i,abs,rfl,hm,hi,hadd,hrow,hpa,hk⟩:=hrel
  have HA:Hid (Adds t i abs):=hadd
  have HR:Hid (Row wr (w.heap.size+1) 150 (heldsC abs)):=hrow
  have HPA:Hid (PAt wr w.heap.size (.slice (some ⟨gn,0,none⟩) t.size cn) (.slice (some ⟨gs,0,none⟩) L.length cs) (.bool wb) (.int .i64 wi)):=hpa
  have HK:Hid (Nw w wr):=hk
  have HM:Hid (_=t.size - i):=hm
  have hrl:=hrow.lt
  obtain ⟨p0,p1,p2,p3,pz⟩:=hpa
  have HPW:=HP.out.nw hk
  have y1:w.heap.size<wr.heap.size:=by omega
  have y3:gn<wr.heap.size:=by omega
  have y4:gs<wr.heap.size:=by omega
  by_cases hil:i<t.size
  ·obtain ⟨u,m,k,hu⟩:∃u m k,(t.subs 0 0)[i]? = some (u,m,k):=⟨_,_,_,List.getElem?_eq_getElem (by rw [Nt.subs_length];exact hil)⟩
   have hnd:(t.nd 0 0)[i]? = some (u.root m k):=by rw [Nt.nd_subs,List.getElem?_map,hu];rfl
   obtain ⟨n0,n1,n2,n3,n4,n5⟩:=HPW.node hnd
   have hok:=t.subs_ok 0 0 i u m k hu
   have huo:=t.subs_ops 0 0 i u m k hops hu
   have HU:Hid ((t.subs 0 0)[i]? = some (u,m,k)):=hu
   clear hadd hrow hk hm hnd hu
   cases u with
   | one s =>
    have hks:t.steps[k]? = some s:=by have:=hok.steps 0 s rfl;simpa using this
    have hLk:∃v,L[k]? = some (s,v):=by
     have:=HL.out
     have h2:(L.map Prod.fst)[k]? = some s:=by rw [this];exact hks
     simp only [List.getElem?_map,Option.map_eq_some_iff] at h2
     obtain ⟨⟨s',v⟩,h3,rfl⟩:=h2
     exact ⟨v,h3⟩
    obtain ⟨tv,hLk⟩:=hLk
    have hkl:k<L.length:=(List.getElem?_eq_some_iff.1 hLk).1
    obtain ⟨s0,s1,s2,s3⟩:=HPW.step hLk
    have HNM:Hid (s.name=nmT t k):=by show _=_;simp [nmT,hks]
    simp only [Nt.root] at n0 n1 n2 n3 n4 n5
    have e0:=HR.out.cell (i*2)
    have e1:=HR.out.cell (i*2+1)
    obtain ⟨ab,hab⟩:∃ab,abs[i]? = some ab:=⟨_,List.getElem?_eq_getElem (by rw [HA.out.len];exact hil)⟩
    rw [←Nat.add_zero (i*2),heldsC_get abs i 0 ab hab (by omega)] at e0
    rw [heldsC_get abs i 1 ab hab (by omega)] at e1
    simp only [heldC,List.getElem?_cons_zero,List.getElem?_cons_succ,Nat.add_zero] at e0 e1
    have ez:∀o,wr.frozen? ⟨w.heap.size+1,o,none⟩=false:=HR.out.froz
    clear HPW hLk hks hok hab
    go_wp2_with (go_at_call 108;refine (only_any s.name _).mono ?_;rintro e9 w9 ⟨rfl,rfl⟩)
    go_roundg (t.size - (i+1))
    case measure=>rw [HM.out];omega
    case rel =>
     have kk:Kp (fun b=>b=w.heap.size+1) wr ((((wr.setCell ⟨w.heap.size+1,i*2,none⟩ (.int .i64 (onlyN s.name:Nat))).setCell ⟨w.heap.size+1,i*2+1,none⟩ (.int .i64 (onlyN s.name:Nat))).alloc (.cells #[.int .i64 0,.int .i64 k,.int .i64 0,.int .i64 0,.int .i64 0,.int .i64 0] 186))):=(((Kp.refl (fun b=>b=w.heap.size+1) wr).setCell (p:=⟨w.heap.size+1,i*2,none⟩) (Or.inr rfl) _).setCell (p:=⟨w.heap.size+1,i*2+1,none⟩) (Or.inr rfl) _).alloc _
     refine ⟨i+1,abs.set i (onlyN s.name,onlyN s.name),by simp,rfl,by omega,HA.out.set HU.out ?_,(HR.out.heldSet (by rw [HA.out.len];exact hil) _ _).alloc _,HPA.out.sm (kk.sm y1 (by omega)),HK.out.trans' kk (by intro b hb e;omega)⟩
     rw [HNM.out];exact AddIs.one _ _ _
   | two op l r =>
    obtain ⟨sl,sr⟩:=hok.two op l r rfl
    have hidx:=hok.idx
    simp only [Nt.size] at hidx
    have hl1:=l.size_pos
    have hr1:=r.size_pos
    obtain ⟨jl,hjl⟩:∃jl,jl=m+l.size - 1:=⟨_,rfl⟩
    obtain ⟨jr,hjr⟩:∃jr,jr=m+l.size+r.size - 1:=⟨_,rfl⟩
    simp only [Nat.sub_zero] at sl sr
    rw [←hjl] at sl
    rw [←hjr] at sr
    simp only [Nt.root] at n0 n1 n2 n3 n4 n5
    have el:((m+l.size:Nat):Int) - 1=jl:=by omega
    have er:((m+l.size+r.size:Nat):Int) - 1=jr:=by omega
    rw [el] at n2
    rw [er] at n3
    have hli:jl<i:=by omega
    have hri:jr<i:=by omega
    obtain ⟨⟨a,b⟩,hab⟩:∃ab,abs[jl]? = some ab:=⟨_,List.getElem?_eq_getElem (by rw [HA.out.len];omega)⟩
    obtain ⟨⟨c,d⟩,hcd⟩:∃ab,abs[jr]? = some ab:=⟨_,List.getElem?_eq_getElem (by rw [HA.out.len];omega)⟩
    obtain ⟨ab,habi⟩:∃ab,abs[i]? = some ab:=⟨_,List.getElem?_eq_getElem (by rw [HA.out.len];exact hil)⟩
    have hcell:∀j x,abs[j]? = some x→wr.cell? ⟨w.heap.size+1,j*2,none⟩=some (.int .i64 x.1)∧wr.cell? ⟨w.heap.size+1,j*2+1,none⟩=some (.int .i64 x.2):=by
     intro j x hx
     refine ⟨?_,?_⟩
     ·rw [HR.out.cell,←Nat.add_zero (j*2),heldsC_get abs j 0 x hx (by omega)];rfl
     ·rw [HR.out.cell,heldsC_get abs j 1 x hx (by omega)];rfl
    obtain ⟨e0,e1⟩:=hcell i ab habi
    obtain ⟨e2,e3⟩:=hcell jl _ hab
    obtain ⟨e4,e5⟩:=hcell jr _ hcd
    have ez:∀o,wr.frozen? ⟨w.heap.size+1,o,none⟩=false:=HR.out.froz
    have AL:Hid (AddIs (nmT t) l k a b):=HA.out.ok jl l m k a b hli sl hab
    have AR:Hid (AddIs (nmT t) r (k+l.steps.length) c d):=HA.out.ok jr r _ _ c d hri sr hcd
    have ha:=AL.out.maybe.lt
    have hb:=AL.out.surely.lt
    have hc:=AR.out.maybe.lt
    have hd:=AR.out.surely.lt
    have hjl10:jl<t.size:=by omega
    have hjr10:jr<t.size:=by omega
    simp only [Nt.Ops] at huo
    have hop:=huo.1
    clear HPW hok huo hab hcd habi sl sr hcell hjl hjr el er hidx hl1 hr1
    have HZ:Hid (∀n o W,Nw ((wr.alloc o).drewN n) W→W.cell? ⟨w.heap.size+1,i*2,none⟩=some (.int .i64 ab.1)∧W.cell? ⟨w.heap.size+1,i*2+1,none⟩=some (.int .i64 ab.2)∧∀o,W.frozen? ⟨w.heap.size+1,o,none⟩=false):=by
     intro n o W kW
     have s9:=(((Kp.refl (fun _=>False) wr).alloc o).drewN n).trans kW
     exact ⟨(s9.cell hrl (fun h=>h)).trans e0,(s9.cell hrl (fun h=>h)).trans e1,fun o=>(s9.frozen hrl (fun h=>h)).trans (ez o)⟩
    have HW:Hid (∀n o W (x y:Nat),Nw ((wr.alloc o).drewN n) W→Row ((W.setCell ⟨w.heap.size+1,i*2,none⟩ (.int .i64 x)).setCell ⟨w.heap.size+1,i*2+1,none⟩ (.int .i64 y)) (w.heap.size+1) 150 (heldsC (abs.set i (x,y)))∧PAt ((W.setCell ⟨w.heap.size+1,i*2,none⟩ (.int .i64 x)).setCell ⟨w.heap.size+1,i*2+1,none⟩ (.int .i64 y)) w.heap.size (.slice (some ⟨gn,0,none⟩) t.size cn) (.slice (some ⟨gs,0,none⟩) L.length cs) (.bool wb) (.int .i64 wi)∧Nw w ((W.setCell ⟨w.heap.size+1,i*2,none⟩ (.int .i64 x)).setCell ⟨w.heap.size+1,i*2+1,none⟩ (.int .i64 y))):=by
     intro n o W x y kW
     have s9:=(((Kp.refl (fun _=>False) wr).alloc o).drewN n).trans kW
     have kk:Kp (fun b=>b=w.heap.size+1) wr ((W.setCell ⟨w.heap.size+1,i*2,none⟩ (.int .i64 x)).setCell ⟨w.heap.size+1,i*2+1,none⟩ (.int .i64 y)):=(((s9.mono (T:=fun b=>b=w.heap.size+1) (fun _ _ h=>h.elim))).setCell (p:=⟨w.heap.size+1,i*2,none⟩) (Or.inr rfl) _).setCell (p:=⟨w.heap.size+1,i*2+1,none⟩) (Or.inr rfl) _
     exact ⟨(HR.out.kp s9 (fun h=>h)).heldSet (by rw [HA.out.len];exact hil) _ _,HPA.out.sm (kk.sm y1 (by omega)),HK.out.trans' kk (by intro b hb e;omega)⟩
    rcases hop with rfl|rfl
    ·go_wp2
     go_region_with ((go_at_call 92;refine (heldAnd_any a b c d _ ha hb hc hd).mono ?_;rintro e9 w9 ⟨rfl,k9⟩;obtain ⟨z0,z1,z2⟩:=HZ.out _ _ _ k9))
     all_goals
      obtain ⟨q1,q2,q3⟩:=HW.out _ _ _ (a ||| c) (b ||| d) k9
      have Q1:Hid (Row ((w9.setCell ⟨w.heap.size+1,i*2,none⟩ (.int .i64 (a ||| c:Nat))).setCell ⟨w.heap.size+1,i*2+1,none⟩ (.int .i64 (b ||| d:Nat))) (w.heap.size+1) 150 (heldsC (abs.set i (a ||| c,b ||| d)))):=q1
      have Q2:Hid (PAt ((w9.setCell ⟨w.heap.size+1,i*2,none⟩ (.int .i64 (a ||| c:Nat))).setCell ⟨w.heap.size+1,i*2+1,none⟩ (.int .i64 (b ||| d:Nat))) w.heap.size (.slice (some ⟨gn,0,none⟩) t.size cn) (.slice (some ⟨gs,0,none⟩) L.length cs) (.bool wb) (.int .i64 wi)):=q2
      have Q3:Hid (Nw w ((w9.setCell ⟨w.heap.size+1,i*2,none⟩ (.int .i64 (a ||| c:Nat))).setCell ⟨w.heap.size+1,i*2+1,none⟩ (.int .i64 (b ||| d:Nat)))):=q3
      clear q1 q2 q3 k9 z0 z1 z2 e0 e1 e2 e3 e4 e5 n0 n1 n2 n3 n4 n5
      go_wp2
      go_roundg (t.size - (i+1))
      case measure=>rw [HM.out];omega
      case rel=>exact ⟨i+1,abs.set i (a ||| c,b ||| d),by simp,rfl,by omega,HA.out.set HU.out (AddIs.then AL.out AR.out),Q1.out,Q2.out,Q3.out⟩
    ·go_wp2
     go_region_with ((go_at_call 109;refine (heldOr_any a b c d _ ha hb hc hd).mono ?_;rintro e9 w9 ⟨rfl,k9⟩;obtain ⟨z0,z1,z2⟩:=HZ.out _ _ _ k9))
     all_goals
      obtain ⟨q1,q2,q3⟩:=HW.out _ _ _ (a ||| c) (b &&& d) k9
      have Q1:Hid (Row ((w9.setCell ⟨w.heap.size+1,i*2,none⟩ (.int .i64 (a ||| c:Nat))).setCell ⟨w.heap.size+1,i*2+1,none⟩ (.int .i64 (b &&& d:Nat))) (w.heap.size+1) 150 (heldsC (abs.set i (a ||| c,b &&& d)))):=q1
      have Q2:Hid (PAt ((w9.setCell ⟨w.heap.size+1,i*2,none⟩ (.int .i64 (a ||| c:Nat))).setCell ⟨w.heap.size+1,i*2+1,none⟩ (.int .i64 (b &&& d:Nat))) w.heap.size (.slice (some ⟨gn,0,none⟩) t.size cn) (.slice (some ⟨gs,0,none⟩) L.length cs) (.bool wb) (.int .i64 wi)):=q2
      have Q3:Hid (Nw w ((w9.setCell ⟨w.heap.size+1,i*2,none⟩ (.int .i64 (a ||| c:Nat))).setCell ⟨w.heap.size+1,i*2+1,none⟩ (.int .i64 (b &&& d:Nat)))):=q3
      clear q1 q2 q3 k9 z0 z1 z2 e0 e1 e2 e3 e4 e5 n0 n1 n2 n3 n4 n5
      go_wp2
      go_roundg (t.size - (i+1))
      case measure=>rw [HM.out];omega
      case rel=>exact ⟨i+1,abs.set i (a ||| c,b &&& d),by simp,rfl,by omega,HA.out.set HU.out (AddIs.either AL.out AR.out),Q1.out,Q2.out,Q3.out⟩
   | rnd lo hi' b =>
    simp only [Nt.root] at n0 n1 n2 n3 n4 n5
    clear HPW hok huo
    go_wp2
    go_roundg (t.size - (i+1))
    case measure=>rw [HM.out];omega
    case rel=>exact ⟨i+1,abs,by simp,rfl,by omega,HA.out.next HU.out,HR.out.alloc _,HPA.out.sm (((Kp.refl (fun _=>False) wr).alloc _).sm y1 (fun h=>h)),HK.out.alloc _⟩
  ·have hie:i=t.size:=by omega
   subst hie
   clear HPW
   go_wp2
   go_ret
   exact ⟨abs,w.heap.size+1,rfl,HA.out,HR.out,by omega,HK.out⟩
end Go.Proofs.YtcboiapggnmpfaaGreatDoor
