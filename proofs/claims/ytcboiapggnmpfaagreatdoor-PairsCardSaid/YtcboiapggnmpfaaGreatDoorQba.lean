import Derived.Test.YtcboiapggnmpfaaGreatDoorQax
import Derived.Test.YtcboiapggnmpfaaGreatDoorQaz
import Derived.Test.YtcboiapggnmpfaaGreatDoorQae
import Derived.Deep.DeepCutAuto
import Derived.Deep.LoopGhost
import Derived.Deep.MidRow
namespace Go.Proofs.YtcboiapggnmpfaaGreatDoor
set_option maxRecDepth 100000
set_option maxHeartbeats 2000000
set_option linter.unusedSimpArgs false
set_option linter.unusedVariables false
theorem nmL_rules {L:List (St×Value)} {sts:List St} (h:L.map Prod.fst=sts):nmL L=(rulesOf sts).nm∧kdL L=(rulesOf sts).kd:=by
 subst h
 refine ⟨funext fun k => ?_,funext fun k => ?_⟩
 ·simp only [nmL,rulesOf,List.getElem?_map,Option.map_map];rfl
 ·simp only [kdL,rulesOf,List.getElem?_map,Option.map_map];rfl
theorem progR_iff {t:Nt} {T:Tri} (hT:T.H=t.hand) {l:List Int} (hl:schemaB l=true) {L:List (St×Value)} (hL:L.map Prod.fst=t.steps) {i:Nat} {x:Spo} {y:St×Value} (hx:LeafIs t i x) (hy:L[i]? = some y) (hY:StY y.1) :
  ProgR l (nmL L) (kdL L) x i y.1↔rightS (rulesOf t.steps) (hkP l) (hfP l) T i:=by
 have hyt:t.steps[i]? = some y.1:=by rw [←hL,List.getElem?_map,hy];rfl
 obtain ⟨rn,rk,rt⟩:=rules_at hyt
 obtain ⟨en,ek⟩:=nmL_rules hL
 have hnm:nmT t=(rulesOf t.steps).nm:=rfl
 unfold ProgR rightS
 rw [en,ek,rn,rk,rt,hT]
 refine and_congr (hkP_iff hl _).symm (and_congr ?_ ?_)
 ·rcases hY.name with h|⟨h0,h1⟩
  ·simp [h]
  ·refine or_congr Iff.rfl ?_
   unfold NameR
   rw [hx.maybe.has _ h0 h1,hx.rep,hnm]
 ·have hterm:∀of fd:Int,0≤of→of≤27→(TermR l (rulesOf t.steps).nm (rulesOf t.steps).kd x.2.1 i y.1.kind of fd↔(of=0∨(of=1∧hfP l y.1.kind fd)∨(2≤of∧t.hand.svS (rulesOf t.steps).nm (of - 2) false 0 i=true∧firstOf (rulesOf t.steps).nm (of - 2) i<i∧hfP l ((rulesOf t.steps).kd (firstOf (rulesOf t.steps).nm (of - 2) i)) fd))):=by
   intro of fd h0 h1
   unfold TermR hfP
   refine or_congr Iff.rfl (or_congr Iff.rfl (and_congr_right fun h2 => ?_))
   rw [hx.surely.has (of - 2) (by omega) (by omega),hnm]
  constructor
  ·intro h q hq
   obtain ⟨tt,ht,hqt⟩:=List.mem_flatMap.1 hq
   obtain ⟨a,b,c⟩:=h tt ht
   have hb:=hY.terms q hq
   simp only [List.mem_cons,List.not_mem_nil,or_false] at hqt
   rcases hqt with e|e|e
   all_goals
    subst e
    first
    | exact (hterm _ _ hb.1.1 hb.1.2).1 a
    | exact (hterm _ _ hb.1.1 hb.1.2).1 b
    | exact (hterm _ _ hb.1.1 hb.1.2).1 c
  ·intro h tt ht
   have m1:(tt.left.of,tt.left.field)∈termsOf y.1:=List.mem_flatMap.2 ⟨tt,ht,by simp⟩
   have m2:(tt.right.of,tt.right.field)∈termsOf y.1:=List.mem_flatMap.2 ⟨tt,ht,by simp⟩
   have m3:(tt.more.of,tt.more.field)∈termsOf y.1:=List.mem_flatMap.2 ⟨tt,ht,by simp⟩
   have b1:=hY.terms _ m1
   have b2:=hY.terms _ m2
   have b3:=hY.terms _ m3
   exact ⟨(hterm _ _ b1.1.1 b1.1.2).2 (h _ m1),(hterm _ _ b2.1.1 b2.1.2).2 (h _ m2),(hterm _ _ b3.1.1 b3.1.2).2 (h _ m3)⟩
structure Known (s:ByteArray) (t:AltOf (Atom 8)) (L:List (St×Value)):Prop where
 sty:∀y∈L,StY y.1
 reps:(altTr (atomTr 8) t).Reps
 ops:(altTr (atomTr 8) t).Ops
 size:(altTr (atomTr 8) t).size≤10000
 tests:∀y∈L,y.1.tests.length≤10000
 steps:L.map Prod.fst=(altTr (atomTr 8) t).steps
 sts:(altTr (atomTr 8) t).steps=altS (atomS 8) t.1 t.2
 hand:(altT (atomT 8) t.1 t.2).H=(altTr (atomTr 8) t).hand
theorem Known.tstb {s:ByteArray} {t:AltOf (Atom 8)} {L:List (St×Value)} (h:Known s t L):∀x∈L,∀q∈x.1.tests,TstB q:=by
 intro x hx q hq
 have ht:=(h.sty x hx).terms
 have m1:=ht (q.left.of,q.left.field) (List.mem_flatMap.2 ⟨q,hq,by simp⟩)
 have m2:=ht (q.right.of,q.right.field) (List.mem_flatMap.2 ⟨q,hq,by simp⟩)
 have m3:=ht (q.more.of,q.more.field) (List.mem_flatMap.2 ⟨q,hq,by simp⟩)
 exact ⟨m1.1,m2.1,m3.1⟩
theorem Known.names {s:ByteArray} {t:AltOf (Atom 8)} {L:List (St×Value)} (h:Known s t L):∀x∈L,x.1.name = -1∨0≤x.1.name:=by
 intro x hx
 rcases (h.sty x hx).name with h|h
 ·exact Or.inl h
 ·exact Or.inr h.1
theorem toks_le:∀(b:List Int) (i:Nat),(toks i b).length≤b.length:=by
 intro b
 induction b with
 | nil=>intro i;simp [toks]
 | cons c r ih =>
  intro i
  simp only [toks]
  split
  ·have:=ih (i+1);simp;omega
  ·have:=ih (i+1);simp;omega
theorem pTop_alt {s:ByteArray} {t:AltOf (Atom 8)} {o:Option Int} {x:List Tok} (hp:pTopOf (pAtom 8) (toks 0 (bI s))=(some (t,o),x)):∃y,pAlt (pAtom 8) (toks 0 (bI s))=(some t,y):=by
 unfold pTopOf at hp
 split at hp
 ·simp at hp
 ·rename_i t' h;simp at hp;exact ⟨_,by rw [h,hp.1.1]⟩
 ·rename_i t' c p r h
  split at hp
  ·split at hp
   ·simp at hp
   ·simp at hp;exact ⟨_,by rw [h,hp.1.1]⟩
   ·simp at hp
  ·simp at hp
theorem known_of {s:ByteArray} (hs:s.size≤120) {t:AltOf (Atom 8)} {o:Option Int} {x:List Tok} (hp:pTopOf (pAtom 8) (toks 0 (bI s))=(some (t,o),x)) {L:List (St×Value)} (hL:L.map Prod.fst=(altTr (atomTr 8) t).steps):Known s t L:=by
 obtain ⟨hY,hR⟩:=alt_sty hp
 have hst:=alt_stepsN (atom_stepsN 8) t
 obtain ⟨y,hy⟩:=pTop_alt hp
 have hfit:=fits_alt (fits_atom 8) (toks 0 (bI s))
 have hsz:=(hfit.2 (altTr (atomTr 8) t) (by simp [altR,hy]))
 have hl:=toks_le (bI s) 0
 rw [bI_length] at hl
 refine ⟨?_,hR,alt_ops (atom_ops 8) t,by omega,?_,hL,hst,(alt_hand (atom_hand 8) t).symm⟩
 ·intro q hq
  refine hY q.1 ?_
  rw [←hst,←hL]
  exact List.mem_map_of_mem hq
 ·intro q hq
  obtain ⟨u,hyu,hLu⟩:=pTop_y hp
  have hul:u.length≤120:=by
   rcases hLu with ⟨_,e⟩ | ⟨p,ds,_,e,_⟩
   ·rw [←e];omega
   ·rw [e] at hl;simp at hl;omega
  have hm:q.1∈altS (atomS 8) t.1 t.2:=by rw [←hst,←hL];exact List.mem_map_of_mem hq
  have:=alt_tests hyu (by omega) q.1 hm
  omega
theorem progT_of {s:ByteArray} {t:AltOf (Atom 8)} {L:List (St×Value)} (K:Known s t L) {l:List Int} (hl:schemaB l=true) {ss:List Spo} {k:Nat} (hk:k≤L.length) (hleaf:∀j x,ss[j]? = some x→LeafIs (altTr (atomTr 8) t) j x) (hss:ss.length=L.length)
  (hall:∀j x y,j<k→ss[j]? = some x→L[j]? = some y→ProgR l (nmL L) (kdL L) x j y.1) (hno:∀x y,ss[k]? = some x→L[k]? = some y→¬ProgR l (nmL L) (kdL L) x k y.1) {f p:Int}
  (h:(∃y,L[k]? = some y∧f=4∧p=y.1.pos)∨(k=L.length∧((LargeN (altTr (atomTr 8) t) L∧f=5∧p=0)∨(¬LargeN (altTr (atomTr 8) t) L∧f=0∧p=0)))):ProgT l t f p:=by
 have hiff:∀j x y,ss[j]? = some x→L[j]? = some y→(ProgR l (nmL L) (kdL L) x j y.1↔rightS (rulesOf (altS (atomS 8) t.1 t.2)) (hkP l) (hfP l) (altT (atomT 8) t.1 t.2) j):=by
  intro j x y hx hy
  rw [←K.sts]
  exact progR_iff K.hand hl K.steps (hleaf j x hx) hy (K.sty y (List.mem_of_getElem? hy))
 have hLl:L.length=(altS (atomS 8) t.1 t.2).length:=by rw [←K.sts,←K.steps];simp
 have hup:∀j,j<k→rightS (rulesOf (altS (atomS 8) t.1 t.2)) (hkP l) (hfP l) (altT (atomT 8) t.1 t.2) j:=by
  intro j hj
  obtain ⟨y,hy⟩:∃y,L[j]? = some y:=⟨_,List.getElem?_eq_getElem (by omega)⟩
  obtain ⟨x,hx⟩:∃x,ss[j]? = some x:=⟨_,List.getElem?_eq_getElem (by omega)⟩
  exact (hiff j x y hx hy).1 (hall j x y hj hx hy)
 have hlarge:LargeN (altTr (atomTr 8) t) L↔LargeP (altTr (atomTr 8) t) (altS (atomS 8) t.1 t.2):=by
  have hm:L.map (·.1)=altS (atomS 8) t.1 t.2:=by rw [←K.sts,←K.steps]
  unfold LargeN LargeP
  rw [slotsTo_congr (a:=L) (b:=dress (altS (atomS 8) t.1 t.2)) (by rw [hm,dress_map]),←hLl]
  refine or_congr Iff.rfl (or_congr ?_ Iff.rfl)
  rw [←hm]
  constructor
  ·rintro ⟨x,hx,h⟩;exact ⟨x.1,List.mem_map_of_mem hx,h⟩
  ·rintro ⟨y,hy,h⟩
   obtain ⟨x,hx,rfl⟩:=List.mem_map.1 hy
   exact ⟨x,hx,h⟩
 rcases h with ⟨y,hy,h1,h2⟩ | ⟨hkl,h⟩
 ·have hkl:k<L.length:=(List.getElem?_eq_some_iff.1 hy).1
  obtain ⟨x,hx⟩:∃x,ss[k]? = some x:=⟨_,List.getElem?_eq_getElem (by omega)⟩
  refine Or.inl ⟨k,y.1,?_,fun hr=>hno x y hx hy ((hiff k x y hx hy).2 hr),hup,h1,h2⟩
  rw [←K.sts,←K.steps,List.getElem?_map,hy];rfl
 ·rw [hkl,hLl] at hup
  rcases h with ⟨h1,h2,h3⟩ | ⟨h1,h2,h3⟩
  ·exact Or.inr (Or.inl ⟨hup,hlarge.1 h1,h2,h3⟩)
  ·exact Or.inr (Or.inr ⟨hup,fun h=>h1 (hlarge.2 h),h2,h3⟩)
def ProgC (sc s:ByteArray) (f p:Int):Prop :=
 (120<s.size∧f=1∧p=0)∨(s.size≤120∧schemaB (bI sc)=false∧f=2∧p=0) ∨
 (s.size≤120∧schemaB (bI sc)=true∧∃x,pTopOf (pAtom 8) (toks 0 (bI s))=(none,x)∧f=3∧p=posOf s.size x) ∨
 (s.size≤120∧schemaB (bI sc)=true∧∃t o x,pTopOf (pAtom 8) (toks 0 (bI s))=(some (t,o),x)∧ProgT (bI sc) t f p)
theorem ProgT.uniq {l:List Int} {t:AltOf (Atom 8)} {f p f' p':Int} (h:ProgT l t f p) (h':ProgT l t f' p'):f=f'∧p=p':=by
 unfold ProgT at h h'
 generalize (altS (atomS 8) t.1 t.2)=sts at *
 generalize (rightS (rulesOf sts) (hkP l) (hfP l) (altT (atomT 8) t.1 t.2))=R at *
 generalize (LargeP (altTr (atomTr 8) t) sts)=G at *
 rcases h with ⟨k,y,hy,hn,hb,e1,e2⟩ | ⟨ha,hl,e1,e2⟩ | ⟨ha,hl,e1,e2⟩ <;> rcases h' with ⟨k',y',hy',hn',hb',e1',e2'⟩ | ⟨ha',hl',e1',e2'⟩ | ⟨ha',hl',e1',e2'⟩
 ·have:k=k':=by
   rcases Nat.lt_trichotomy k k' with c|c|c
   ·exact absurd (hb' k c) hn
   ·exact c
   ·exact absurd (hb k' c) hn'
  subst this
  rw [hy] at hy'
  cases hy'
  exact ⟨by rw [e1,e1'],by rw [e2,e2']⟩
 ·exact absurd (ha' k (List.getElem?_eq_some_iff.1 hy).1) hn
 ·exact absurd (ha' k (List.getElem?_eq_some_iff.1 hy).1) hn
 ·exact absurd (ha k' (List.getElem?_eq_some_iff.1 hy').1) hn'
 ·exact ⟨by rw [e1,e1'],by rw [e2,e2']⟩
 ·exact absurd hl hl'
 ·exact absurd (ha k' (List.getElem?_eq_some_iff.1 hy').1) hn'
 ·exact absurd hl' hl
 ·exact ⟨by rw [e1,e1'],by rw [e2,e2']⟩
theorem ProgC.uniq {sc s:ByteArray} {f p f' p':Int} (h:ProgC sc s f p) (h':ProgC sc s f' p'):f=f'∧p=p':=by
 rcases h with ⟨a,b,c⟩ | ⟨a,b,c,d⟩ | ⟨a,b,x,c,d,e⟩ | ⟨a,b,t,o,x,c,d⟩
 ·rcases h' with ⟨a',b',c'⟩ | ⟨a',b',c',d'⟩ | ⟨a',b',x',c',d',e'⟩ | ⟨a',b',t',o',x',c',d'⟩
  ·exact ⟨by rw [b,b'],by rw [c,c']⟩
  ·omega
  ·omega
  ·omega
 ·rcases h' with ⟨a',b',c'⟩ | ⟨a',b',c',d'⟩ | ⟨a',b',x',c',d',e'⟩ | ⟨a',b',t',o',x',c',d'⟩
  ·omega
  ·exact ⟨by rw [c,c'],by rw [d,d']⟩
  ·rw [b] at b';cases b'
  ·rw [b] at b';cases b'
 ·rcases h' with ⟨a',b',c'⟩ | ⟨a',b',c',d'⟩ | ⟨a',b',x',c',d',e'⟩ | ⟨a',b',t',o',x',c',d'⟩
  ·omega
  ·rw [b] at b';cases b'
  ·rw [c] at c'
   simp only [Prod.mk.injEq,true_and] at c'
   exact ⟨by rw [d,d'],by rw [e,e',c']⟩
  ·rw [c] at c';simp at c'
 ·rcases h' with ⟨a',b',c'⟩ | ⟨a',b',c',d'⟩ | ⟨a',b',x',c',d',e'⟩ | ⟨a',b',t',o',x',c',d'⟩
  ·omega
  ·rw [b] at b';cases b'
  ·rw [c] at c';simp at c'
  ·rw [c] at c'
   simp only [Prod.mk.injEq,Option.some.injEq] at c'
   obtain ⟨⟨rfl,rfl⟩,rfl⟩:=c'
   exact d.uniq d'
open Go.RowKit
def zeroP:Value:=.agg #[.slice none 0 0,.slice none 0 0,.bool false,.int .i64 0]
structure PatOwn (w w':World) (s:ByteArray) (pv:Value) (t:AltOf (Atom 8)) (win:Option Int) (L:List (St×Value)):Prop where
 top:∃x,pTopOf (pAtom 8) (toks 0 (bI s))=(some (t,win),x)
 known:Known s t L
 val:∃nv sv,pv=.agg #[nv,sv,.bool win.isSome,.int .i64 (win.getD 0)]∧PatM w' nv sv ((altTr (atomTr 8) t).nd 0 0) L
def ChRPost (sc s:ByteArray) (w:World) (e:Ending) (w':World):Prop :=
 ∃(pv:Value) (f p:Int),e=.returned (.tuple #[pv,.int .i64 f,.int .i64 p])∧ProgC sc s f p∧Nw w w'∧((¬f=0∧pv=zeroP)∨(f=0∧∃t win L,PatOwn w w' s pv t win L))
theorem posAt {s:ByteArray} {j:Nat} {x:List Tok} (h:At s j x):posOf s.size x=j:=by
 match x,h with
 | [],h=>exact h.nil.symm
 | (c,p)::r,h =>
  obtain ⟨_,_,e,_⟩:=h.cons
  exact e
theorem PAt.kp {S:Nat→Prop} {w w':World} {B:Nat} {a b c d:Value} (h:PAt w B a b c d) (k:Kp S w w') (hs:¬S B):PAt w' B a b c d:=h.sm (k.sm h.lt hs)
theorem checkRead_any (sc s:ByteArray) (w:World) (hsc:sc.size≤maxLen) (hs:s.size≤maxLen) :
  Calls Tryz.prog 28 #[.string sc,.string s] w (ChRPost sc s w):=by
 have HSC:Hid (sc.size≤maxLen):=hsc
 have hs2:s.size≤9223372036854775807:=by unfold maxLen at hs;omega
 have P0:=pat_new w 70 (B:=w.heap.size) rfl
 have HKS:Hid (∀W,Nw w W→∀a b c d,Nw w ((((W.setCell ⟨w.heap.size,0,none⟩ a).setCell ⟨w.heap.size,1,none⟩ b).setCell ⟨w.heap.size,2,none⟩ c).setCell ⟨w.heap.size,3,none⟩ d)):=fun W k a b c d=>(((k.setCell (p:=⟨w.heap.size,0,none⟩) (Or.inl (Nat.le_refl _)) _).setCell (p:=⟨w.heap.size,1,none⟩) (Or.inl (Nat.le_refl _)) _).setCell (p:=⟨w.heap.size,2,none⟩) (Or.inl (Nat.le_refl _)) _).setCell (p:=⟨w.heap.size,3,none⟩) (Or.inl (Nat.le_refl _)) _
 clear hsc hs
 by_cases h120:s.size≤120
 ·go_enter Tryz.func28,Tryz.ntmps28
  go_wp2_with fail
  refine (readK_any sc _ HSC.out).mono ?_
  rintro e w1 ⟨k1,hK⟩
  have P1:Hid (PAt w1 w.heap.size (.slice none 0 0) (.slice none 0 0) (.bool false) (.int .i64 0)):=P0.sm (k1.sm P0.lt (fun h=>h))
  have K1:Hid (Nw w w1):=((Kp.refl _ w).alloc _).trans k1
  have hl1:=P1.out.lt
  obtain ⟨p0,p1,p2,p3,pz⟩:=P1.out
  have hne:¬w.heap.size=w1.heap.size:=by omega
  clear k1 P0
  rcases hK with ⟨hsb,rfl⟩ | ⟨hsb,rfl⟩
  ·have HSB:Hid (schemaB (bI sc)=true):=hsb
   have hl4:(bI sc).length≤4:=(schema_all hsb).2.2
   clear hsb
   unfold schV
   go_wp2_with fail
   refine (readP_any s _ (by omega)).mono ?_
   rintro e w2 ⟨k2,hR⟩
   have P2:Hid (PAt w2 w.heap.size (.slice none 0 0) (.slice none 0 0) (.bool false) (.int .i64 0)):=(P1.out.kp ((Kp.refl (fun _=>False) w1).alloc _) (fun h=>h)).kp k2 (fun h=>h)
   have K2:Hid (Nw w w2):=(K1.out.alloc _).trans k2
   have HS2:Hid (∀W,Nw w2 W→(W.cell? ⟨w1.heap.size,0,none⟩=some (.int .i64 (bI sc).length)∧W.cell? ⟨w1.heap.size,1,none⟩=some (.int .i64 (scF (bI sc) 0))∧W.cell? ⟨w1.heap.size,2,none⟩=some (.int .i64 (scF (bI sc) 1))∧W.cell? ⟨w1.heap.size,3,none⟩=some (.int .i64 (scF (bI sc) 2))∧W.cell? ⟨w1.heap.size,4,none⟩=some (.int .i64 (scF (bI sc) 3)))):=by
    intro W kW
    have kk:=k2.trans kW
    have y0:∀o,w1.heap.size<(w1.alloc o).heap.size:=by intro o;simp
    refine ⟨?_,?_,?_,?_,?_⟩
    all_goals rw [kk.cell (y0 _) (fun h=>h)];simp [go_sem,World.cell?_alloc_at]
   have hl2:=P2.out.lt
   have hw12:w1.heap.size<w2.heap.size:=by have:=k2.size;simp at this;omega
   clear p0 p1 p2 p3 pz P1 k2
   obtain ⟨p0,p1,p2,p3,pz⟩:=P2.out
   rcases hR with ⟨j,x,hpt,hat,rfl⟩ | ⟨t,win,nv,sv,L,x,hpt,rfl,hn2,hst2,hte2,hL⟩
   ·have HIS:Hid (ProgC sc s 3 j):=Or.inr (Or.inr (Or.inl ⟨h120,HSB.out,x,hpt,rfl,by rw [posAt hat]⟩))
    clear hpt hat
    have hne2:¬w.heap.size=w2.heap.size:=by omega
    go_wp2
    refine bodyPost_ret (results_ctt Tryz.results28 _ _ _ ⟨w.heap.size,0,none⟩ rfl _ (((P2.out.set _ _ _ _).kp ((Kp.refl (fun _=>False) _).alloc _) (fun h=>h)).load)) rfl ?_
    exact ⟨zeroP,3,j,rfl,HIS.out,(HKS.out _ K2.out _ _ _ _).alloc _,Or.inl ⟨by omega,rfl⟩⟩
   ·have hKn:Known s t L:=known_of h120 hpt hL
    have HKN:Hid (Known s t L):=hKn
    have HTOP:Hid (pTopOf (pAtom 8) (toks 0 (bI s))=(some (t,win),x)):=hpt
    have hPM:PatM w2 nv sv ((altTr (atomTr 8) t).nd 0 0) L:=⟨ownsBaseX hn2 (Nat.zero_le _),ownsBaseX hst2 (Nat.zero_le _),fun x hx=>ownsBaseX (hte2 x hx) (Nat.zero_le _)⟩
    have HPM:Hid (∀W,Nw w2 W→PatM W nv sv ((altTr (atomTr 8) t).nd 0 0) L):=fun W kW=>hPM.nw kW
    have HIS:Hid (∀f p,ProgT (bI sc) t f p→ProgC sc s f p):=fun f p h=>Or.inr (Or.inr (Or.inr ⟨h120,HSB.out,t,win,x,HTOP.out,h⟩))
    have HFW:Hid (∀W,Nw w2 W→Calls Tryz.prog 42 #[schV (bI sc),.agg #[nv,sv,.bool win.isSome,.int .i64 (win.getD 0)]] W (FWPost (bI sc) (altTr (atomTr 8) t) L W)):=fun W kW=>firstWrong_any (bI sc) hl4 (altTr (atomTr 8) t) nv sv _ _ L W (HPM.out W kW) hL hKn.size hKn.ops hKn.tests hKn.tstb
    have HIL:Hid (∀W,Nw w2 W→Calls Tryz.prog 43 #[.agg #[nv,sv,.bool win.isSome,.int .i64 (win.getD 0)]] W (SayP W (LargeN (altTr (atomTr 8) t) L))):=fun W kW=>isLarge_any (altTr (atomTr 8) t) nv sv _ _ L W (HPM.out W kW) hL hKn.size hKn.ops hKn.reps hKn.names
    have hpos:=(altTr (atomTr 8) t).size_pos
    have hspos:=(altTr (atomTr 8) t).steps_pos
    have hLl:L.length=(altTr (atomTr 8) t).steps.length:=by rw [←hL];simp
    obtain ⟨gn,cn,hnv⟩:=owns_someX hPM.nodes (by rw [Nt.nd_length];exact hpos)
    obtain ⟨gs,cs,hsv⟩:=owns_someX hPM.steps (by omega)
    have hbs:=hPM.steps.lt gs (by rw [hsv];rfl)
    have hbb:=(hst2.lt gs (by rw [hsv];rfl)).1
    simp at hbb
    have hg1:¬gs=w.heap.size:=by omega
    have hg2:¬w.heap.size=gs:=by omega
    have hPM2:∀W,Kp (fun b=>b=w.heap.size) w2 W→PatM W nv sv ((altTr (atomTr 8) t).nd 0 0) L:=by
     intro W kW
     refine ⟨ownsBaseX (ownsKpX hn2 kW (fun g hg e => ?_)) (Nat.zero_le _),ownsBaseX (ownsKpX hst2 kW (fun g hg e => ?_)) (Nat.zero_le _),fun x hx=>ownsBaseX (ownsKpX (hte2 x hx) kW (fun g hg e => ?_)) (Nat.zero_le _)⟩
     ·have:=(hn2.lt g hg).1;simp at this;omega
     ·have:=(hst2.lt g hg).1;simp at this;omega
     ·have:=((hte2 x hx).lt g hg).1;simp at this;omega
    have hL10:L.length≤10000:=by have:=(altTr (atomTr 8) t).steps_le;have:=hKn.size;omega
    subst hnv hsv
    have HPV:Hid (∀W,Kp (fun b=>b=w.heap.size) w2 W→PatOwn w W s (.agg #[.slice (some ⟨gn,0,none⟩) ((altTr (atomTr 8) t).nd 0 0).length cn,.slice (some ⟨gs,0,none⟩) L.length cs,.bool win.isSome,.int .i64 (win.getD 0)]) t win L):=fun W kW=>⟨⟨x,HTOP.out⟩,HKN.out,_,_,rfl,hPM2 W kW⟩
    have HPT:Hid (∀(ss:List Spo) (k:Nat),k≤L.length→(∀j x,ss[j]? = some x→LeafIs (altTr (atomTr 8) t) j x)→ss.length=L.length→(∀j x y,j<k→ss[j]? = some x→L[j]? = some y→ProgR (bI sc) (nmL L) (kdL L) x j y.1)→(∀x y,ss[k]? = some x→L[k]? = some y→¬ProgR (bI sc) (nmL L) (kdL L) x k y.1)→∀(f p:Int),((∃y,L[k]? = some y∧f=4∧p=y.1.pos)∨(k=L.length∧((LargeN (altTr (atomTr 8) t) L∧f=5∧p=0)∨(¬LargeN (altTr (atomTr 8) t) L∧f=0∧p=0))))→ProgC sc s f p):=fun ss k h1 h2 h3 h4 h5 f p h6=>HIS.out f p (progT_of HKN.out HSB.out h1 h2 h3 h4 h5 h6)
    generalize ((altTr (atomTr 8) t).nd 0 0).length=nl at *
    generalize hww:win.getD 0=ww at *
    generalize hwb:win.isSome=wb at *
    clear hPM2 hn2 hst2 hte2 hL hKn hpt hPM hpos hspos hLl hww hwb
    unfold schV at *
    obtain ⟨b0,b1,b2,b3,b4⟩:=HS2.out w2 (Kp.refl _ _)
    have hne2:¬w.heap.size=w2.heap.size:=by omega
    have hne3:¬w1.heap.size=w2.heap.size:=by omega
    go_wp2_with fail
    refine (HFW.out _ ((Kp.refl _ w2).alloc _)).mono ?_
    rintro e w3 ⟨ss,k,rfl,hk,hleaf,hssl,hall,hno,k3⟩
    obtain ⟨kk3,hl3,⟨kc,kz⟩⟩:=k3.box (fun h=>h)
    have HCK:Hid (∀(f p:Int),((∃y,L[k]? = some y∧f=4∧p=y.1.pos)∨(k=L.length∧((LargeN (altTr (atomTr 8) t) L∧f=5∧p=0)∨(¬LargeN (altTr (atomTr 8) t) L∧f=0∧p=0))))→ProgC sc s f p):=HPT.out ss k hk hleaf hssl hall hno
    have K23:Hid (Nw w2 w3):=kk3
    have K3:Hid (Nw w w3):=K2.out.trans kk3
    have P3:Hid (PAt w3 w.heap.size (.slice none 0 0) (.slice none 0 0) (.bool false) (.int .i64 0)):=P2.out.kp kk3 (fun h=>h)
    have d0:w3.cell? ⟨w2.heap.size,0,none⟩=some (.slice (some ⟨gn,0,none⟩) nl cn):=by rw [kc 0];simp [go_sem,World.cell?_alloc_at]
    have d1:w3.cell? ⟨w2.heap.size,1,none⟩=some (.slice (some ⟨gs,0,none⟩) L.length cs):=by rw [kc 1];simp [go_sem,World.cell?_alloc_at]
    have d2:w3.cell? ⟨w2.heap.size,2,none⟩=some (.bool wb):=by rw [kc 2];simp [go_sem,World.cell?_alloc_at]
    have d3:w3.cell? ⟨w2.heap.size,3,none⟩=some (.int .i64 ww):=by rw [kc 3];simp [go_sem,World.cell?_alloc_at]
    have HSTE:Hid (∀y,L[k]? = some y→w3.cell? ⟨gs,k*4,none⟩=some (.int .i64 y.1.pos)):=fun y hy=>((HPM.out w3 kk3).step hy).1
    clear kc kz k3 kk3 hleaf hssl hall hno p0 p1 p2 p3 pz P2 b0 b1 b2 b3 b4 HFW HPT
    by_cases hkl:k<L.length
    ·obtain ⟨y,hy⟩:∃y,L[k]? = some y:=⟨_,List.getElem?_eq_getElem hkl⟩
     have HC4:Hid (ProgC sc s 4 y.1.pos):=HCK.out 4 y.1.pos (Or.inl ⟨y,hy,rfl,rfl⟩)
     have q0:=HSTE.out y hy
     obtain ⟨p0,p1,p2,p3,pz⟩:=P3.out
     have hkI:(k:Int)<(L.length:Int):=by omega
     clear hy
     go_wp2
     go_region
     all_goals
      go_wp2
      refine bodyPost_ret (results_ctt Tryz.results28 _ _ _ ⟨w.heap.size,0,none⟩ rfl _ (P3.out.set _ _ _ _).drew.load) rfl ?_
      exact ⟨zeroP,4,y.1.pos,rfl,HC4.out,(HKS.out _ K3.out _ _ _ _).drew,Or.inl ⟨by omega,rfl⟩⟩
    ·have hke:k=L.length:=by omega
     clear HSTE
     obtain ⟨p0,p1,p2,p3,pz⟩:=P3.out
     go_wp2_with fail
     refine (HIL.out _ K23.out).mono ?_
     rintro e w4 ⟨b,rfl,hb,k4⟩
     have K4:Hid (Nw w w4):=K3.out.trans k4
     have P4:Hid (PAt w4 w.heap.size (.slice none 0 0) (.slice none 0 0) (.bool false) (.int .i64 0)):=P3.out.kp k4 (fun h=>h)
     have HPV4:Hid (∀W,Kp (fun b=>b=w.heap.size) w4 W→PatOwn w W s (.agg #[.slice (some ⟨gn,0,none⟩) nl cn,.slice (some ⟨gs,0,none⟩) L.length cs,.bool wb,.int .i64 ww]) t win L):=fun W kW=>HPV.out W (((K23.out.trans k4).mono (fun _ _ h=>False.elim h)).trans kW)
     have f0:=(k4.cell (p:=⟨w2.heap.size,0,none⟩) hl3 (fun h=>h)).trans d0
     have f1:=(k4.cell (p:=⟨w2.heap.size,1,none⟩) hl3 (fun h=>h)).trans d1
     have f2:=(k4.cell (p:=⟨w2.heap.size,2,none⟩) hl3 (fun h=>h)).trans d2
     have f3:=(k4.cell (p:=⟨w2.heap.size,3,none⟩) hl3 (fun h=>h)).trans d3
     have HB:Hid (b=true↔LargeN (altTr (atomTr 8) t) L):=hb
     clear hb k4 d0 d1 d2 d3 p0 p1 p2 p3 pz P3 HIL
     obtain ⟨p0,p1,p2,p3,pz⟩:=P4.out
     cases b with
     | true =>
      have HC5:Hid (ProgC sc s 5 0):=HCK.out 5 0 (Or.inr ⟨hke,Or.inl ⟨HB.out.1 (by first|rfl|trivial),rfl,rfl⟩⟩)
      clear hke
      go_wp2
      refine bodyPost_ret (results_ctt Tryz.results28 _ _ _ ⟨w.heap.size,0,none⟩ rfl _ (P4.out.set _ _ _ _).load) rfl ?_
      exact ⟨zeroP,5,0,rfl,HC5.out,HKS.out _ K4.out _ _ _ _,Or.inl ⟨by omega,rfl⟩⟩
     | false =>
      have HC0:Hid (ProgC sc s 0 0):=HCK.out 0 0 (Or.inr ⟨hke,Or.inr ⟨fun h=>by have:=HB.out.2 h;simp at this,rfl,rfl⟩⟩)
      clear hke
      go_wp2
      refine bodyPost_ret (results_ctt Tryz.results28 _ _ _ ⟨w.heap.size,0,none⟩ rfl _ (P4.out.set _ _ _ _).load) rfl ?_
      refine ⟨_,0,0,rfl,HC0.out,HKS.out _ K4.out _ _ _ _,Or.inr ⟨rfl,t,win,L,?_⟩⟩
      exact HPV4.out _ (((((Kp.refl (fun b=>b=w.heap.size) w4).setCell (p:=⟨w.heap.size,0,none⟩) (Or.inr rfl) _).setCell (p:=⟨w.heap.size,1,none⟩) (Or.inr rfl) _).setCell (p:=⟨w.heap.size,2,none⟩) (Or.inr rfl) _).setCell (p:=⟨w.heap.size,3,none⟩) (Or.inr rfl) _)
  ·have HSB:Hid (schemaB (bI sc)=false):=hsb
   clear hsb
   go_wp2
   refine bodyPost_ret (results_ctt Tryz.results28 _ _ _ ⟨w.heap.size,0,none⟩ rfl _ (((P1.out.set _ _ _ _).kp ((Kp.refl (fun _=>False) _).alloc _) (fun h=>h)).load)) rfl ?_
   exact ⟨zeroP,2,0,rfl,Or.inr (Or.inl ⟨h120,HSB.out,rfl,rfl⟩),(HKS.out _ K1.out _ _ _ _).alloc _,Or.inl ⟨by omega,rfl⟩⟩
 ·go_enter Tryz.func28,Tryz.ntmps28
  go_wp2
  refine bodyPost_ret (results_ctt Tryz.results28 _ _ _ ⟨w.heap.size,0,none⟩ rfl _ P0.load) rfl ?_
  exact ⟨zeroP,1,0,rfl,Or.inl ⟨by omega,rfl,rfl⟩,(Kp.refl _ w).alloc _,Or.inl ⟨by omega,rfl⟩⟩
theorem Tryz.row118:(Tryz.prog.underlying 118).map TypeDesc.isRow=some true:=by kernel_rfl
theorem Tryz.size118:(Tryz.prog.info? 118).map (·.size)=some 11:=by kernel_rfl
def c11 (a0 a1 a2 a3 a4 a5 a6 a7 a8 a9 a10:Int):List Value:=[.int .i64 a0,.int .i64 a1,.int .i64 a2,.int .i64 a3,.int .i64 a4,.int .i64 a5,.int .i64 a6,.int .i64 a7,.int .i64 a8,.int .i64 a9,.int .i64 a10]
structure TstAt' (w:World) (g:Nat) (a0 a1 a2 a3 a4 a5 a6 a7 a8 a9 a10:Int):Prop where
 c0:w.cell? ⟨g,0,none⟩=some (.int .i64 a0)
 c1:w.cell? ⟨g,1,none⟩=some (.int .i64 a1)
 c2:w.cell? ⟨g,2,none⟩=some (.int .i64 a2)
 c3:w.cell? ⟨g,3,none⟩=some (.int .i64 a3)
 c4:w.cell? ⟨g,4,none⟩=some (.int .i64 a4)
 c5:w.cell? ⟨g,5,none⟩=some (.int .i64 a5)
 c6:w.cell? ⟨g,6,none⟩=some (.int .i64 a6)
 c7:w.cell? ⟨g,7,none⟩=some (.int .i64 a7)
 c8:w.cell? ⟨g,8,none⟩=some (.int .i64 a8)
 c9:w.cell? ⟨g,9,none⟩=some (.int .i64 a9)
 c10:w.cell? ⟨g,10,none⟩=some (.int .i64 a10)
end Go.Proofs.YtcboiapggnmpfaaGreatDoor
