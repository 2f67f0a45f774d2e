import Derived.Test.YtcboiapggnmpfaaGreatQag
import Derived.Deep.RegionLaw
import Derived.Deep.DrawnRows
import Derived.Test.YtcboiapggnmpfaaGreatQac
import Derived.Deep.QuietTactic
import Derived.Deep.RegionWith
import Derived.Test.YtcboiapggnmpfaaGreatRows
import Derived.Test.YtcboiapggnmpfaaGreatQaa
import Derived.WalkKit
import Derived.WalkSpells
import Derived.WalkLawsBesides
import Derived.Deep.Light
import Derived.Deep.RegionHeld3
import Derived.Test.YtcboiapggnmpfaaGreatQae
import Derived.Test.YtcboiapggnmpfaaGreatQad
namespace Go.Proofs.YtcboiapggnmpfaaGreat
set_option maxRecDepth 100000
set_option maxHeartbeats 1000000
set_option linter.unusedSimpArgs false
set_option linter.unusedVariables false
open Go.RowKit
open Value (int)
structure GT (w:World) (G B n:Nat) (ev sv:Value) (gi go:Int) (es:List Ed) (st:List Int):Prop where
 gs:GS w G B n ev sv gi go es
 own2:w.ownsRow B 3 1 sv st.length (st.map (int .i64))
 ne2:st.length≤100000
abbrev KE (G:Nat) (ev sv:Value) (w w':World):Prop:=Kp (fun b=>b=G∨ev.ownBlock=some b∨sv.ownBlock=some b) w w'
theorem KG.ke {G:Nat} {ev:Value} (sv:Value) {w w':World} (k:KG G ev w w'):KE G ev sv w w':=Kp.mono k (fun i _ h=>h.elim Or.inl (fun e=>Or.inr (Or.inl e)))
theorem KE.refl (G:Nat) (ev sv:Value) (w:World):KE G ev sv w w:=Kp.refl _ w
theorem KE.trans {G:Nat} {ev sv ev1 sv1:Value} {w w1 w2:World} (k:KE G ev sv w w1) (o:Own w ev ev1) (o2:Own w sv sv1) (k2:KE G ev1 sv1 w1 w2):KE G ev sv w w2:=by
 refine Kp.trans' k k2 ?_
 rintro i hi (e|e|e)
 ·exact Or.inl e
 ·rcases o i e with e|e
  ·exact Or.inr (Or.inl e)
  ·omega
 ·rcases o2 i e with e|e
  ·exact Or.inr (Or.inr e)
  ·omega
theorem GT.free {w w':World} {G B n:Nat} {ev ev' sv:Value} {gi go:Int} {es es':List Ed} {st:List Int} (h:GT w G B n ev sv gi go es st) (g:GS w' G B n ev' sv gi go es') (k:KG G ev w w'):GT w' G B n ev' sv gi go es' st :=
 ⟨g,owns_apart h.own2 h.gs.own (by decide) h.gs.hG k,h.ne2⟩
theorem GT.nw {w w':World} {G B n:Nat} {ev sv:Value} {gi go:Int} {es:List Ed} {st:List Int} (h:GT w G B n ev sv gi go es st) (k:Nw w w'):GT w' G B n ev sv gi go es st :=
 ⟨⟨h.gs.gr.sm (k.sm h.gs.gr.lt (fun h=>h)),owns_kp h.gs.own k (fun _ _ h=>h),h.gs.hG,Nat.le_trans h.gs.hB k.size,h.gs.ne,h.gs.ok⟩,owns_kp h.own2 k (fun _ _ h=>h),h.ne2⟩
structure PC (w:World) (X:Nat) (x:Pt):Prop where
 c0:w.cell? ⟨X,0,none⟩=some (.int .i64 x.op)
 c1:w.cell? ⟨X,1,none⟩=some (.int .i64 x.left)
 c2:w.cell? ⟨X,2,none⟩=some (.int .i64 x.right)
 c3:w.cell? ⟨X,3,none⟩=some (.int .i64 x.low)
 c4:w.cell? ⟨X,4,none⟩=some (.int .i64 x.high)
 c5:w.cell? ⟨X,5,none⟩=some (.int .i64 x.step)
 lt:X<w.heap.size
theorem PC.kp {S:Nat→Prop} {w w':World} {X:Nat} {x:Pt} (h:PC w X x) (k:Kp S w w') (hs:¬S X):PC w' X x :=
 ⟨(k.cell (p:=⟨X,0,none⟩) h.lt hs).trans h.c0,(k.cell (p:=⟨X,1,none⟩) h.lt hs).trans h.c1,(k.cell (p:=⟨X,2,none⟩) h.lt hs).trans h.c2,(k.cell (p:=⟨X,3,none⟩) h.lt hs).trans h.c3,(k.cell (p:=⟨X,4,none⟩) h.lt hs).trans h.c4,(k.cell (p:=⟨X,5,none⟩) h.lt hs).trans h.c5,Nat.lt_of_lt_of_le h.lt k.size⟩
theorem PC.new (w:World) (x:Pt):PC (w.alloc (.cells #[.int .i64 x.op,.int .i64 x.left,.int .i64 x.right,.int .i64 x.low,.int .i64 x.high,.int .i64 x.step] 303)) w.heap.size x:=by
 constructor <;> simp [go_sem]
structure Apart (Q:TP) (G B:Nat):Prop where
 t:Q.T<B
 p:Q.gp<B
 s:Q.gt<B
 nt:¬Q.T=G
 np:¬Q.gp=G
 ns:¬Q.gt=G
theorem own_ge {w:World} {B size n:Nat} {e:TypeId} {v:Value} {xs:List Value} (h:w.ownsRow B e size v n xs) {b:Nat} (hb:v.ownBlock=some b):B≤b∧b<w.heap.size:=h.lt b hb
theorem TreeR.ke {w w':World} {Q:TP} {ps:List Pt} {ss:List (St×Value)} {root win:Int} {G B n:Nat} {ev sv:Value} {gi go:Int} {es:List Ed} {st:List Int} (h:TreeR w Q ps ss root win) (g:GT w G B n ev sv gi go es st) (k:KE G ev sv w w') (a:Apart Q G B):TreeR w' Q ps ss root win:=by
 have key:∀b,b<B→¬b=G→¬(b=G∨ev.ownBlock=some b∨sv.ownBlock=some b):=by
  rintro b hb hG (e|e|e)
  ·exact hG e
  ·have:=own_ge g.gs.own e;omega
  ·have:=own_ge g.own2 e;omega
 exact h.kp k (key _ a.t a.nt) (key _ a.p a.np) (key _ a.s a.ns)
structure PlSt (w0 wk:World) (Q:TP) (ps:List Pt) (ss:List (St×Value)) (root win:Int) (G B n:Nat) (ev sv:Value) (gi go:Int) (es:List Ed) (st:List Int) (N1 N2:Nat) (ev0 sv0:Value) (X:Nat) (x:Pt):Prop where
 tr:TreeR wk Q ps ss root win
 gt:GT wk G B n ev sv gi go es st
 s1:∀y∈es,y.st<N1
 s2:∀y∈st,0≤y∧y<N2
 pc:PC wk X x
 kg:KE G ev0 sv0 w0 wk
 ow:Own w0 ev0 ev
 ow2:Own w0 sv0 sv
 nX:¬ev.ownBlock=some X
 nX2:¬sv.ownBlock=some X
 ap:Apart Q G B
 BX:B≤X
theorem PlSt.next {w0 wk w':World} {Q:TP} {ps:List Pt} {ss:List (St×Value)} {root win:Int} {G B n n':Nat} {ev sv ev' sv':Value} {gi go:Int} {es es':List Ed} {st st':List Int} {N1 N2:Nat} {ev0 sv0:Value} {X:Nat} {x:Pt}
  (h:PlSt w0 wk Q ps ss root win G B n ev sv gi go es st N1 N2 ev0 sv0 X x) (g:GT w' G B n' ev' sv' gi go es' st') (s1:∀y∈es',y.st<N1) (s2:∀y∈st',0≤y∧y<N2) (k:KE G ev sv wk w') (o:Own wk ev ev') (o2:Own wk sv sv') :
  PlSt w0 w' Q ps ss root win G B n' ev' sv' gi go es' st' N1 N2 ev0 sv0 X x:=by
 have hX:=h.pc.lt
 refine ⟨h.tr.ke h.gt k h.ap,g,s1,s2,h.pc.kp k ?_,h.kg.trans h.ow h.ow2 k,h.ow.trans h.kg.size o,h.ow2.trans h.kg.size o2,?_,?_,h.ap,h.BX⟩
 ·rintro (e|e|e)
  ·have:=h.gt.gs.hG;have:=h.BX;omega
  ·exact h.nX e
  ·exact h.nX2 e
 ·intro e
  rcases o X e with e|e
  ·exact h.nX e
  ·omega
 ·intro e
  rcases o2 X e with e|e
  ·exact h.nX2 e
  ·omega
theorem PlSt.new {w:World} {Q:TP} {ps:List Pt} {ss:List (St×Value)} {root win:Int} {G B n:Nat} {ev sv:Value} {gi go:Int} {es:List Ed} {st:List Int} {N1 N2:Nat} (x:Pt)
  (t:TreeR w Q ps ss root win) (g:GT w G B n ev sv gi go es st) (s1:∀y∈es,y.st<N1) (s2:∀y∈st,0≤y∧y<N2) (a:Apart Q G B) :
  PlSt w (w.alloc (.cells #[.int .i64 x.op,.int .i64 x.left,.int .i64 x.right,.int .i64 x.low,.int .i64 x.high,.int .i64 x.step] 303)) Q ps ss root win G B n ev sv gi go es st N1 N2 ev sv w.heap.size x:=by
 have k:Nw w (w.alloc (.cells #[.int .i64 x.op,.int .i64 x.left,.int .i64 x.right,.int .i64 x.low,.int .i64 x.high,.int .i64 x.step] 303)):=(Kp.refl _ w).alloc _
 refine ⟨t.nw k,g.nw k,s1,s2,PC.new w x,(Kp.refl _ w).alloc _,Own.refl _ _,Own.refl _ _,?_,?_,a,g.gs.hB⟩
 ·intro e;have:=own_ge g.gs.own e;omega
 ·intro e;have:=own_ge g.own2 e;omega
def GPost (G B:Nat) (gi go:Int) (N1 N2 n:Nat) (ev sv:Value) (ne ns nb bud lgb:Nat) (w:World) (e:Ending) (w':World):Prop :=
 e=.returned (.tuple #[])∧∃n' ev' sv' es' st',GT w' G B n' ev' sv' gi go es' st'∧(∀y∈es',y.st<N1)∧(∀y∈st',0≤y∧y<N2)∧n≤n'∧n'≤n+nb∧es'.length≤ne+bud∧st'.length≤ns+lgb∧KE G ev sv w w'∧Own w ev ev'∧Own w sv sv'
theorem PlSt.post {w0 wk:World} {Q:TP} {ps:List Pt} {ss:List (St×Value)} {root win:Int} {G B n n0 ne ns nb bud lgb:Nat} {ev sv:Value} {gi go:Int} {es:List Ed} {st:List Int} {N1 N2:Nat} {ev0 sv0:Value} {X:Nat} {x:Pt}
  (h:PlSt w0 wk Q ps ss root win G B n ev sv gi go es st N1 N2 ev0 sv0 X x) (h1:n0≤n) (h2:n≤n0+nb) (h3:es.length≤ne+bud) (h4:st.length≤ns+lgb):GPost G B gi go N1 N2 n0 ev0 sv0 ne ns nb bud lgb w0 (.returned (.tuple #[])) wk :=
 ⟨rfl,n,ev,sv,es,st,h.gt,h.s1,h.s2,h1,h2,h3,h4,h.kg,h.ow,h.ow2⟩
theorem PlSt.at {w0 wk w':World} {Q:TP} {ps:List Pt} {ss:List (St×Value)} {root win:Int} {G B n:Nat} {ev sv:Value} {gi go:Int} {es:List Ed} {st:List Int} {N1 N2:Nat} {ev0 sv0:Value} {X:Nat} {x:Pt} {e:Ending} {nb bud lgb:Nat}
  (h:PlSt w0 wk Q ps ss root win G B n ev sv gi go es st N1 N2 ev0 sv0 X x) (p:GPost G B gi go N1 N2 n ev sv es.length st.length nb bud lgb wk e w') :
  e=.returned (.tuple #[])∧∃n' ev' sv' es' st',PlSt w0 w' Q ps ss root win G B n' ev' sv' gi go es' st' N1 N2 ev0 sv0 X x∧n≤n'∧n'≤n+nb∧es'.length≤es.length+bud∧st'.length≤st.length+lgb:=by
 obtain ⟨he,n',ev',sv',es',st',g,a1,a2,b1,b2,b3,b4,k,o1,o2⟩:=p
 exact ⟨he,n',ev',sv',es',st',h.next g a1 a2 k o1 o2,b1,b2,b3,b4⟩
def rdE (low high:Int) (a b:Nat):List Ed:=(if high=1 then [] else [⟨b,a,-1⟩])++(if low=0 then [⟨a,b,-1⟩] else [])
def plP (ps:List Pt):Nat→Nat→Nat→Nat→Nat→List Ed×Nat
 | 0,_,_,_,pt=>([],pt)
 | f+1,i,fr,tq,pt =>
  match ps[i]? with
  | none=>([],pt)
  | some x =>
   if x.op=0 then ([⟨fr,tq,x.step⟩],pt) else
   if x.op=3 then ([⟨fr,pt,-1⟩,⟨(pt+1:Nat),tq,-1⟩]++rdE x.low x.high pt (pt+1)++(plP ps f x.left.toNat pt (pt+1) (pt+2)).1,(plP ps f x.left.toNat pt (pt+1) (pt+2)).2) else
   if x.op=1 then ((plP ps f x.left.toNat fr pt (pt+1)).1++(plP ps f x.right.toNat pt tq (plP ps f x.left.toNat fr pt (pt+1)).2).1,(plP ps f x.right.toNat pt tq (plP ps f x.left.toNat fr pt (pt+1)).2).2)
   else ((plP ps f x.left.toNat fr tq pt).1++(plP ps f x.right.toNat fr tq (plP ps f x.left.toNat fr tq pt).2).1,(plP ps f x.right.toNat fr tq (plP ps f x.left.toNat fr tq pt).2).2)
section
def toEd (e:Eg):Ed:=⟨e.fr,e.to,e.st⟩
def Den (L:List Pt) (i:Nat) (T:Tri) (m:Nat):Prop:=∀f fr tq pt,i<f→plP L f i fr tq pt=((T.P.pl fr tq pt m).1.map toEd,(T.P.pl fr tq pt m).2)
theorem Den.one {L:List Pt} {i m:Nat} (h:L[i]? = some ⟨0,0,0,0,0,m⟩):Den L i Tri.one m:=by
 intro f fr tq pt hf
 cases f with
 | zero=>omega
 | succ f =>
  simp only [plP,h]
  rfl
theorem Den.round {L:List Pt} {i l m:Nat} {lo hi:Int} {T:Tri} (h:L[i]? = some ⟨3,l,0,lo,hi,0⟩) (hl:l<i) (d:Den L l T m):Den L i (T.round lo hi) m:=by
 intro f fr tq pt hf
 cases f with
 | zero=>omega
 | succ f =>
  simp only [plP,h]
  have e0:¬(3:Int)=0:=by decide
  rw [if_neg e0,if_pos trivial,Int.toNat_natCast,d f pt (pt+1) (pt+2) (by omega)]
  have e1:(T.round lo hi).P.pl fr tq pt m=(freeE lo hi fr tq pt++(T.P.pl pt (pt+1) (pt+2) m).1,(T.P.pl pt (pt+1) (pt+2) m).2):=rfl
  rw [e1]
  simp only [List.map_append]
  have e2:(freeE lo hi fr tq pt).map toEd=[⟨fr,pt,-1⟩,⟨(pt+1:Nat),tq,-1⟩]++rdE lo hi pt (pt+1):=by
   unfold freeE rdE
   by_cases h1:hi=1 <;> by_cases h2:lo=0 <;> simp [h1,h2,toEd]
  rw [e2]
theorem Den.andThen {L:List Pt} {i l r m:Nat} {T U:Tri} (h:L[i]? = some ⟨1,l,r,0,0,0⟩) (hl:l<i) (hr:r<i) (d:Den L l T m) (d2:Den L r U (m+T.P.cnt)):Den L i (T.andThen U) m:=by
 intro f fr tq pt hf
 cases f with
 | zero=>omega
 | succ f =>
  simp only [plP,h]
  have e0:¬(1:Int)=0:=by decide
  have e3:¬(1:Int)=3:=by decide
  rw [if_neg e0,if_neg e3,if_pos trivial,Int.toNat_natCast,Int.toNat_natCast,d f fr pt (pt+1) (by omega)]
  simp only
  rw [d2 f pt tq _ (by omega)]
  have e1:(T.andThen U).P.pl fr tq pt m=((T.P.pl fr pt (pt+1) m).1++(U.P.pl pt tq (T.P.pl fr pt (pt+1) m).2 (m+T.P.cnt)).1,(U.P.pl pt tq (T.P.pl fr pt (pt+1) m).2 (m+T.P.cnt)).2):=rfl
  rw [e1]
  simp only [List.map_append]
theorem Den.orElse {L:List Pt} {i l r m:Nat} {T U:Tri} (h:L[i]? = some ⟨2,l,r,0,0,0⟩) (hl:l<i) (hr:r<i) (d:Den L l T m) (d2:Den L r U (m+T.P.cnt)):Den L i (T.orElse U) m:=by
 intro f fr tq pt hf
 cases f with
 | zero=>omega
 | succ f =>
  simp only [plP,h]
  have e0:¬(2:Int)=0:=by decide
  have e3:¬(2:Int)=3:=by decide
  have e4:¬(2:Int)=1:=by decide
  rw [if_neg e0,if_neg e3,if_neg e4,Int.toNat_natCast,Int.toNat_natCast,d f fr tq pt (by omega)]
  simp only
  rw [d2 f fr tq _ (by omega)]
  have e1:(T.orElse U).P.pl fr tq pt m=((T.P.pl fr tq pt m).1++(U.P.pl fr tq (T.P.pl fr tq pt m).2 (m+T.P.cnt)).1,(U.P.pl fr tq (T.P.pl fr tq pt m).2 (m+T.P.cnt)).2):=rfl
  rw [e1]
  simp only [List.map_append]
def Sits (L:List Pt) (k:Nat) (l:List Pt):Prop:=∀j x,l[j]? = some x→L[k+j]? = some x
theorem Sits.left {L:List Pt} {k:Nat} {a b:List Pt} (h:Sits L k (a++b)):Sits L k a:=fun j x hx=>h j x (by rw [List.getElem?_append_left (List.getElem?_eq_some_iff.1 hx).1];exact hx)
theorem Sits.right {L:List Pt} {k:Nat} {a b:List Pt} (h:Sits L k (a++b)):Sits L (k+a.length) b:=fun j x hx=>by
 have:=h (a.length+j) x (by rw [List.getElem?_append_right (by omega)];simpa using hx)
 rw [Nat.add_assoc];exact this
theorem Sits.last {L:List Pt} {k:Nat} {a:List Pt} {x:Pt} (h:Sits L k (a++[x])):L[k+a.length]? = some x:=by
 have:=h.right 0 x rfl
 simpa using this
section
variable {α:Type} {pp:α→Nat→Nat→List Pt} {ss:α→List St} {ft:α→Tri}
end
end
def wi (ps:List Pt):Nat→Nat→Int→Bool→Bool
 | 0,_,_,_=>false
 | f+1,i,k,deep =>
  match ps[i]? with
  | none=>false
  | some x =>
   if x.op=0 then (deep&&(x.step == k)) else
   if x.op=3 then wi ps f x.left.toNat k true
   else (wi ps f x.left.toNat k deep||wi ps f x.right.toNat k deep)
def edOf (k:Int):List Ed→Ed
 | []=>⟨0,0,0⟩
 | x::r=>if x.st=k then x else edOf k r
structure GE (w:World) (G:Nat) (ev:Value) (es:List Ed):Prop where
 c1:w.cell? ⟨G,1,none⟩=some ev
 len:∃p c,ev=.slice p es.length c
 cell:∀(i:Nat) (x:Ed),es[i]? = some x→∃g c,ev=.slice (some ⟨g,0,none⟩) es.length c∧g<w.heap.size∧w.cell? ⟨g,i*3,none⟩=some (.int .i64 x.fr)∧w.cell? ⟨g,i*3+1,none⟩=some (.int .i64 x.to)∧w.cell? ⟨g,i*3+2,none⟩=some (.int .i64 x.st)
 lt:G<w.heap.size
 ne:es.length≤100000
theorem GS.ge {w:World} {G B n:Nat} {ev sv:Value} {i o:Int} {es:List Ed} (h:GS w G B n ev sv i o es):GE w G ev es:=by
 refine ⟨h.gr.c1,?_,?_,h.gr.lt,h.ne⟩
 ·rcases h.own.2 with ⟨h2,h3⟩ | ⟨g',cap',cur,h2,_⟩
  ·exact ⟨none,0,by rw [h2,h3]⟩
  ·exact ⟨_,_,h2⟩
 ·intro j x hx
  have hj:0<es.length:=by have:=(List.getElem?_eq_some_iff.1 hx).1;omega
  obtain ⟨g,c,rfl,_,hg⟩:=h.own.form hj
  exact ⟨g,c,rfl,hg,owns_cell h.own (j*3) (by have:=edsC_get es j 0 x hx (by omega);simpa [edC] using this),owns_cell h.own (j*3+1) (by have:=edsC_get es j 1 x hx (by omega);simpa [edC] using this),owns_cell h.own (j*3+2) (by have:=edsC_get es j 2 x hx (by omega);simpa [edC] using this)⟩
theorem GE.nw {w w':World} {G:Nat} {ev:Value} {es:List Ed} (h:GE w G ev es) (k:Nw w w'):GE w' G ev es:=by
 refine ⟨(k.cell (p:=⟨G,1,none⟩) h.lt (fun h=>h)).trans h.c1,h.len,?_,Nat.lt_of_lt_of_le h.lt k.size,h.ne⟩
 intro i x hx
 obtain ⟨g,c,e,hg,d0,d1,d2⟩:=h.cell i x hx
 exact ⟨g,c,e,Nat.lt_of_lt_of_le hg k.size,(k.cell (p:=⟨g,i*3,none⟩) hg (fun h=>h)).trans d0,(k.cell (p:=⟨g,i*3+1,none⟩) hg (fun h=>h)).trans d1,(k.cell (p:=⟨g,i*3+2,none⟩) hg (fun h=>h)).trans d2⟩
open Value (bool)
def okE (ss:List (St×Value)) (steps:Bool) (no:Int) (e:Ed):Prop:=e.st<0∨(steps=true∧(no<0∨∀x,ss[e.st.toNat]? = some x→¬x.1.name=no))
def Rc (ok:Ed→Prop) (es:List Ed) (src x:Nat):Prop:=∀S:Nat→Prop,S src→(∀e∈es,ok e→S e.fr.toNat→S e.to.toNat)→S x
theorem Rc.more {ok:Ed→Prop} {es:List Ed} {src:Nat} {e:Ed} (h:Rc ok es src e.fr.toNat) (he:e∈es) (ho:ok e):Rc ok es src e.to.toNat:=fun S h1 h2=>h2 e he ho (h S h1 h2)
structure Sk (ok:Ed→Prop) (es:List Ed) (n src:Nat) (bs:List Bool):Prop where
 len:bs.length=n
 st:bs[src]? = some true
 sound:∀x,bs[x]? = some true→Rc ok es src x
def ShutTo (ok:Ed→Prop) (es:List Ed) (bs:List Bool) (i:Nat):Prop:=∀(j:Nat) e,j<i→es[j]? = some e→ok e→bs[e.fr.toNat]? = some true→bs[e.to.toNat]? = some true
theorem Sk.over {ok:Ed→Prop} {es:List Ed} {n src:Nat} {bs:List Bool} (h:Sk ok es n src bs) (hs:ShutTo ok es bs es.length) (x:Nat):bs[x]? = some true↔Rc ok es src x:=by
 refine ⟨h.sound x,fun hr=>hr (fun y=>bs[y]? = some true) h.st ?_⟩
 intro e he ho hf
 obtain ⟨j,hj⟩:=List.mem_iff_getElem?.1 he
 exact hs j e (List.getElem?_eq_some_iff.1 hj).1 hj ho hf
theorem Sk.set {ok:Ed→Prop} {es:List Ed} {n src:Nat} {bs:List Bool} {e:Ed} (h:Sk ok es n src bs) (he:e∈es) (ho:ok e) (hf:bs[e.fr.toNat]? = some true) (ht:e.to.toNat<n):Sk ok es n src (bs.set e.to.toNat true):=by
 refine ⟨by simp [h.len],get_set_true h.st,?_⟩
 intro x hx
 by_cases e1:x=e.to.toNat
 ·subst e1;exact (h.sound _ hf).more he ho
 ·rw [List.getElem?_set_ne (by omega)] at hx;exact h.sound x hx
theorem ShutTo.next {ok:Ed→Prop} {es:List Ed} {bs:List Bool} {i:Nat} {e:Ed} (h:ShutTo ok es bs i) (he:es[i]? = some e) (h2:ok e→bs[e.fr.toNat]? = some true→bs[e.to.toNat]? = some true):ShutTo ok es bs (i+1):=by
 intro j x hj hx ho hf
 by_cases e1:j=i
 ·subst e1;rw [he] at hx;cases hx;exact h2 ho hf
 ·exact h j x (by omega) hx ho hf
structure Rd4 (w wr:World) (G n:Nat) (ev sv:Value) (gi go:Int) (es:List Ed) (Q:TP) (ps:List Pt) (ss:List (St×Value)) (root win:Int) (bs:List Bool):Prop where
 gr:Gr wr G n ev sv gi go
 ge:GE wr G ev es
 tr:TreeR wr Q ps ss root win
 row:Row wr w.heap.size 4 (bs.map bool)
 nw:Nw w wr
theorem Rd4.next {w wr w':World} {G n:Nat} {ev sv:Value} {gi go:Int} {es:List Ed} {Q:TP} {ps:List Pt} {ss:List (St×Value)} {root win:Int} {bs:List Bool} (h:Rd4 w wr G n ev sv gi go es Q ps ss root win bs) (k:Nw wr w'):Rd4 w w' G n ev sv gi go es Q ps ss root win bs :=
 ⟨h.gr.sm (k.sm h.gr.lt (fun h=>h)),h.ge.nw k,h.tr.nw k,h.row.kp k (fun h=>h),h.nw.trans k⟩
def hasF (l:List Int) (k:Int):Int:=if k=4 then 0 else if 0≤k∧k<l.length then l.getD k.toNat 0 - 48 else -1
def f0:Fm:=⟨0,0,0,0,0⟩
structure FmAt (w:World) (b:Nat) (f:Fm):Prop where
 c0:w.cell? ⟨b,0,none⟩=some (.int .i64 f.st)
 c1:w.cell? ⟨b,1,none⟩=some (.int .i64 f.op)
 c2:w.cell? ⟨b,2,none⟩=some (.int .i64 f.dg)
 c3:w.cell? ⟨b,3,none⟩=some (.int .i64 f.tm)
 c4:w.cell? ⟨b,4,none⟩=some (.int .i64 f.lw)
 z0:w.frozen? ⟨b,0,none⟩=false
 z1:w.frozen? ⟨b,1,none⟩=false
 z2:w.frozen? ⟨b,2,none⟩=false
 z3:w.frozen? ⟨b,3,none⟩=false
 z4:w.frozen? ⟨b,4,none⟩=false
theorem FmAt.alloc {w:World} {b:Nat} {g:Fm} (h:FmAt w b g) (hb:b<w.heap.size) (o:Obj):FmAt (w.alloc o) b g:=by
 obtain ⟨h0,h1,h2,h3,h4,h5,h6,h7,h8,h9⟩:=h
 constructor <;> simp [go_sem,h0,h1,h2,h3,h4,h5,h6,h7,h8,h9,hb,World.cell?_alloc_past,World.frozen?_alloc_past]
theorem FmAt.other {w:World} {b:Nat} {g:Fm} (h:FmAt w b g) {c:Nat} (hc:¬c=b) (o:Nat) (v:Value):FmAt (w.setCell ⟨c,o,none⟩ v) b g:=by
 obtain ⟨h0,h1,h2,h3,h4,h5,h6,h7,h8,h9⟩:=h
 have hc':¬b=c:=fun e=>hc e.symm
 constructor <;> simp [go_sem,h0,h1,h2,h3,h4,h5,h6,h7,h8,h9,hc,hc']
structure TreeF (w:World) (Q:TP) (ps:List Pt) (ss:List (St×Value)) (root win:Int):Prop where
 r:TreeR w Q ps ss root win
 tests:∀x∈ss,w.ownsRow 0 38 11 x.2 x.1.tests.length (tssC x.1.tests)
 tl:∀x∈ss,x.1.tests.length≤1000
theorem TreeF.nw {w w':World} {Q:TP} {ps:List Pt} {ss:List (St×Value)} {root win:Int} (h:TreeF w Q ps ss root win) (k:Nw w w'):TreeF w' Q ps ss root win :=
 ⟨h.r.nw k,fun x hx=>owns_kp (h.tests x hx) k (fun _ _ h=>h),h.tl⟩
structure GQ (w:World) (G n:Nat) (ev sv:Value) (gi go:Nat) (es:List Ed) (Q:TP) (ps:List Pt) (ss:List (St×Value)) (root win:Int):Prop where
 gr:Gr w G n ev sv gi go
 ge:GE w G ev es
 tf:TreeF w Q ps ss root win
 hn:n≤100000
 hgi:gi<n
 hgo:go<n
 ok:∀e∈es,0≤e.fr∧e.fr<n∧0≤e.to∧e.to<n
theorem GQ.nw {w w':World} {G n:Nat} {ev sv:Value} {gi go:Nat} {es:List Ed} {Q:TP} {ps:List Pt} {ss:List (St×Value)} {root win:Int} (h:GQ w G n ev sv gi go es Q ps ss root win) (k:Nw w w'):GQ w' G n ev sv gi go es Q ps ss root win :=
 ⟨h.gr.sm (k.sm h.gr.lt (fun h=>h)),h.ge.nw k,h.tf.nw k,h.hn,h.hgi,h.hgo,h.ok⟩
theorem owns_lenL {w:World} {base n size:Nat} {e:TypeId} {v:Value} {xs:List Value} (h:w.ownsRow base e size v n xs):∃p c,v=.slice p n c:=by
 rcases h.2 with ⟨h2,h3⟩ | ⟨g',cap',cur,h2,_⟩
 ·exact ⟨none,0,by rw [h2,h3]⟩
 ·exact ⟨_,_,h2⟩
def ReadP (hs:Int→Int) (ss:List (St×Value)) (es:List Ed) (gi:Nat) (k:Nat) (kind of field:Int):Prop :=
 of=0∨(of=1∧field≤hs kind)∨(¬of=0∧¬of=1∧¬Rc (okE ss true (of - 2)) es gi (edOf (k:Int) es).fr.toNat∧0≤kOf (of - 2) ss∧field≤hs (kOf (of - 2) ss))
def isNew (ss:List (St×Value)) (i:Nat) (n:Int):Bool:=decide (0≤n)&&(ss.take i).all (fun y=>y.1.name != n)
def slotsTo (ss:List (St×Value)):Nat→List Int
 | 0=>[]
 | i+1=>match ss[i]? with
  | none=>slotsTo ss i
  | some x=>if isNew ss i x.1.name=true then slotsTo ss i++[x.1.name] else slotsTo ss i
theorem slotsTo_len (ss:List (St×Value)):∀i,(slotsTo ss i).length≤i:=by
 intro i
 induction i with
 | zero=>simp [slotsTo]
 | succ i ih =>
  simp only [slotsTo]
  split
  ·omega
  ·split
   ·simp;omega
   ·omega
def Small' (ps:List Pt) (ss:List (St×Value)) (root:Nat):Prop:=(∀x∈ss,x.1.tests.length≤4)∧lg ps (root+1) root≤24∧(slotsTo ss ss.length).length≤4
section
theorem Sub.drop {L:List Tok} {lo:Nat} {u:List Tok} (h:Sub L lo u):L.drop lo=u++L.drop (lo+u.length):=by
 induction u generalizing lo with
 | nil=>simp
 | cons c r ih =>
  rw [dropT h.head,ih h.tail]
  simp [Nat.add_assoc,Nat.add_comm 1]
def NoAt (u:List Tok):Prop:=∀c∈u,¬c.1=64
theorem NoAt.nil:NoAt []:=by intro c hc;cases hc
theorem NoAt.append {u v:List Tok} (h:NoAt u) (h2:NoAt v):NoAt (u++v):=by
 intro c hc
 rcases List.mem_append.1 hc with e|e
 ·exact h c e
 ·exact h2 c e
theorem NoAt.cons {c:Tok} {u:List Tok} (hc:¬c.1=64) (h:NoAt u):NoAt (c::u):=by
 intro d hd
 rcases List.mem_cons.1 hd with e|e
 ·subst e;exact hc
 ·exact h d e
section
variable {α:Type} {ya:α→List Tok→Prop}
end
end
theorem eqb_no {a b:Int} (h:¬a=b):(a == b)=false:=by simp [h]
def ReachZ (w:World) (R g cap gb:Nat) (l:List In) (bs:List Bool) (q:List Nat) (e:Ending) (w':World):Prop :=
 e=.returned (.tuple #[])∧∃ov',WS w' R g cap gb l ov' bs q∧Kp (fun b=>gb≤b) w w'
theorem reachZ_any (R g cap gb:Nat) (z:Int) (l:List In) (ov:Value) (bs:List Bool) (q:List Nat) (w:World) (h:WS w R g cap gb l ov bs q) (hz:z = -1∨∃j:Nat,z=j∧j<l.length) (hn:l.length≤1000) :
  Calls Tryz.prog 182 #[.pointer (some ⟨R,0,none⟩),.int .i64 z] w (ReachZ w R g cap gb l (mkB bs z) (mkQ bs q z)):=by
 rcases hz with rfl|⟨j,rfl,hj⟩
 ·have H:Hid (WS w R g cap gb l ov bs q):=h
  obtain ⟨⟨c0,c1,c2,fz⟩,hcode,hrow,hown,hlen,hcnt,hg,hR,hne⟩:=h
  rw [mkB_neg,mkQ_neg]
  go_enter Tryz.func182,Tryz.ntmps182
  go_wp2
  go_end0
  exact ⟨rfl,ov,H.out,Kp.refl _ _⟩
 ·refine (reach_any R g cap gb j l ov bs q w h hj hn).mono ?_
  rintro e w' ⟨rfl,h1⟩
  refine ⟨rfl,?_⟩
  rcases h1 with ⟨hb,rfl⟩ | ⟨hb,ov',hw,hk⟩
  ·refine ⟨ov,?_,Kp.refl _ _⟩
   have e1:mkB bs (j:Int)=bs:=by simp [mkB,hb]
   have e2:mkQ bs q (j:Int)=q:=by simp [mkQ,hb]
   rw [e1,e2];exact h
  ·refine ⟨ov',?_,hk⟩
   have e1:mkB bs (j:Int)=bs.set j true:=by simp [mkB,hb]
   have e2:mkQ bs q (j:Int)=q++[j]:=by simp [mkQ,hb]
   rw [e1,e2];exact hw
theorem nextOf_any (x:In) (i:Nat) (w:World) (hi:i≤1000) :
  Calls Tryz.prog 222 #[insV x,.int .i64 i] w fun e w'=>e=.returned (.tuple #[.int .i64 (nx1 x i),.int .i64 (nx2 x i)])∧Nw w w':=by
 obtain ⟨o,a,b,⟨⟨t1,t2,t3⟩,t4,⟨t5,t6,t7⟩,t8,⟨t9,t10,t11⟩⟩⟩:=x
 simp only [insV,nx1,nx2]
 by_cases h4:o=4
 ·subst h4
  go_enter Tryz.func222,Tryz.ntmps222
  go_wp2
  go_quiet (fail)
  go_wp2
  go_ret2
  exact ⟨rfl,((Kp.refl _ _).alloc _).drewN _⟩
 by_cases h5:o=5
 ·subst h5
  go_enter Tryz.func222,Tryz.ntmps222
  go_wp2
  go_quiet (fail)
  go_wp2
  go_ret2
  exact ⟨rfl,((Kp.refl _ _).alloc _).drewN _⟩
 by_cases h6:o=6
 ·subst h6
  go_enter Tryz.func222,Tryz.ntmps222
  go_wp2
  go_ret2
  exact ⟨rfl,(Kp.refl _ _).alloc _⟩
 ·simp only [if_neg h4,if_neg h5,if_neg h6]
  have n4:=eqb_no h4
  have n5:=eqb_no h5
  have n6:=eqb_no h6
  clear h4 h5 h6
  go_enter Tryz.func222,Tryz.ntmps222
  go_wp2
  go_ret2
  exact ⟨rfl,(Kp.refl _ _).alloc _⟩
theorem nx_ok {l:List In} (hA:AllIns l) {i:Nat} {x:In} (hx:l[i]? = some x):(nx1 x i = -1∨∃j:Nat,nx1 x i=j∧j<l.length)∧(nx2 x i = -1∨∃j:Nat,nx2 x i=j∧j<l.length):=by
 rcases nx_spec hA hx with ⟨h6,e1,e2,e3⟩ | ⟨h6,j1,j2,e1,e2,l1,l2,e3⟩
 ·exact ⟨Or.inl e1,Or.inl e2⟩
 ·exact ⟨Or.inr ⟨j1,e1,l1⟩,Or.inr ⟨j2,e2,l2⟩⟩
theorem WS.nw {w w':World} {R g cap gb:Nat} {l:List In} {ov:Value} {bs:List Bool} {q:List Nat} (h:WS w R g cap gb l ov bs q) (k:Nw w w'):WS w' R g cap gb l ov bs q :=
 ⟨h.wk.sm (k.sm h.wk.lt (fun h=>h)),h.code.kp k (fun h=>h),h.row.kp k (fun h=>h),owns_kp h.own k (fun _ _ h=>h),h.len,h.cnt,h.hg,h.hR,h.ne⟩
theorem leave_any (R g cap gb:Nat) (l:List In) (ov:Value) (bs:List Bool) (q:List Nat) (x:Nat) (v:In) (w:World) (h:WS w R g cap gb l ov bs q) (hv:l[x]? = some v) (hA:AllIns l) (hn:l.length≤1000) :
  Calls Tryz.prog 183 #[.pointer (some ⟨R,0,none⟩),.int .i64 x] w (ReachZ w R g cap gb l (mkB (mkB bs (nx1 v x)) (nx2 v x)) (mkQ (mkB bs (nx1 v x)) (mkQ bs q (nx1 v x)) (nx2 v x))):=by
 have hxl:x<l.length:=(List.getElem?_eq_some_iff.1 hv).1
 obtain ⟨z1,z2⟩:=nx_ok hA hv
 have H:Hid (WS w R g cap gb l ov bs q):=h
 have Z1:Hid (nx1 v x = -1∨∃j:Nat,nx1 v x=j∧j<l.length):=z1
 have Z2:Hid (nx2 v x = -1∨∃j:Nat,nx2 v x=j∧j<l.length):=z2
 obtain ⟨d0,d1,d2,d3,d4,d5,d6,d7,d8,d9,d10,d11,d12,d13⟩:=(h.code.ins x v hv).cells
 obtain ⟨⟨c0,c1,c2,fz⟩,_,_,_,hlen,hcnt,hg,hR,hne⟩:=h
 have hl:R<w.heap.size:=H.out.wk.lt
 have hRg:¬R=g:=by omega
 have hgR:¬g=R:=by omega
 have hx1:x≤1000:=by omega
 clear hv z1 z2
 go_enter Tryz.func183,Tryz.ntmps183
 go_wp2_with fail
 refine (nextOf_any v x _ hx1).mono ?_
 rintro e w1 ⟨rfl,k1⟩
 have H1:Hid (WS w1 R g cap gb l ov bs q):=H.out.nw k1
 have K1:Hid (Kp (fun b=>gb≤b) w w1):=k1.mono (fun _ _ h=>False.elim h)
 clear k1 d0 d1 d2 d3 d4 d5 d6 d7 d8 d9 d10 d11 d12 d13 c0 c1 c2 fz
 generalize nx1 v x=n1 at *
 generalize nx2 v x=n2 at *
 go_wp2_with fail
 refine (reachZ_any R g cap gb n1 l ov bs q w1 H1.out Z1.out hn).mono ?_
 rintro e w2 ⟨rfl,ov2,hw2,k2⟩
 have H2:Hid (WS w2 R g cap gb l ov2 (mkB bs n1) (mkQ bs q n1)):=hw2
 have K2:Hid (Kp (fun b=>gb≤b) w w2):=K1.out.trans k2
 clear hw2 k2
 go_wp2_with fail
 refine (reachZ_any R g cap gb n2 l ov2 _ _ w2 H2.out Z2.out hn).mono ?_
 rintro e w3 ⟨rfl,ov3,hw3,k3⟩
 go_wp2
 go_end0
 exact ⟨rfl,ov3,hw3,K2.out.trans k3⟩
end Go.Proofs.YtcboiapggnmpfaaGreat
