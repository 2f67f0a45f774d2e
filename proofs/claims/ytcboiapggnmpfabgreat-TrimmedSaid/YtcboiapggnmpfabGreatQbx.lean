import Derived.Test.YtcboiapggnmpfabGreatQbw
import Derived.Test.YtcboiapggnmpfabGreatQac
import Derived.Test.YtcboiapggnmpfabGreatQbp
namespace Go.Proofs.YtcboiapggnmpfabGreat
set_option maxRecDepth 100000
set_option maxHeartbeats 4000000
set_option linter.unusedSimpArgs false
set_option linter.unusedVariables false
open Go.RowKit
def shI (d:Int) (x:In):In:=⟨x.op,if x.op=4∨x.op=5 then x.a+d else x.a,if x.op=5 then x.b+d else x.b,x.test⟩
def Emb (code c2:List In) (d:Nat):Prop:=∀(i:Nat) x,code[i]? = some x→c2[d+i]? = some (shI d x)
def upT (d:Nat) (t:Thr):Thr:=⟨t.at'+d,t.first,t.began,t.h0,t.h1,t.h2,t.h3⟩
theorem up_hd (d:Nat) (t:Thr) (i:Nat):(upT d t).hd i=t.hd i:=by
 match i with
 | 0=>rfl
 | 1=>rfl
 | 2=>rfl
 | (i+3)=>rfl
theorem up_held (d:Nat) (hand:Nmb) (t:Thr) (p:Int) (an:Nat):heldS hand (upT d t) p an=heldS hand t p an:=by
 unfold heldS
 rw [up_hd]
theorem up_so (d:Nat) (hand:Nmb) (t:Thr) (an:Nat) (x:Tst):soS hand (upT d t) an x=soS hand t an x:=by
 unfold soS rsideS valS
 simp only [up_held]
theorem up_thread (d:Nat) (hand:Nmb) (t:Thr) (a:Int) (an:Nat):threadS hand (upT d t) a an=threadS hand t a an:=by
 unfold threadS
 simp only [up_held]
 rfl
theorem up_nx (d:Nat) (hand:Nmb) (t:Thr) (x:In) (a:Int) (an:Nat) (q:Int×Nat):q∈nxS hand (upT d t) (shI d x) (a+d) an↔∃p∈nxS hand t x a an,q=(p.1+d,p.2):=by
 unfold nxS
 rw [up_so]
 show q∈(if x.op=0 then [] else if x.op=1 then (if hand.e.at' - t.began≤(shI d x).a then [(a+d+1,an)] else []) else if x.op=2 then (if soS hand t an x.test=true then [(a+d+1,an)] else []) else if x.op=3 then [(a+d+1,an ||| bitN (shI d x).a)] else if x.op=4 then [((shI d x).a,an)] else if x.op=5 then [((shI d x).a,an),((shI d x).b,an)] else [])↔_
 have e1:a+(d:Int)+1=a+1+d:=by omega
 rw [e1]
 by_cases h0:x.op=0
 ·simp [h0]
 rw [if_neg h0,if_neg h0]
 by_cases h1:x.op=1
 ·have ea:(shI d x).a=x.a:=by simp [shI,h1]
  rw [if_pos h1,if_pos h1,ea]
  by_cases hc:hand.e.at' - t.began≤x.a
  ·simp [hc]
  ·simp [hc]
 rw [if_neg h1,if_neg h1]
 by_cases h2:x.op=2
 ·rw [if_pos h2,if_pos h2]
  by_cases hc:soS hand t an x.test=true
  ·simp [hc]
  ·simp [hc]
 rw [if_neg h2,if_neg h2]
 by_cases h3:x.op=3
 ·have ea:(shI d x).a=x.a:=by simp [shI,h3]
  rw [if_pos h3,if_pos h3,ea]
  simp
 rw [if_neg h3,if_neg h3]
 by_cases h4:x.op=4
 ·have ea:(shI d x).a=x.a+d:=by simp [shI,h4]
  rw [if_pos h4,if_pos h4,ea]
  simp
 rw [if_neg h4,if_neg h4]
 by_cases h5:x.op=5
 ·have ea:(shI d x).a=x.a+d:=by simp [shI,h5]
  have eb:(shI d x).b=x.b+d:=by simp [shI,h5]
  rw [if_pos h5,if_pos h5,ea,eb]
  simp
 rw [if_neg h5,if_neg h5]
 simp
theorem emb_at {code c2:List In} {d:Nat} (hE:Emb code c2 d) {a:Int} (h0:0≤a) {x:In} (hx:code[a.toNat]? = some x):c2[(a+d).toNat]? = some (shI d x):=by
 rw [show (a+(d:Int)).toNat=d+a.toNat by omega]
 exact hE _ x hx
theorem up_rc {code c2:List In} {d:Nat} (hE:Emb code c2 d) (hI:Inb code) {hand:Nmb} {t:Thr} (ht:AtTk code t) {b:Int} {an:Nat}:RcT c2 hand (upT d t) b an↔∃a,b=a+d∧RcT code hand t a an:=by
 constructor
 ·intro h
  induction h with
  | zero=>exact ⟨t.at'+1,by show t.at'+d+1=_;omega,.zero⟩
  | next h1 h2 h3 ih =>
   obtain ⟨a,rfl,hr⟩:=ih
   obtain ⟨r1,r2,_⟩:=rc_in hI ht hr
   obtain ⟨x,hx⟩:∃x,code[a.toNat]? = some x:=⟨code[a.toNat]'(by omega),by simp⟩
   rw [emb_at hE r1 hx] at h2
   cases h2
   obtain ⟨p,hp,e⟩:=(up_nx d hand t x a _ _).1 h3
   obtain ⟨p1,p2⟩:=p
   cases e
   exact ⟨p1,rfl,.next hr hx hp⟩
 ·rintro ⟨a,rfl,h⟩
  induction h with
  | zero =>
   have:=RcT.zero (code:=c2) (hand:=hand) (t:=upT d t)
   rw [show (upT d t).at'+1=t.at'+1+d by show t.at'+d+1=_;omega] at this
   exact this
  | next h1 h2 h3 ih =>
   rename_i a an x b bn
   obtain ⟨r1,_,_⟩:=rc_in hI ht h1
   exact .next ih (emb_at hE r1 h2) ((up_nx d hand t x a an _).2 ⟨_,h3,rfl⟩)
def TkT (code:List In) (t:Thr):Prop:=AtTk code t∧∃x,code[t.at'.toNat]? = some x∧x.op=0
theorem up_goW {code c2:List In} {d:Nat} (hE:Emb code c2 d) (hI:Inb code) {hand:Nmb} {t:Thr} (ht:TkT code t) (u:Thr):GoW c2 hand (upT d t) u↔∃v,GoW code hand t v∧u=upT d v:=by
 obtain ⟨ha,x0,hx0,h00⟩:=ht
 have e0:c2[(upT d t).at'.toNat]? = some (shI d x0):=emb_at hE ha.1 hx0
 have ea:(shI d x0).a=x0.a:=by simp [shI,h00]
 constructor
 ·rintro ⟨x,hx,hk,b,an,y,hr,hy,ho,rfl⟩
  obtain ⟨a,rfl,hr2⟩:=(up_rc hE hI ha).1 hr
  obtain ⟨r1,r2,_⟩:=rc_in hI ha hr2
  obtain ⟨z,hz⟩:∃z,code[a.toNat]? = some z:=⟨code[a.toNat]'(by omega),by simp⟩
  rw [emb_at hE r1 hz] at hy
  cases hy
  rw [e0] at hx
  cases hx
  rw [ea] at hk
  refine ⟨threadS hand t a an,⟨x0,hx0,hk,a,an,z,hr2,hz,ho,rfl⟩,?_⟩
  rw [up_thread];rfl
 ·rintro ⟨v,⟨x,hx,hk,a,an,y,hr,hy,ho,rfl⟩,rfl⟩
  rw [hx0] at hx
  cases hx
  obtain ⟨r1,r2,_⟩:=rc_in hI ha hr
  refine ⟨shI d x0,e0,by rw [ea];exact hk,a+d,an,shI d y,(up_rc hE hI ha).2 ⟨a,rfl,hr⟩,emb_at hE r1 hy,ho,?_⟩
  rw [up_thread];rfl
theorem up_goE {code c2:List In} {d:Nat} (hE:Emb code c2 d) (hI:Inb code) {hand:Nmb} {t:Thr} (ht:TkT code t) (u:Thr):GoE c2 hand (upT d t) u↔GoE code hand t u:=by
 obtain ⟨ha,x0,hx0,h00⟩:=ht
 have e0:c2[(upT d t).at'.toNat]? = some (shI d x0):=emb_at hE ha.1 hx0
 have ea:(shI d x0).a=x0.a:=by simp [shI,h00]
 constructor
 ·rintro ⟨x,hx,hk,b,an,y,hr,hy,ho,rfl⟩
  obtain ⟨a,rfl,hr2⟩:=(up_rc hE hI ha).1 hr
  obtain ⟨r1,r2,_⟩:=rc_in hI ha hr2
  obtain ⟨z,hz⟩:∃z,code[a.toNat]? = some z:=⟨code[a.toNat]'(by omega),by simp⟩
  rw [emb_at hE r1 hz] at hy
  cases hy
  rw [e0] at hx
  cases hx
  rw [ea] at hk
  exact ⟨x0,hx0,hk,a,an,z,hr2,hz,ho,up_thread _ _ _ _ _⟩
 ·rintro ⟨x,hx,hk,a,an,y,hr,hy,ho,rfl⟩
  rw [hx0] at hx
  cases hx
  obtain ⟨r1,r2,_⟩:=rc_in hI ha hr
  exact ⟨shI d x0,e0,by rw [ea];exact hk,a+d,an,shI d y,(up_rc hE hI ha).2 ⟨a,rfl,hr⟩,emb_at hE r1 hy,ho,(up_thread _ _ _ _ _).symm⟩
theorem goW_tk {code:List In} (hI:Inb code) {hand:Nmb} {t u:Thr} (ht:AtTk code t) (h:GoW code hand t u):TkT code u:=by
 refine ⟨goW_at hI ht h,?_⟩
 obtain ⟨x,_,_,a,an,y,hr,hy,ho,rfl⟩:=h
 exact ⟨y,hy,ho⟩
structure EmbK (code c2:List In) (d:Nat) (bs bs2:List Nat) (S:Int→Prop):Prop where
 e:Emb code c2 d
 i:Inb code
 b:∀b∈bs,b+1<code.length∧∃x,code[b]? = some x∧x.op=0
 b2:∀b∈bs2,(∃b'∈bs,b=b'+d)∨S b
 b3:∀b∈bs,b+d∈bs2
 w:∀hand t,S t.at'→∀u,GoW c2 hand t u→S u.at'
 n:∀hand t,S t.at'→∀u,¬GoE c2 hand t u
theorem EmbK.new {code c2:List In} {d:Nat} {bs bs2:List Nat} {S:Int→Prop} (h:EmbK code c2 d bs bs2 S) {b:Nat} (hb:b∈bs) (hand:Nmb):TkT code (newT (b:Int) hand):=by
 obtain ⟨h1,x,hx,h0⟩:=h.b b hb
 exact ⟨new_at h1,x,by simpa [newT] using hx,h0⟩
theorem up_new (d b:Nat) (hand:Nmb):newT ((b+d:Nat):Int) hand=upT d (newT (b:Int) hand):=by
 unfold newT upT
 simp
theorem wt_up {code c2:List In} {d:Nat} {bs bs2:List Nat} {S:Int→Prop} (h:EmbK code c2 d bs bs2 S) {L:List Evt}:∀(i:Nat) (u:Thr),(Wt c2 bs2 L i u→(∃v,Wt code bs L i v∧u=upT d v)∨S u.at')∧(Wt code bs L i u→Wt c2 bs2 L i (upT d u)∧TkT code u):=by
 intro i
 induction i with
 | zero=>intro u;exact ⟨fun h=>h.elim,fun h=>h.elim⟩
 | succ i ih =>
  intro u
  constructor
  ·rintro ⟨e,t,he,ht,hg⟩
   rcases ht with ht|⟨b,hb,rfl⟩
   ·rcases (ih t).1 ht with ⟨v,hv,rfl⟩ | hs
    ·obtain ⟨u',hu',rfl⟩:=(up_goW h.e h.i ((ih v).2 hv).2 u).1 hg
     exact Or.inl ⟨u',⟨e,v,he,Or.inl hv,hu'⟩,rfl⟩
    ·exact Or.inr (h.w _ t hs u hg)
   ·rcases h.b2 b hb with ⟨b',hb',rfl⟩ | hs
    ·rw [up_new] at hg
     obtain ⟨u',hu',rfl⟩:=(up_goW h.e h.i (h.new hb' _) u).1 hg
     exact Or.inl ⟨u',⟨e,_,he,Or.inr ⟨b',hb',rfl⟩,hu'⟩,rfl⟩
    ·exact Or.inr (h.w _ _ hs u hg)
  ·rintro ⟨e,t,he,ht,hg⟩
   have htk:TkT code t:=by
    rcases ht with ht|⟨b,hb,rfl⟩
    ·exact ((ih t).2 ht).2
    ·exact h.new hb _
   refine ⟨⟨e,upT d t,he,?_,(up_goW h.e h.i htk _).2 ⟨u,hg,rfl⟩⟩,goW_tk h.i htk.1 hg⟩
   rcases ht with ht|⟨b,hb,rfl⟩
   ·exact Or.inl ((ih t).2 ht).1
   ·exact Or.inr ⟨b+d,h.b3 b hb,(up_new d b _).symm⟩
theorem et_up {code c2:List In} {d:Nat} {bs bs2:List Nat} {S:Int→Prop} (h:EmbK code c2 d bs bs2 S) {L:List Evt} {i:Nat} (u:Thr):Et c2 bs2 L i u↔Et code bs L i u:=by
 constructor
 ·rintro ⟨e,t,he,ht,hg⟩
  rcases ht with ht|⟨b,hb,rfl⟩
  ·rcases (wt_up h i t).1 ht with ⟨v,hv,rfl⟩ | hs
   ·exact ⟨e,v,he,Or.inl hv,(up_goE h.e h.i ((wt_up h i v).2 hv).2 u).1 hg⟩
   ·exact absurd hg (h.n _ t hs u)
  ·rcases h.b2 b hb with ⟨b',hb',rfl⟩ | hs
   ·rw [up_new] at hg
    exact ⟨e,_,he,Or.inr ⟨b',hb',rfl⟩,(up_goE h.e h.i (h.new hb' _) u).1 hg⟩
   ·exact absurd hg (h.n _ _ hs u)
 ·rintro ⟨e,t,he,ht,hg⟩
  rcases ht with ht|⟨b,hb,rfl⟩
  ·exact ⟨e,upT d t,he,Or.inl ((wt_up h i t).2 ht).1,(up_goE h.e h.i ((wt_up h i t).2 ht).2 u).2 hg⟩
  ·exact ⟨e,upT d (newT (b:Int) ⟨i,e⟩),he,Or.inr ⟨b+d,h.b3 b hb,(up_new d b _).symm⟩,(up_goE h.e h.i (h.new hb _) u).2 hg⟩
theorem emb_out {code c2:List In} {d:Nat} {bs bs2:List Nat} {S:Int→Prop} (h:EmbK code c2 d bs bs2 S) (hI2:Inb c2) (hb2:∀b∈bs2,b+1<c2.length) {sc:List Int} {L:List Evt}
  (hok:∀i e,L[i]? = some e→(feedS sc code bs 200 200 (runS sc code bs 200 200 ⟨[],0,0,false⟩ (L.take i)) e).2.2=0)
  (hok2:∀i e,L[i]? = some e→(feedS sc c2 bs2 200 200 (runS sc c2 bs2 200 200 ⟨[],0,0,false⟩ (L.take i)) e).2.2=0) :
  outS sc c2 bs2 200 200 ⟨[],0,0,false⟩ L=outS sc code bs 200 200 ⟨[],0,0,false⟩ L:=by
 apply outS_ext
 intro i e he
 obtain ⟨E,h1,h2,h3⟩:=out_mean hI2 hb2 hok2 i e he
 obtain ⟨E0,g1,g2,g3⟩:=out_mean h.i (fun b hb=>(h.b b hb).1) hok i e he
 have:E=E0:=by
  refine Srt.eq h2 g2 fun u => ?_
  rw [h3,g3,et_up h]
 rw [h1,g1,this]
def moreOf (code:List In):List In:=[⟨5,3,1,tst0⟩,⟨0,4,0,tst0⟩,⟨4,1,0,tst0⟩]++code.map (shI 3)++[⟨0,0,0,tst0⟩,⟨6,0,0,tst0⟩]
def trimOf (code:List In):List In:=⟨4,1,0,tst0⟩::code.map (shI 1)
theorem more_emb (code:List In):Emb code (moreOf code) 3:=by
 intro i x hx
 have hl:=(List.getElem?_eq_some_iff.1 hx).1
 unfold moreOf
 rw [List.append_assoc,List.getElem?_append_right (by simp),List.getElem?_append_left (by simp;omega)]
 simp [hx]
theorem trim_emb (code:List In):Emb code (trimOf code) 1:=by
 intro i x hx
 unfold trimOf
 rw [show 1+i=i+1 by omega,List.getElem?_cons_succ,List.getElem?_map,hx]
 rfl
theorem more_stay (code:List In) {hand:Nmb} {t:Thr} (h:t.at'=1) {a:Int} {an:Nat} (hr:RcT (moreOf code) hand t a an):a=2∨a=1:=by
 induction hr with
 | zero=>left;omega
 | next h1 h2 h3 ih =>
  rename_i a an x b bn
  rcases ih with rfl|rfl
  ·have e:(moreOf code)[(2:Int).toNat]? = some ⟨4,1,0,tst0⟩:=by simp [moreOf]
   rw [e] at h2
   cases h2
   simp [nxS] at h3
   right;exact h3.1
  ·have e:(moreOf code)[(1:Int).toNat]? = some ⟨0,4,0,tst0⟩:=by simp [moreOf]
   rw [e] at h2
   cases h2
   simp [nxS] at h3
theorem more_w (code:List In) (hand:Nmb) (t:Thr) (h:t.at'=1) (u:Thr) (hg:GoW (moreOf code) hand t u):u.at'=1:=by
 obtain ⟨x,hx,hk,a,an,y,hr,hy,ho,rfl⟩:=hg
 show a=1
 rcases more_stay code h hr with rfl|rfl
 ·have e:(moreOf code)[(2:Int).toNat]? = some ⟨4,1,0,tst0⟩:=by simp [moreOf]
  rw [e] at hy
  cases hy
  simp at ho
 ·rfl
theorem more_n (code:List In) (hand:Nmb) (t:Thr) (h:t.at'=1) (u:Thr):¬GoE (moreOf code) hand t u:=by
 rintro ⟨x,hx,hk,a,an,y,hr,hy,ho,rfl⟩
 rcases more_stay code h hr with rfl|rfl
 ·have e:(moreOf code)[(2:Int).toNat]? = some ⟨4,1,0,tst0⟩:=by simp [moreOf]
  rw [e] at hy
  cases hy
  simp at ho
 ·have e:(moreOf code)[(1:Int).toNat]? = some ⟨0,4,0,tst0⟩:=by simp [moreOf]
  rw [e] at hy
  cases hy
  simp at ho
theorem dot_run {sc:List Int}:∀(L:List Evt) (n:Nat) (last:Int),GoesE sc last L→(∀i e,L[i]? = some e→(feedS sc ncode10 [1] 200 200 (runS sc ncode10 [1] 200 200 ⟨[],n,last,false⟩ (L.take i)) e).2.2=0)∧(∀i,i<L.length→(outS sc ncode10 [1] 200 200 ⟨[],n,last,false⟩ L)[i]? = some [⟨(n+i:Nat),(n+i:Nat),-1,-1,-1,-1⟩]):=by
 intro L
 induction L with
 | nil=>intro n last _;exact ⟨fun i e h=>by simp at h,fun i h=>by simp at h⟩
 | cons x L ih =>
  intro n last h
  obtain ⟨_,hg,ht,hr⟩:=h
  have hf:=dot_feed (sc:=sc) (n:=n) hg ht
  obtain ⟨i1,i2⟩:=ih (n+1) x.at' hr
  refine ⟨?_,?_⟩
  ·intro i e hi
   match i,hi with
   | 0,hi =>
    simp only [List.getElem?_cons_zero,Option.some.injEq] at hi
    subst hi
    show (feedS sc ncode10 [1] 200 200 ⟨[],n,last,false⟩ x).2.2=0
    rw [hf]
   | i+1,hi =>
    rw [List.take_succ_cons,runS_cons,hf]
    exact i1 i e (by simpa using hi)
  ·intro i hi
   unfold outS
   rw [hf]
   match i,hi with
   | 0,_=>rfl
   | i+1,hi =>
    rw [List.getElem?_cons_succ,i2 i (by simpa using hi),show n+1+i=n+(i+1) by omega]
theorem dot_pat {L:List Evt} (h:GoesE (bI ⟨#[49,49,49]⟩) 0 L):PatK ⟨#[46]⟩ ncode10 L:=by
 refine ⟨nprog10,by decide,?_⟩
 rw [dot_begins]
 exact (dot_run L 0 0 h).1
theorem awake_any (p:Option Addr) (ec:Nat) (L:List Evt) (w:World) (he:EvsP w p L) (hge:∀g,p=some ⟨g,0,none⟩→g<w.heap.size) (hL:L.length≤1000) (hev:∀e∈L,EvOk e) (hgo:GoesE (bI ⟨#[49,49,49]⟩) 0 L) :
  Calls Tryz.prog 12 #[.slice p L.length ec] w fun e w'=>e=.returned (.bool true)∧Nw w w':=by
 have HFO:Hid (Calls Tryz.prog 11 #[.string ⟨#[46]⟩,.slice p L.length ec] w fun e w'=>∃v hs,e=.returned (.tuple #[v,.bool true])∧Mds w' w.heap.size v hs∧hs.map (·.2)=outS (bI ⟨#[49,49,49]⟩) ncode10 (beginsS ncode10) 200 200 ⟨[],0,0,false⟩ L∧Nw w w'):=found_any _ _ p ec L w (dot_pat hgo) he hge hL hev
 have HDO:Hid (∀i,i<L.length→(outS (bI ⟨#[49,49,49]⟩) ncode10 (beginsS ncode10) 200 200 ⟨[],0,0,false⟩ L)[i]? = some [⟨(i:Nat),(i:Nat),-1,-1,-1,-1⟩]):=by
  intro i hi
  rw [dot_begins,(dot_run L 0 0 hgo).2 i hi,Nat.zero_add]
 have HLO:Hid ((outS (bI ⟨#[49,49,49]⟩) ncode10 (beginsS ncode10) 200 200 ⟨[],0,0,false⟩ L).length=L.length):=outS_len _ _ _ _ _ _ _
 clear he hge hev hgo
 generalize outS (bI ⟨#[49,49,49]⟩) ncode10 (beginsS ncode10) 200 200 ⟨[],0,0,false⟩ L=O at HFO HDO HLO
 obtain ⟨dd,hu,hd⟩:=Option.map_eq_some_iff.1 Tryz.rowMt'
 go_enter Tryz.func12,Tryz.ntmps12
 go_wp2_with fail
 refine HFO.out.mono ?_
 rintro e1 w1 ⟨v,hs,rfl,hm,ho,k1⟩
 obtain ⟨vp,vc,rfl⟩:=ownsLenX hm.row
 have hlen:hs.length=L.length:=by rw [←HLO.out,←ho];simp
 have HM:Hid (Mds w1 w.heap.size (.slice vp L.length vc) hs):=by rw [hlen] at hm;exact hm
 have HO:Hid (hs.map (·.2)=O):=ho
 have HLN:Hid (hs.length=L.length):=hlen
 have K1:Hid (Nw w w1):=k1
 rw [hlen]
 clear hm ho k1 HFO hlen
 go_wp2
 go_loopg [5] L.length (fun m v5 wr=>∃i:Nat,v5=.int .i64 i∧m=L.length - i∧i≤L.length∧Nw w1 wr)
 case atStart=>exact ⟨0,rfl,rfl,by omega,Kp.refl _ _⟩
 case round =>
  obtain ⟨i,rfl,hmm,hil,hN⟩:=hrel
  have HMM:Hid (_=L.length - i):=hmm
  have HN:Hid (Nw w1 wr):=hN
  clear hmm
  by_cases hi:i<L.length
  ·obtain ⟨x,hx⟩:∃x,hs[i]? = some x:=⟨hs[i]'(by rw [HLN.out];exact hi),by simp [HLN.out,hi]⟩
   obtain ⟨mv,ml⟩:=x
   have hml:ml=[⟨i,i,-1,-1,-1,-1⟩]:=by
    have h1:(hs.map (·.2))[i]? = some ml:=by simp [hx]
    rw [HO.out,HDO.out i hi] at h1
    simpa using h1.symm
   subst hml
   have hme:=HM.out.each _ (List.mem_of_getElem? hx)
   obtain ⟨gm,cm,e2⟩:=owns_some hme (by simp)
   simp only at e2
   subst e2
   have HCA:Hid (∀W,Nw wr W→∀ga,vp=some ⟨ga,0,none⟩→W.cell? ⟨ga,i,none⟩=some (.slice (some ⟨gm,0,none⟩) 1 cm)):=by
    intro W kW ga ega
    subst ega
    have hr:=owns_kp HM.out.row (HN.out.trans kW) (fun _ _ h=>h)
    rw [HLN.out] at hr
    exact owns_cell hr i (by simp [hx])
   have HRA:Hid (∀W,Nw wr W→W.rangeAt gm 0 (mtC ⟨i,i,-1,-1,-1,-1⟩)):=by
    intro W kW j v hv
    rw [Nat.zero_add]
    exact owns_cell (owns_kp hme (HN.out.trans kW) (fun _ _ h=>h)) j hv
   have hmo:MtOk ⟨i,i,-1,-1,-1,-1⟩:=by constructor <;> (unfold In64;constructor <;> (simp only [];omega))
   have HMO:Hid (MtOk ⟨i,i,-1,-1,-1,-1⟩):=hmo
   have hrow:=HM.out.row
   rw [HLN.out] at hrow
   obtain ⟨ga,ca,e3⟩:=owns_some hrow (by omega)
   simp only [Value.slice.injEq,true_and] at e3
   obtain ⟨rfl,rfl⟩:=e3
   have HCA2:Hid (∀W,Nw wr W→W.cell? ⟨ga,i,none⟩=some (.slice (some ⟨gm,0,none⟩) 1 cm)):=fun W kW=>HCA.out W kW ga rfl
   clear HCA
   have HCA:=HCA2
   clear HCA2 hme hrow hx hmo hN
   have hii:(i:Int)<L.length:=by omega
   have hz:0≤(i:Int):=by omega
   go_wp2
   refine wp_region_held_drew (S:=fun W=>Nw wr W) (by kernel_rfl) ((Kp.refl _ _).drew) (fun hHeld => ?_)
   refine tM 0 rfl (fun W hSW=>by (try dsimp only at hSW);go_simp;rw []) hHeld ?_
   refine tM 1 rfl (fun W hSW=>by (try dsimp only at hSW);go_simp;rw []) hHeld ?_
   refine tM 2 rfl (fun W hSW=>by (try dsimp only at hSW);go_simp;rw []) hHeld ?_
   refine tM 3 rfl (fun W hSW=>by (try dsimp only at hSW);have hq:=HCA.out W hSW;go_simp;rw []) hHeld ?_
   refine tM 4 rfl (fun W hSW=>by (try dsimp only at hSW);go_simp;rw []) hHeld ?_
   refine tM 5 rfl (fun W hSW=>by (try dsimp only at hSW);go_simp;rw []) hHeld ?_
   refine tM 6 rfl (fun W hSW=>by (try dsimp only at hSW);go_simp;rw []) hHeld ?_
   refine tM 7 rfl (fun W hSW=>by (try dsimp only at hSW);go_simp;rw []) hHeld ?_
   refine tM 8 rfl (fun W hSW=>by (try dsimp only at hSW);go_simp;rw []) hHeld ?_
   refine tM 9 rfl (fun W hSW=>by (try dsimp only at hSW);go_simp;rw []) hHeld ?_
   refine tM 10 rfl (fun W hSW=>by (try dsimp only at hSW);have hq:=HCA.out W hSW;go_simp;rw []) hHeld ?_
   refine tM 11 rfl (fun W hSW=>by (try dsimp only at hSW);go_simp;rw []) hHeld ?_
   refine tN (i:=12) (v:=_) rfl (yieldsIf_load_mid (by rfl) 36 _ rfl gm (0) rfl (mtC ⟨i,i,-1,-1,-1,-1⟩) dd HRA.out hu hd (size_mt _)) hHeld ?_
   refine tM 13 rfl (fun W hSW=>by (try dsimp only at hSW);go_simp;rw []) hHeld ?_
   refine tM 14 rfl (fun W hSW=>by (try dsimp only at hSW);go_simp;rw []) hHeld ?_
   refine wpAnyH_ready (rs:=[15]) (by kernel_rfl) (by simp) ?_
   refine consL rfl (fun K hK => ?_) AllReadyH.nil
   go_simp
   refine (none_any _).mono ?_
   rintro e5 w5 ⟨rfl,k5⟩
   have k8:Nw wr w5:=((Kp.refl _ _).drew).trans k5
   try dsimp only
   refine hK.out _ _ k8 (fun _ => ?_)
   clear hK K
   try simp only [Act.put,sA,sZ,sS]
   refine tM 16 rfl (fun W hSW=>by (try dsimp only at hSW);go_simp;rw []) k8 ?_
   refine tN (i:=17) (v:=.bool false) rfl (Or.inl ⟨by rfl,fun W hSW=>exec_neqS (u:=⟨i,i,-1,-1,-1,-1⟩) rfl rfl rfl HMO.out W⟩) k8 ?_
   refine tM 18 rfl (fun W hSW=>by (try dsimp only at hSW);go_simp;rw []) k8 ?_
   refine wpAnyH_done (by kernel_rfl) ?_ _
   have K5:Hid (Nw w1 w5):=HN.out.trans k8
   clear k5 k8 HCA HRA
   go_wp2
   go_roundg (L.length - (i+1))
   case measure=>rw [HMM.out];omega
   case rel=>exact ⟨i+1,by simp,rfl,by omega,K5.out⟩
  ·have hii:¬(i:Int)<L.length:=by omega
   go_wp2
   go_ret
   exact ⟨by simp,K1.out.trans HN.out⟩
def RunA (w:World) (X:Nat) (sc:List Int) (live found:Int) (l:List In) (P:Nat→Prop) (r:Rst):Prop :=
 ∃g cap bv,RunK w X sc live found g cap l bv (beginsS l) r∧RunC sc live found l (beginsS l)∧P X∧P g∧(∀b,bv.ownBlock=some b→P b)∧(∀v b,w.cell? ⟨X,9,none⟩=some v→v.ownBlock=some b→P b)
theorem RunA.lt {w:World} {X:Nat} {sc:List Int} {live found:Int} {l:List In} {P:Nat→Prop} {r:Rst} (h:RunA w X sc live found l P r):X<w.heap.size:=by
 obtain ⟨_,_,_,⟨⟨_,h⟩,_,_⟩,_⟩:=h
 exact h.lt
theorem RunA.mono {w:World} {X:Nat} {sc:List Int} {live found:Int} {l:List In} {P Q:Nat→Prop} {r:Rst} (h:RunA w X sc live found l P r) (hPQ:∀b,b<w.heap.size→P b→Q b):RunA w X sc live found l Q r:=by
 have hX:=h.lt
 obtain ⟨g,cap,bv,hk,hc,p1,p2,p3,p4⟩:=h
 obtain ⟨⟨wv,hm⟩,_,_⟩:=id hk
 refine ⟨g,cap,bv,hk,hc,hPQ _ hX p1,hPQ _ hm.code.lt p2,fun b hb=>hPQ _ (hm.bo.lt b hb).2 (p3 b hb),fun v b hv hb=>hPQ _ ?_ (p4 v b hv hb)⟩
 rw [hm.wt] at hv
 cases hv
 exact (hm.wo.lt b hb).2
theorem RunA.kp {S:Nat→Prop} {w w':World} {X:Nat} {sc:List Int} {live found:Int} {l:List In} {P:Nat→Prop} {r:Rst} (h:RunA w X sc live found l P r) (k:Kp S w w') (hS:∀b,b<w.heap.size→P b→¬S b):RunA w' X sc live found l P r:=by
 have hX:=h.lt
 obtain ⟨g,cap,bv,⟨⟨wv,hm⟩,hn,hk⟩,hc,p1,p2,p3,p4⟩:=h
 refine ⟨g,cap,bv,⟨⟨wv,hm.kq k (hS _ hX p1) (hS _ hm.code.lt p2) (fun b hb=>hS _ (hm.bo.lt b hb).2 (p3 b hb)) (fun b hb=>hS _ (hm.wo.lt b hb).2 (p4 wv b hm.wt hb))⟩,hn,hk⟩,hc,p1,p2,p3,?_⟩
 intro v b hv hb
 rw [k.cell (p:=⟨X,9,none⟩) hX (hS _ hX p1)] at hv
 exact p4 v b hv hb
theorem RunA.nw {w w':World} {X:Nat} {sc:List Int} {live found:Int} {l:List In} {P:Nat→Prop} {r:Rst} (h:RunA w X sc live found l P r) (k:Nw w w'):RunA w' X sc live found l P r:=h.kp k (fun _ _ _ h=>h)
theorem NewRun.runA {w w':World} {X:Nat} {sc:List Int} {live found:Int} {l:List In} (h:NewRun w w' X sc live found l):RunA w' X sc live found l (fun b=>w.heap.size≤b∧b<w'.heap.size) ⟨[],0,0,false⟩:=by
 obtain ⟨g,cap,bv,hk,hg,hb⟩:=h.k
 obtain ⟨⟨wv,hm⟩,_,_⟩:=id hk
 refine ⟨g,cap,bv,hk,h.c,⟨h.x,hm.lt⟩,⟨hg,hm.code.lt⟩,fun b e=>⟨hb b e,(hm.bo.lt b e).2⟩,fun v b hv hb => ?_⟩
 rw [h.e] at hv
 cases hv
 cases hb
structure NamK (s:ByteArray) (code:List In):Prop where
 p:ProgIs ⟨#[49,49,49]⟩ s code
 z:s.size≤1000
 f:freeB code (beginsS code) 12=true
def namesC:List Value:=[.string ⟨#[97,65,32,98,91,120,62,65,120,93]⟩,.string ⟨#[97,65,46,42,98,91,120,62,65,120,93]⟩,.string ⟨#[97,65,46,42,98,66,91,120,62,65,120,93,46,42,99,91,120,60,66,120,93]⟩,.string ⟨#[40,97,65,124,97,66,41,98,42,99]⟩,.string ⟨#[40,97,65,32,98,124,98,66,32,97,41,99,67]⟩,.string ⟨#[97,65,40,98,91,120,61,65,120,93,124,99,91,120,35,65,120,93,41,43]⟩,.string ⟨#[97,65,91,120,62,49,93,98,123,48,50,125,99,66,91,116,60,65,116,43,57,93]⟩,.string ⟨#[40,97,65,124,97,65,46,41,98,66,91,120,60,65,120,42,50,93,64,50,48]⟩,.string ⟨#[99,65,46,123,48,51,125,99,66,91,120,61,65,120,45,49,93]⟩,.string ⟨#[97,65,46,42,97,66,91,120,62,65,120,93,64,49,50]⟩]
theorem NamK.pat {s:ByteArray} {code:List In} (h:NamK s code) {L:List Evt} (hL:L.length≤12) (hg:GoesE (bI ⟨#[49,49,49]⟩) 0 L):PatK s code L :=
 ⟨h.p,h.z,fun i e hi=>(free_of h.f hL hg hi).1⟩
theorem evsR_get (l:List Evt):∀(i j:Nat) (x:Evt),l[i]? = some x→j<5→(evsR l)[i*5+j]? = (evC5 x)[j]?:=by
 induction l with
 | nil=>intro i j x h;simp at h
 | cons y r ih =>
  intro i j x h hj
  have e:evsR (y::r)=evC5 y++evsR r:=by simp [evsR]
  have hl:(evC5 y).length=5:=rfl
  rw [e]
  cases i with
  | zero=>simp at h;subst h;rw [List.getElem?_append_left (by omega)];simp
  | succ i =>
   simp at h
   rw [List.getElem?_append_right (by omega),hl]
   have:(i+1)*5+j - 5=i*5+j:=by omega
   rw [this];exact ih i j x h hj
def LenC (n:Int) (c:Crw):Prop:=c.most=n∧(c.l.length:Int)≤n
theorem LenC.add {n:Int} {c:Crw} (h:LenC n c) (t:Thr):LenC n (addC c t):=by
 refine ⟨by rw [addC_most];exact h.1,?_⟩
 have h1:=h.1
 have h2:=h.2
 unfold addC
 split
 ·exact h2
 split
 ·exact h2
 ·have:=plcT_le c.l t
  show (((c.l.take (plcT c.l t)++t::c.l.drop (plcT c.l t)).length:Nat):Int)≤n
  have e:(c.l.take (plcT c.l t)++t::c.l.drop (plcT c.l t)).length=c.l.length+1:=by simp;omega
  rw [e]
  omega
theorem lv_len {n m:Int} (hand:Nmb) (t:Thr) (s:Tn) (a:Int) (an:Nat) (x:In) (h:LenC n s.wait∧LenC m s.ended):LenC n (lvS hand t s a an x).wait∧LenC m (lvS hand t s a an x).ended:=by
 have hr:∀(s:Tn) z (n:Nat),(rchS s z n).wait=s.wait∧(rchS s z n).ended=s.ended:=rchS_wait
 unfold lvS
 split
 ·exact ⟨h.1.add _,h.2⟩
 split
 ·split
  ·rw [(hr _ _ _).1,(hr _ _ _).2];exact h
  ·exact h
 split
 ·split
  ·rw [(hr _ _ _).1,(hr _ _ _).2];exact h
  ·exact h
 split
 ·rw [(hr _ _ _).1,(hr _ _ _).2];exact h
 split
 ·rw [(hr _ _ _).1,(hr _ _ _).2];exact h
 split
 ·rw [(hr _ _ _).1,(hr _ _ _).2,(hr _ _ _).1,(hr _ _ _).2];exact h
 split
 ·exact ⟨h.1,h.2.add _⟩
 ·exact h
theorem goF_len {n m:Int} {code:List In} {hand:Nmb} {t:Thr}:∀(f:Nat) (s:Tn),(LenC n s.wait∧LenC m s.ended)→LenC n (goF code hand t f s).wait∧LenC m (goF code hand t f s).ended:=by
 intro f
 induction f with
 | zero=>intro s h;exact h
 | succ f ih =>
  intro s h
  unfold goF
  split
  ·exact h
  split
  ·exact h
  split
  ·exact h
  ·exact ih _ (lv_len _ _ _ _ _ _ h)
theorem fold_len {n m:Int} {code:List In} {hand:Nmb}:∀(ts:List Thr) (c:Crw×Crw),(LenC n c.1∧LenC m c.2)→LenC n (ts.foldl (goOnS code hand) c).1∧LenC m (ts.foldl (goOnS code hand) c).2:=by
 intro ts
 induction ts with
 | nil=>intro c h;exact h
 | cons t r ih =>
  intro c h
  refine ih _ ?_
  unfold goOnS
  split
  ·exact h
  split
  ·exact goF_len _ _ (by rw [(rchS_wait _ _ _).1,(rchS_wait _ _ _).2];exact h)
  ·exact h
theorem feed_less {sc:List Int} {code:List In} {bs:List Nat} {r:Rst} {e:Evt}:(feedS sc code bs 200 200 r e).2.1.length≤200:=by
 unfold feedS
 split
 ·simp
 split
 ·simp
 split
 ·simp
 ·have h:LenC 200 (stepS code ⟨r.count,e⟩ r.ws bs 200 200).2:=by
   unfold stepS
   exact (fold_len _ _ (fold_len _ _ ⟨⟨rfl,by simp⟩,⟨rfl,by simp⟩⟩)).2
  simp only [List.length_map]
  have:=h.2
  omega
structure MtS (m:Mt):Prop where
 f : -1≤m.first∧m.first≤100
 l : -1≤m.last∧m.last≤100
 h0 : -1≤m.h0∧m.h0≤100
 h1 : -1≤m.h1∧m.h1≤100
 h2 : -1≤m.h2∧m.h2≤100
 h3 : -1≤m.h3∧m.h3≤100
theorem tru_le {L:List Evt} (hL:L.length≤12) {a:Nmb} (h:a=nmb0∨∃n:Nat,a.n=n∧L[n]? = some a.e) : -1≤a.n∧a.n≤100:=by
 rcases h with rfl|⟨n,h,hn⟩
 ·simp [nmb0]
 ·have:=(List.getElem?_eq_some_iff.1 hn).1
  omega
theorem out_small {sc:List Int} {code:List In} {bs:List Nat} {L:List Evt} (hL:L.length≤12) (hI:Inb code) (hb:∀b∈bs,b+1<code.length)
  (hok:∀i e,L[i]? = some e→(feedS sc code bs 200 200 (runS sc code bs 200 200 ⟨[],0,0,false⟩ (L.take i)) e).2.2=0):∀l∈outS sc code bs 200 200 ⟨[],0,0,false⟩ L,l.length≤200∧∀m∈l,MtS m:=by
 intro l hl
 obtain ⟨i,hi⟩:=List.mem_iff_getElem?.1 hl
 have hil:i<L.length:=by have:=(List.getElem?_eq_some_iff.1 hi).1;rwa [outS_len] at this
 obtain ⟨e,he⟩:∃e,L[i]? = some e:=⟨L[i],by simp [hil]⟩
 rw [outS_get _ _ _ _ _ L _ i e he] at hi
 cases hi
 refine ⟨feed_less,?_⟩
 obtain ⟨E,h1,h2,h3⟩:=out_mean hI hb hok i e he
 intro m hm
 rw [h1] at hm
 obtain ⟨u,hu,rfl⟩:=List.mem_map.1 hm
 have ht:=et_tru hI hb ((h3 u).1 hu)
 obtain ⟨n,ef,f1,f2,_⟩:=ht.f
 have hn:=(List.getElem?_eq_some_iff.1 f2).1
 refine ⟨?_,?_,tru_le hL (ht.h 0),tru_le hL (ht.h 1),tru_le hL (ht.h 2),tru_le hL (ht.h 3)⟩
 ·show -1≤u.first∧u.first≤100;omega
 ·show (-1:Int)≤(i:Int)∧(i:Int)≤100;omega
theorem MtS.ok {m:Mt} (h:MtS m):MtOk m:=by
 obtain ⟨a,b,c,d,e,f⟩:=h
 constructor <;> (unfold In64;omega)
end Go.Proofs.YtcboiapggnmpfabGreat
