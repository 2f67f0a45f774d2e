import Derived.Test.YtcboiapggnmpfaaGreatDoorQbt
import Derived.Test.YtcboiapggnmpfaaGreatDoorQbv
import Derived.Test.YtcboiapggnmpfaaGreatDoorQbu
namespace Go.Proofs.YtcboiapggnmpfaaGreatDoor
set_option maxRecDepth 100000
set_option linter.unusedSimpArgs false
set_option linter.unusedVariables false
open Go.RowKit
def ptst (n:Int):Tst:=⟨⟨1,1,0⟩,1,⟨2,1,0⟩,1,⟨0,0,n⟩⟩
def pcode (n d:Int):List In:=[⟨4,1,0,tst0⟩,⟨0,0,0,tst0⟩,⟨1,d,0,tst0⟩,⟨3,0,0,tst0⟩,⟨5,6,5,tst0⟩,⟨4,10,0,tst0⟩,⟨0,4,0,tst0⟩,⟨1,d,0,tst0⟩,⟨5,6,9,tst0⟩,⟨4,10,0,tst0⟩,⟨0,1,0,tst0⟩,⟨1,d,0,tst0⟩,⟨2,0,0,ptst n⟩,⟨4,14,0,tst0⟩,⟨6,0,0,tst0⟩]
theorem pbeg (n d:Int):beginsS (pcode n d)=[1]:=by kernel_rfl
theorem pfree (n d:Int):freeB (pcode n d) (beginsS (pcode n d)) 40=true:=by kernel_rfl
theorem p_inb (n d:Int):Inb (pcode n d):=by
 intro k x h
 have hk:k<15:=(List.getElem?_eq_some_iff.1 h).1
 rcases (show k=0∨k=1∨k=2∨k=3∨k=4∨k=5∨k=6∨k=7∨k=8∨k=9∨k=10∨k=11∨k=12∨k=13∨k=14 by omega) with rfl|rfl|rfl|rfl|rfl|rfl|rfl|rfl|rfl|rfl|rfl|rfl|rfl|rfl|rfl <;> (simp [pcode] at h;subst h;simp [pcode])
theorem rc_1 {n d:Int} {hand:Nmb} {t:Thr} (ht:t.at'=1) {a:Int} {an:Nat} (h:RcT (pcode n d) hand t a an) :
  (a=2∧an=0)∨(a=3∧an=0∧hand.e.at' - t.began≤d)∨((a=4∨a=5∨a=6∨a=10)∧an=1∧hand.e.at' - t.began≤d):=by
 induction h with
 | zero=>rw [ht];exact Or.inl ⟨rfl,rfl⟩
 | next _ hx hm ih =>
  rcases ih with ⟨rfl,rfl⟩ | ⟨rfl,rfl,h⟩ | ⟨rfl|rfl|rfl|rfl,rfl,h⟩ <;> (simp [pcode] at hx;subst hx;simp [nxS,bitN] at hm)
  ·obtain ⟨h,rfl,rfl⟩:=hm;exact Or.inr (Or.inl ⟨rfl,rfl,h⟩)
  ·obtain ⟨rfl,rfl⟩:=hm;exact Or.inr (Or.inr ⟨Or.inl rfl,rfl,h⟩)
  ·rcases hm with ⟨rfl,rfl⟩ | ⟨rfl,rfl⟩
   ·exact Or.inr (Or.inr ⟨Or.inr (Or.inr (Or.inl rfl)),rfl,h⟩)
   ·exact Or.inr (Or.inr ⟨Or.inr (Or.inl rfl),rfl,h⟩)
  ·obtain ⟨rfl,rfl⟩:=hm;exact Or.inr (Or.inr ⟨Or.inr (Or.inr (Or.inr rfl)),rfl,h⟩)
theorem rc_6 {n d:Int} {hand:Nmb} {t:Thr} (ht:t.at'=6) {a:Int} {an:Nat} (h:RcT (pcode n d) hand t a an) :
  (a=7∧an=0)∨((a=8∨a=6∨a=9∨a=10)∧an=0∧hand.e.at' - t.began≤d):=by
 induction h with
 | zero=>rw [ht];exact Or.inl ⟨rfl,rfl⟩
 | next _ hx hm ih =>
  rcases ih with ⟨rfl,rfl⟩ | ⟨rfl|rfl|rfl|rfl,rfl,h⟩ <;> (simp [pcode] at hx;subst hx;simp [nxS,bitN] at hm)
  ·obtain ⟨h,rfl,rfl⟩:=hm;exact Or.inr ⟨Or.inl rfl,rfl,h⟩
  ·rcases hm with ⟨rfl,rfl⟩ | ⟨rfl,rfl⟩
   ·exact Or.inr ⟨Or.inr (Or.inl rfl),rfl,h⟩
   ·exact Or.inr ⟨Or.inr (Or.inr (Or.inl rfl)),rfl,h⟩
  ·obtain ⟨rfl,rfl⟩:=hm;exact Or.inr ⟨Or.inr (Or.inr (Or.inr rfl)),rfl,h⟩
theorem rc_10 {n d:Int} {hand:Nmb} {t:Thr} (ht:t.at'=10) {a:Int} {an:Nat} (h:RcT (pcode n d) hand t a an) :
  (a=11∧an=0)∨(a=12∧an=0∧hand.e.at' - t.began≤d)∨((a=13∨a=14)∧an=0∧hand.e.at' - t.began≤d∧soS hand t 0 (ptst n)=true):=by
 induction h with
 | zero=>rw [ht];exact Or.inl ⟨rfl,rfl⟩
 | next _ hx hm ih =>
  rcases ih with ⟨rfl,rfl⟩ | ⟨rfl,rfl,h⟩ | ⟨rfl|rfl,rfl,h,h'⟩ <;> (simp [pcode] at hx;subst hx;simp [nxS,bitN] at hm)
  ·obtain ⟨h,rfl,rfl⟩:=hm;exact Or.inr (Or.inl ⟨rfl,rfl,h⟩)
  ·obtain ⟨h',rfl,rfl⟩:=hm;exact Or.inr (Or.inr ⟨Or.inl rfl,rfl,h,h'⟩)
  ·obtain ⟨rfl,rfl⟩:=hm;exact Or.inr (Or.inr ⟨Or.inr rfl,rfl,h,h'⟩)
def pT (j:Nat) (e:Evt) (a:Int):Thr:=⟨a,j,e.at',⟨j,e⟩,nmb0,nmb0,nmb0⟩
theorem thr_pT (hand:Nmb) (j:Nat) (e:Evt) (a b:Int):threadS hand (pT j e a) b 0=pT j e b:=by
 simp [threadS,heldS,pT,Thr.hd]
theorem thr_new (j:Nat) (e:Evt) (a b:Int):threadS ⟨j,e⟩ (newT a ⟨j,e⟩) b 1=pT j e b:=by
 simp [threadS,heldS,pT,newT,bitN,Thr.hd]
theorem gw_1 {n d:Int} (hd:0≤d) (j:Nat) (e:Evt) (u:Thr):GoW (pcode n d) ⟨j,e⟩ (newT 1 ⟨j,e⟩) u↔e.kind=0∧(u=pT j e 6∨u=pT j e 10):=by
 have ht:(newT 1 ⟨j,e⟩:Thr).at'=1:=rfl
 constructor
 ·rintro ⟨x,hx,hk,a,an,y,hr,hy,h0,rfl⟩
  rw [ht] at hx
  simp [pcode] at hx
  subst hx
  have hk':e.kind=0:=by rcases hk with hk|hk <;> simp at hk;exact hk.symm
  refine ⟨hk',?_⟩
  rcases rc_1 ht hr with ⟨rfl,rfl⟩ | ⟨rfl,rfl,h⟩ | ⟨rfl|rfl|rfl|rfl,rfl,h⟩ <;> simp [pcode] at hy <;> subst hy <;> simp at h0
  ·exact Or.inl (thr_new j e 1 6)
  ·exact Or.inr (thr_new j e 1 10)
 ·rintro ⟨hk,hu⟩
  have hw:e.at' - (newT 1 ⟨j,e⟩:Thr).began≤d:=by show e.at' - e.at'≤d;omega
  have r2:RcT (pcode n d) ⟨j,e⟩ (newT 1 ⟨j,e⟩) 2 0:=RcT.zero
  have r3:RcT (pcode n d) ⟨j,e⟩ (newT 1 ⟨j,e⟩) 3 0:=r2.next (x:=⟨1,d,0,tst0⟩) rfl (by simp [nxS];exact hw)
  have r4:RcT (pcode n d) ⟨j,e⟩ (newT 1 ⟨j,e⟩) 4 1:=r3.next (x:=⟨3,0,0,tst0⟩) rfl (by simp [nxS,bitN])
  have r6:RcT (pcode n d) ⟨j,e⟩ (newT 1 ⟨j,e⟩) 6 1:=r4.next (x:=⟨5,6,5,tst0⟩) rfl (by simp [nxS])
  have r5:RcT (pcode n d) ⟨j,e⟩ (newT 1 ⟨j,e⟩) 5 1:=r4.next (x:=⟨5,6,5,tst0⟩) rfl (by simp [nxS])
  have r10:RcT (pcode n d) ⟨j,e⟩ (newT 1 ⟨j,e⟩) 10 1:=r5.next (x:=⟨4,10,0,tst0⟩) rfl (by simp [nxS])
  refine ⟨⟨0,0,0,tst0⟩,rfl,Or.inr hk.symm,?_⟩
  rcases hu with rfl|rfl
  ·exact ⟨6,1,⟨0,4,0,tst0⟩,r6,rfl,rfl,(thr_new j e 1 6).symm⟩
  ·exact ⟨10,1,⟨0,1,0,tst0⟩,r10,rfl,rfl,(thr_new j e 1 10).symm⟩
theorem gw_6 {n d:Int} (hand:Nmb) (j:Nat) (e:Evt) (u:Thr):GoW (pcode n d) hand (pT j e 6) u↔hand.e.at' - e.at'≤d∧(u=pT j e 6∨u=pT j e 10):=by
 have ht:(pT j e 6).at'=6:=rfl
 constructor
 ·rintro ⟨x,hx,hk,a,an,y,hr,hy,h0,rfl⟩
  rcases rc_6 ht hr with ⟨rfl,rfl⟩ | ⟨rfl|rfl|rfl|rfl,rfl,h⟩ <;> simp [pcode] at hy <;> subst hy <;> simp at h0
  ·exact ⟨h,Or.inl (thr_pT hand j e 6 6)⟩
  ·exact ⟨h,Or.inr (thr_pT hand j e 6 10)⟩
 ·rintro ⟨hw,hu⟩
  have r7:RcT (pcode n d) hand (pT j e 6) 7 0:=RcT.zero
  have r8:RcT (pcode n d) hand (pT j e 6) 8 0:=r7.next (x:=⟨1,d,0,tst0⟩) rfl (by simp [nxS];exact hw)
  have r6:RcT (pcode n d) hand (pT j e 6) 6 0:=r8.next (x:=⟨5,6,9,tst0⟩) rfl (by simp [nxS])
  have r9:RcT (pcode n d) hand (pT j e 6) 9 0:=r8.next (x:=⟨5,6,9,tst0⟩) rfl (by simp [nxS])
  have r10:RcT (pcode n d) hand (pT j e 6) 10 0:=r9.next (x:=⟨4,10,0,tst0⟩) rfl (by simp [nxS])
  refine ⟨⟨0,4,0,tst0⟩,rfl,Or.inl rfl,?_⟩
  rcases hu with rfl|rfl
  ·exact ⟨6,0,⟨0,4,0,tst0⟩,r6,rfl,rfl,(thr_pT hand j e 6 6).symm⟩
  ·exact ⟨10,0,⟨0,1,0,tst0⟩,r10,rfl,rfl,(thr_pT hand j e 6 10).symm⟩
theorem gw_10 {n d:Int} (hand:Nmb) (j:Nat) (e:Evt) (u:Thr):¬GoW (pcode n d) hand (pT j e 10) u:=by
 rintro ⟨x,hx,hk,a,an,y,hr,hy,h0,rfl⟩
 rcases rc_10 (show (pT j e 10).at'=10 from rfl) hr with ⟨rfl,rfl⟩ | ⟨rfl,rfl,h⟩ | ⟨rfl|rfl,rfl,h,h'⟩ <;> simp [pcode] at hy <;> subst hy <;> simp at h0
theorem ge_1 {n d:Int} (j:Nat) (e:Evt) (u:Thr):¬GoE (pcode n d) ⟨j,e⟩ (newT 1 ⟨j,e⟩) u:=by
 rintro ⟨x,hx,hk,a,an,y,hr,hy,h0,rfl⟩
 rcases rc_1 (show (newT 1 ⟨j,e⟩:Thr).at'=1 from rfl) hr with ⟨rfl,rfl⟩ | ⟨rfl,rfl,h⟩ | ⟨rfl|rfl|rfl|rfl,rfl,h⟩ <;> simp [pcode] at hy <;> subst hy <;> simp at h0
theorem ge_6 {n d:Int} (hand:Nmb) (j:Nat) (e:Evt) (u:Thr):¬GoE (pcode n d) hand (pT j e 6) u:=by
 rintro ⟨x,hx,hk,a,an,y,hr,hy,h0,rfl⟩
 rcases rc_6 (show (pT j e 6).at'=6 from rfl) hr with ⟨rfl,rfl⟩ | ⟨rfl|rfl|rfl|rfl,rfl,h⟩ <;> simp [pcode] at hy <;> subst hy <;> simp at h0
theorem ge_10 {n d:Int} (hand:Nmb) (j:Nat) (e:Evt) (u:Thr):GoE (pcode n d) hand (pT j e 10) u↔hand.e.kind=1∧hand.e.at' - e.at'≤d∧soS hand (pT j e 10) 0 (ptst n)=true∧u=pT j e 0:=by
 have ht:(pT j e 10).at'=10:=rfl
 constructor
 ·rintro ⟨x,hx,hk,a,an,y,hr,hy,h0,rfl⟩
  rw [ht] at hx
  simp [pcode] at hx
  subst hx
  have hk':hand.e.kind=1:=by rcases hk with hk|hk <;> simp at hk;exact hk.symm
  rcases rc_10 ht hr with ⟨rfl,rfl⟩ | ⟨rfl,rfl,h⟩ | ⟨rfl|rfl,rfl,h,h'⟩ <;> simp [pcode] at hy <;> subst hy <;> simp at h0
  exact ⟨hk',h,h',thr_pT hand j e 10 0⟩
 ·rintro ⟨hk,hw,hs,rfl⟩
  have r11:RcT (pcode n d) hand (pT j e 10) 11 0:=RcT.zero
  have r12:RcT (pcode n d) hand (pT j e 10) 12 0:=r11.next (x:=⟨1,d,0,tst0⟩) rfl (by simp [nxS];exact hw)
  have r13:RcT (pcode n d) hand (pT j e 10) 13 0:=r12.next (x:=⟨2,0,0,ptst n⟩) rfl (by simp [nxS];exact hs)
  have r14:RcT (pcode n d) hand (pT j e 10) 14 0:=r13.next (x:=⟨4,14,0,tst0⟩) rfl (by simp [nxS])
  exact ⟨⟨0,1,0,tst0⟩,rfl,Or.inr hk.symm,14,0,⟨6,0,0,tst0⟩,r14,rfl,rfl,(thr_pT hand j e 10 0).symm⟩
theorem p_so {n:Int} (hand:Nmb) (j:Nat) (e:Evt):soS hand (pT j e 10) 0 (ptst n)=true↔In64 (e.x+n)∧e.x+n<hand.e.x:=by
 have hj:¬((j:Int) = -1):=by omega
 simp only [soS,valS,rsideS,ptst,relS,arS,evF,heldS,pT,Thr.hd,bitN]
 simp [hj]
 intro h1
 rw [wrap64_eq h1]
theorem goes_le {sc:List Int}:∀ {L:List Evt} {now:Int},GoesE sc now L→∀(i:Nat) e,L[i]? = some e→now≤e.at':=by
 intro L
 induction L with
 | nil=>intro now _ i e h;simp at h
 | cons x r ih =>
  intro now h i e he
  obtain ⟨_,_,h3,h4⟩:=h
  cases i with
  | zero=>simp at he;subst he;exact h3
  | succ i=>have:=ih h4 i e (by simpa using he);omega
theorem goes_mono {sc:List Int}:∀ {L:List Evt} {now:Int},GoesE sc now L→∀(i j:Nat) a b,i≤j→L[i]? = some a→L[j]? = some b→a.at'≤b.at':=by
 intro L
 induction L with
 | nil=>intro now _ i j a b _ h;simp at h
 | cons x r ih =>
  intro now h i j a b hij ha hb
  obtain ⟨_,_,h3,h4⟩:=h
  cases i with
  | zero =>
   simp at ha
   subst ha
   cases j with
   | zero=>simp at hb;subst hb;omega
   | succ j=>exact goes_le h4 j b (by simpa using hb)
  | succ i =>
   cases j with
   | zero=>omega
   | succ j=>exact ih h4 i j a b (by omega) (by simpa using ha) (by simpa using hb)
theorem p_wt {n d : Int} (hd : 0 ≤ d) {L : List Evt} : ∀ (i : Nat) (u : Thr), Wt (pcode n d) [1] L i u ↔ ∃ j ej, j < i ∧ i ≤ L.length ∧ L[j]? = some ej ∧ ej.kind = 0 ∧ (∀ k ek, j < k → k < i → L[k]? = some ek → ek.at' - ej.at' ≤ d) ∧ (u = pT j ej 6 ∨ u = pT j ej 10) := by
  intro i
  induction i with
  | zero => intro u; constructor
            · intro h; exact h.elim
            · rintro ⟨j, ej, h, _⟩; omega
  | succ i ih =>
    intro u
    constructor
    · rintro ⟨e, t, he, ht, hg⟩
      have hil := (List.getElem?_eq_some_iff.1 he).1
      rcases ht with ht | ⟨b, hb, rfl⟩
      · obtain ⟨j, ej, h1, h2, h3, h4, h5, h6⟩ := (ih t).1 ht
        rcases h6 with rfl | rfl
        · obtain ⟨g1, g2⟩ := (gw_6 _ _ _ _).1 hg
          refine ⟨j, ej, by omega, by omega, h3, h4, ?_, g2⟩
          intro k ek hjk hk hek
          rcases Nat.lt_or_ge k i with hk' | hk'
          · exact h5 k ek hjk hk' hek
          · have : k = i := by omega
            subst this
            rw [he] at hek
            cases hek
            exact g1
        · exact (gw_10 _ _ _ _ hg).elim
      · simp at hb
        subst hb
        obtain ⟨g1, g2⟩ := (gw_1 hd i e u).1 hg
        exact ⟨i, e, by omega, by omega, he, g1, fun k ek h1 h2 => by omega, g2⟩
    · rintro ⟨j, ej, h1, h2, h3, h4, h5, h6⟩
      obtain ⟨e, he⟩ : ∃ e, L[i]? = some e := ⟨L[i], by simp [show i < L.length by omega]⟩
      rcases Nat.lt_or_ge j i with hj | hj
      · refine ⟨e, pT j ej 6, he, Or.inl ((ih _).2 ⟨j, ej, hj, by omega, h3, h4, fun k ek a b => h5 k ek a (by omega), Or.inl rfl⟩), ?_⟩
        exact (gw_6 _ _ _ _).2 ⟨h5 i e hj (by omega) he, h6⟩
      · have : j = i := by omega
        subst this
        rw [he] at h3
        cases h3
        exact ⟨ej, newT ((1 : Nat) : Int) ⟨j, ej⟩, he, Or.inr ⟨1, by simp, rfl⟩, (gw_1 hd j ej u).2 ⟨h4, h6⟩⟩
theorem p_et {sc:List Int} {n d:Int} (hd:0≤d) {L:List Evt} (hL:GoesE sc 0 L) (i:Nat) (u:Thr):Et (pcode n d) [1] L i u↔∃j ej e,L[i]? = some e∧j<i∧L[j]? = some ej∧ej.kind=0∧e.kind=1∧e.at' - ej.at'≤d∧In64 (ej.x+n)∧ej.x+n<e.x∧u=pT j ej 0:=by
 constructor
 ·rintro ⟨e,t,he,ht,hg⟩
  rcases ht with ht|⟨b,hb,rfl⟩
  ·obtain ⟨j,ej,h1,h2,h3,h4,h5,h6⟩:=(p_wt hd i t).1 ht
   rcases h6 with rfl|rfl
   ·exact (ge_6 _ _ _ _ hg).elim
   ·obtain ⟨g1,g2,g3,g4⟩:=(ge_10 _ _ _ _).1 hg
    obtain ⟨s1,s2⟩:=(p_so _ _ _).1 g3
    exact ⟨j,ej,e,he,h1,h3,h4,g1,g2,s1,s2,g4⟩
  ·simp at hb
   subst hb
   exact (ge_1 i e u hg).elim
 ·rintro ⟨j,ej,e,he,h1,h3,h4,g1,g2,s1,s2,rfl⟩
  have hil:=(List.getElem?_eq_some_iff.1 he).1
  refine ⟨e,pT j ej 10,he,Or.inl ((p_wt hd i _).2 ⟨j,ej,h1,by omega,h3,h4,?_,Or.inr rfl⟩),(ge_10 _ _ _ _).2 ⟨g1,g2,(p_so _ _ _).2 ⟨s1,s2⟩,rfl⟩⟩
  intro k ek _ hk hek
  have:=goes_mono hL k i ek e (by omega) hek he
  omega
def pcond (L:List Evt) (n d:Int) (e:Evt) (j:Nat):Bool:=match L[j]? with
 | some ej=>decide (ej.kind=0)&&decide (e.kind=1)&&decide (e.at' - ej.at'≤d)&&decide (In64 (ej.x+n))&&decide (ej.x+n<e.x)
 | none=>false
def prow (L:List Evt) (n d:Int) (i:Nat) (e:Evt) (k:Nat):List Mt:=((List.range k).filter (pcond L n d e)).map (fun j:Nat=>⟨(j:Int),(i:Int),(j:Int),-1,-1,-1⟩)
def evD (L:List Evt) (j:Nat):Evt:=(L[j]?).getD ev0
theorem p_out {sc:List Int} {n d:Int} (hd:0≤d) {L:List Evt} (hL:GoesE sc 0 L) (hl:L.length≤40) {i:Nat} {e:Evt} (he:L[i]? = some e) :
  (outS sc (pcode n d) (beginsS (pcode n d)) 200 200 ⟨[],0,0,false⟩ L)[i]? = some (prow L n d i e i):=by
 rw [outS_get _ _ _ _ _ L _ i e he]
 obtain ⟨El,h1,h2,h3⟩:=out_mean (sc:=sc) (bs:=beginsS (pcode n d)) (live:=200) (found:=200) (p_inb n d) (by rw [pbeg];intro b hb;simp at hb;subst hb;simp [pcode]) (fun i e hi=>(free_of (pfree n d) hl hL hi).1) i e he
 rw [h1]
 congr 1
 have hE:El=((List.range i).filter (pcond L n d e)).map (fun j:Nat=>pT j (evD L j) 0):=by
  refine Srt.eq h2 ?_ fun u => ?_
  ·unfold Srt
   rw [List.pairwise_map]
   refine List.Pairwise.filter _ (List.Pairwise.imp ?_ List.pairwise_lt_range)
   intro a b hab
   rw [ahead_iff]
   exact Or.inl (by show (a:Int)<(b:Int);omega)
  ·rw [h3,pbeg,p_et hd hL,List.mem_map]
   constructor
   ·rintro ⟨j,ej,e',he',g1,g2,g3,g4,g5,g6,g7,rfl⟩
    rw [he] at he'
    cases he'
    refine ⟨j,List.mem_filter.2 ⟨List.mem_range.2 g1,?_⟩,by simp [evD,g2]⟩
    simp [pcond,g2,g3,g4,g5,g6,g7]
   ·rintro ⟨j,hj,rfl⟩
    obtain ⟨a1,a2⟩:=List.mem_filter.1 hj
    rw [List.mem_range] at a1
    unfold pcond at a2
    split at a2
    ·rename_i ej hej
     simp only [Bool.and_eq_true,decide_eq_true_eq] at a2
     obtain ⟨⟨⟨⟨b1,b2⟩,b3⟩,b4⟩,b5⟩:=a2
     exact ⟨j,ej,e,he,a1,hej,b1,b2,b3,b4,b5,by simp [evD,hej]⟩
    ·cases a2
 rw [hE,List.map_map]
 unfold prow
 refine List.map_congr_left ?_
 intro j _
 rfl
deriving instance DecidableEq for In
def numS (d:Nat):ByteArray:=if d<10 then ⟨#[48+UInt8.ofNat d]⟩ else ⟨#[48+UInt8.ofNat (d / 10),48+UInt8.ofNat (d % 10)]⟩
def ptxt (n d:Nat):ByteArray:=⟨#[97,65,32,46,42,32,98,91,120,62,65,120,43]⟩++numS n++⟨#[93,32,64]⟩++numS d
noncomputable def pairB (n d:Nat):Bool:=match progB ⟨#[49,49,49]⟩ (ptxt n d) with
 | some c=>decide (c=pcode n d)&&validB c 60&&inOkB c
 | none=>false
theorem pair_n0:((List.range 60).all fun d=>pairB 0 d)=true:=by kernel_rfl
theorem pair_n1:((List.range 60).all fun d=>pairB 1 d)=true:=by kernel_rfl
theorem pair_n2:((List.range 60).all fun d=>pairB 2 d)=true:=by kernel_rfl
theorem pair_n3:((List.range 60).all fun d=>pairB 3 d)=true:=by kernel_rfl
theorem pair_n4:((List.range 60).all fun d=>pairB 4 d)=true:=by kernel_rfl
theorem pair_n5:((List.range 60).all fun d=>pairB 5 d)=true:=by kernel_rfl
theorem pair_n6:((List.range 60).all fun d=>pairB 6 d)=true:=by kernel_rfl
theorem pair_n7:((List.range 60).all fun d=>pairB 7 d)=true:=by kernel_rfl
theorem pair_n8:((List.range 60).all fun d=>pairB 8 d)=true:=by kernel_rfl
theorem pair_n9:((List.range 60).all fun d=>pairB 9 d)=true:=by kernel_rfl
theorem pair_n10:((List.range 60).all fun d=>pairB 10 d)=true:=by kernel_rfl
theorem pair_n11:((List.range 60).all fun d=>pairB 11 d)=true:=by kernel_rfl
theorem pair_is {n d:Nat} (hn:n<12) (hd:d<60):pairB n d=true:=by
 have h:((List.range 60).all fun d=>pairB n d)=true:=by
  rcases (show n=0∨n=1∨n=2∨n=3∨n=4∨n=5∨n=6∨n=7∨n=8∨n=9∨n=10∨n=11 by omega) with rfl|rfl|rfl|rfl|rfl|rfl|rfl|rfl|rfl|rfl|rfl|rfl
  ·exact pair_n0
  ·exact pair_n1
  ·exact pair_n2
  ·exact pair_n3
  ·exact pair_n4
  ·exact pair_n5
  ·exact pair_n6
  ·exact pair_n7
  ·exact pair_n8
  ·exact pair_n9
  ·exact pair_n10
  ·exact pair_n11
 exact List.all_eq_true.1 h d (List.mem_range.2 hd)
theorem progB_size5 {sc s:ByteArray} {c:List In} (h:progB sc s=some c):s.size≤1000:=by
 unfold progB at h
 split at h
 ·rename_i h1;omega
 ·cases h
theorem pair_pat {n d:Nat} (hn:n<12) (hd:d<60) {L:List Evt} (hL:GoesE (bI ⟨#[49,49,49]⟩) 0 L) (hl:L.length≤40):PatK (ptxt n d) (pcode n d) L:=by
 have h:=pair_is hn hd
 unfold pairB at h
 split at h
 ·rename_i c hc
  simp only [Bool.and_eq_true,decide_eq_true_eq] at h
  obtain ⟨⟨rfl,h2⟩,h3⟩:=h
  exact ⟨progB_is hc h2 h3,progB_size5 hc,fun i e hi=>(free_of (pfree n d) hl hL hi).1⟩
 ·cases h
theorem numS_size (d:Nat):(numS d).size≤2:=by
 unfold numS
 split
 ·show (1:Nat)≤2;omega
 ·show (2:Nat)≤2;omega
end Go.Proofs.YtcboiapggnmpfaaGreatDoor
