import Derived.Test.YtcboiapggnmpfabGreatQab
namespace Go.Proofs.YtcboiapggnmpfabGreat
section
def Frm (l:List In) (i:Nat):Prop:=i=0∨Rch l true 0 i
def ToE (l:List In) (i:Nat):Prop:=∃(k:Nat) (x:In),l[k]? = some x∧x.op=6∧(k=i∨Rch l true i k)
structure KeepIs (l:List In) (ks:List Bool):Prop where
 len:ks.length=l.length
 on:∀i,i<l.length→(ks[i]? = some true↔Frm l i∧ToE l i)
theorem KeepIs.uniq {l:List In} {ks ks':List Bool} (h:KeepIs l ks) (h':KeepIs l ks'):ks=ks':=by
 apply List.ext_getElem?
 intro i
 by_cases hi:i<l.length
 ·have e:ks[i]? = some true↔ks'[i]? = some true:=(h.on i hi).trans (h'.on i hi).symm
  have h1:i<ks.length:=by rw [h.len];exact hi
  have h2:i<ks'.length:=by rw [h'.len];exact hi
  rw [List.getElem?_eq_getElem h1,List.getElem?_eq_getElem h2] at e ⊢
  simp only [Option.some.injEq] at e ⊢
  exact Bool.eq_iff_iff.2 e
 ·rw [List.getElem?_eq_none (by rw [h.len];omega),List.getElem?_eq_none (by rw [h'.len];omega)]
open Classical in
theorem KeepIs.exists (l:List In):∃ks,KeepIs l ks:=by
 refine ⟨(List.range l.length).map (fun i=>decide (Frm l i∧ToE l i)),by simp,?_⟩
 intro i hi
 simp [hi]
def cntTo (ks:List Bool):Nat→Nat
 | 0=>0
 | i+1=>cntTo ks i+(if ks[i]? = some true then 1 else 0)
def numTo (ks:List Bool):Nat→List Int
 | 0=>[]
 | i+1=>numTo ks i++[if ks[i]? = some true then (cntTo ks i:Int) else -1]
theorem cntTo_le (ks:List Bool):∀i,cntTo ks i≤i:=by
 intro i
 induction i with
 | zero=>simp [cntTo]
 | succ i ih=>simp only [cntTo];split <;> omega
theorem numTo_length (ks:List Bool):∀i,(numTo ks i).length=i:=by
 intro i
 induction i with
 | zero=>rfl
 | succ i ih=>simp [numTo,ih]
theorem numTo_get (ks:List Bool):∀n i,i<n→(numTo ks n)[i]? = some (if ks[i]? = some true then (cntTo ks i:Int) else -1):=by
 intro n
 induction n with
 | zero=>intro i h;omega
 | succ n ih =>
  intro i h
  simp only [numTo]
  by_cases e:i=n
  ·subst e
   rw [List.getElem?_append_right (by rw [numTo_length];omega),numTo_length];simp
  ·rw [List.getElem?_append_left (by rw [numTo_length];omega)]
   exact ih i (by omega)
def nowAt (now:List Int) (a:Int):Int:=(now[a.toNat]?).getD (-1)
theorem nowAt_num {ks:List Bool} {n:Nat} {a:Int} (h:a.toNat<n):nowAt (numTo ks n) a=if ks[a.toNat]? = some true then (cntTo ks a.toNat:Int) else -1:=by
 unfold nowAt
 rw [numTo_get ks n _ h];rfl
def trimI (now:List Int) (x:In):In :=
 if x.op=4 then ⟨4,nowAt now x.a,0,tst0⟩
 else if x.op=5 then (if nowAt now x.a = -1 then ⟨4,nowAt now x.b,0,tst0⟩ else if nowAt now x.b = -1 then ⟨4,nowAt now x.a,0,tst0⟩ else ⟨5,nowAt now x.a,nowAt now x.b,tst0⟩)
 else x
def trimTo (now:List Int) (ks:List Bool) (l:List In):Nat→List In
 | 0=>[]
 | i+1=>trimTo now ks l i++(if ks[i]? = some true then ((l[i]?).map (trimI now)).toList else [])
theorem trimTo_keep {now:List Int} {ks:List Bool} {l:List In} {i:Nat} {x:In} (hk:ks[i]? = some true) (hx:l[i]? = some x):trimTo now ks l (i+1)=trimTo now ks l i++[trimI now x]:=by
 simp [trimTo,hk,hx]
theorem trimTo_skip {now:List Int} {ks:List Bool} {l:List In} {i:Nat} (hk:¬ks[i]? = some true):trimTo now ks l (i+1)=trimTo now ks l i:=by
 simp [trimTo,hk]
theorem trimTo_len (now:List Int) (ks:List Bool) (l:List In):∀i,(trimTo now ks l i).length≤i:=by
 intro i
 induction i with
 | zero=>simp [trimTo]
 | succ i ih =>
  simp only [trimTo,List.length_append]
  split
  ·cases l[i]? <;> simp <;> omega
  ·simp;omega
def TrimIs (l:List In) (f:Int) (out:List In):Prop :=
 ∃e a,ValidIs l e a∧((¬e=0∧f=e∧out=[])∨(e=0∧∃ks,KeepIs l ks ∧
  ((¬ks[0]? = some true∧f=9∧out=[])∨(ks[0]? = some true∧f=0∧out=trimTo (numTo ks l.length) ks l l.length))))
theorem TrimIs.uniq {l:List In} {f f':Int} {o o':List In} (h:TrimIs l f o) (h':TrimIs l f' o'):f=f'∧o=o':=by
 obtain ⟨e,a,hv,h⟩:=h
 obtain ⟨e',a',hv',h'⟩:=h'
 obtain ⟨rfl,rfl⟩:=hv.uniq hv'
 rcases h with ⟨h1,h2,h3⟩ | ⟨h1,ks,hk,h⟩ <;> rcases h' with ⟨g1,g2,g3⟩ | ⟨g1,ks',hk',h'⟩
 ·exact ⟨by omega,by rw [h3,g3]⟩
 ·omega
 ·omega
 ·have:=hk.uniq hk'
  subst this
  rcases h with ⟨h2,h3,h4⟩ | ⟨h2,h3,h4⟩ <;> rcases h' with ⟨g2,g3,g4⟩ | ⟨g2,g3,g4⟩
  ·exact ⟨by omega,by rw [h4,g4]⟩
  ·exact absurd g2 h2
  ·exact absurd h2 g2
  ·exact ⟨by omega,by rw [h4,g4]⟩
theorem ValidIs.all {l:List In} {a:Int} (h:ValidIs l 0 a):l.length≤1000∧¬l=[]∧AllIns l:=by
 rcases h with ⟨_,h,_⟩ | ⟨_,_,h,_⟩ | ⟨_,_,_,k,_,_,h,_⟩ | ⟨h1,h2,h3,_⟩
 ·omega
 ·omega
 ·omega
 ·exact ⟨h1,h2,allIns_of h3⟩
theorem tst0_of {t:Tst} (h:tst0B t=true):t=tst0:=by
 obtain ⟨⟨a,b,c⟩,d,⟨e,f,g⟩,i,⟨j,k,m⟩⟩:=t
 simp only [tst0B,tm0B,Bool.and_eq_true,decide_eq_true_eq] at h
 obtain ⟨⟨⟨⟨⟨⟨h1,h2⟩,h3⟩,h4⟩,⟨h5,h6⟩,h7⟩,h8⟩,⟨h9,h10⟩,h11⟩:=h
 subst h1 h2 h3 h4 h5 h6 h7 h8 h9 h10 h11
 rfl
theorem ins_jump {l:List In} (hA:AllIns l) {i:Nat} {x:In} (hx:l[i]? = some x) (h:x.op=4):0≤x.a∧x.a<l.length∧x.b=0∧x.test=tst0:=by
 have h1:=(hA i x hx).1
 simp only [insIsB,hiOf,h,Bool.and_eq_true,Bool.or_eq_true,decide_eq_true_eq] at h1
 obtain ⟨⟨⟨⟨⟨⟨a1,a2⟩,a3⟩,a4⟩,a5⟩,a6⟩,a7⟩:=h1
 simp at a4 a6 a7
 exact ⟨a3,a4,by omega,tst0_of a7⟩
theorem ins_split {l:List In} (hA:AllIns l) {i:Nat} {x:In} (hx:l[i]? = some x) (h:x.op=5):0≤x.a∧x.a<l.length∧0≤x.b∧x.b<l.length∧x.test=tst0:=by
 have h1:=(hA i x hx).1
 simp only [insIsB,hiOf,h,Bool.and_eq_true,Bool.or_eq_true,decide_eq_true_eq] at h1
 obtain ⟨⟨⟨⟨⟨⟨a1,a2⟩,a3⟩,a4⟩,a5⟩,a6⟩,a7⟩:=h1
 simp at a4 a6 a7
 exact ⟨a3,a4,a5,a6,tst0_of a7⟩
theorem rch_step {l:List In} {t:Bool} {i j k:Nat} (he:Edge l t i j) (h:Rch l t j k):Rch l t i k:=by
 refine h.closed (S:=fun k=>Rch l t i k) ?_ ?_
 ·intro m hm;exact (Rch.one he).more hm
 ·intro x m hx hm;exact hx.more hm
theorem ToE.step {l:List In} {i j:Nat} (he:Edge l true i j) (h:ToE l j):ToE l i:=by
 obtain ⟨k,x,h1,h2,h3⟩:=h
 refine ⟨k,x,h1,h2,Or.inr ?_⟩
 rcases h3 with h3|h3
 ·subst h3;exact Rch.one he
 ·exact rch_step he h3
theorem Frm.step {l:List In} {i j:Nat} (h:Frm l i) (he:Edge l true i j):Frm l j:=by
 rcases h with h|h
 ·subst h;exact Or.inr (Rch.one he)
 ·exact Or.inr (h.more he)
theorem ToE.closed {l:List In} {S:Nat→Prop} (h1:∀k x,l[k]? = some x→x.op=6→S k) (h2:∀x j,Edge l true x j→S j→S x) {i:Nat} (h:ToE l i):S i:=by
 obtain ⟨k,x,hx,h6,h3⟩:=h
 have hk:=h1 k x hx h6
 rcases h3 with h3|h3
 ·subst h3;exact hk
 ·refine Classical.byContradiction fun hn => ?_
  exact h3.closed (S:=fun j=>¬S j) (fun j hj hs=>hn (h2 i j hj hs)) (fun x j hx hj hs=>hx (h2 x j hj hs)) hk
def nx1 (x:In) (i:Nat):Int:=if x.op=4 then x.a else if x.op=5 then x.a else if x.op=6 then -1 else i+1
def nx2 (x:In) (i:Nat):Int:=if x.op=4 then x.a else if x.op=5 then x.b else if x.op=6 then -1 else i+1
theorem nx_spec {l:List In} (hA:AllIns l) {i:Nat} {x:In} (hx:l[i]? = some x) :
  (x.op=6∧nx1 x i = -1∧nx2 x i = -1∧nxt x i=[])∨(¬x.op=6∧∃j1 j2:Nat,nx1 x i=j1∧nx2 x i=j2∧j1<l.length∧j2<l.length∧∀j,j∈nxt x i↔j=j1∨j=j2):=by
 have hlt:=nxt_lt hA hx
 by_cases h6:x.op=6
 ·exact Or.inl ⟨h6,by simp [nx1,h6],by simp [nx2,h6],by simp [nxt,h6]⟩
 ·refine Or.inr ⟨h6,?_⟩
  by_cases h4:x.op=4
  ·have:=ins_jump hA hx h4
   refine ⟨x.a.toNat,x.a.toNat,?_,?_,by omega,by omega,?_⟩
   ·simp [nx1,h4];omega
   ·simp [nx2,h4];omega
   ·simp [nxt,h4]
  ·by_cases h5:x.op=5
   ·have:=ins_split hA hx h5
    refine ⟨x.a.toNat,x.b.toNat,?_,?_,by omega,by omega,?_⟩
    ·simp [nx1,h5];omega
    ·simp [nx2,h5];omega
    ·simp [nxt,h5]
   ·have e:nxt x i=[i+1]:=by simp [nxt,h4,h5,h6]
    rw [e] at hlt
    refine ⟨i+1,i+1,?_,?_,hlt _ (by simp),hlt _ (by simp),?_⟩
    ·simp [nx1,h4,h5,h6]
    ·simp [nx2,h4,h5,h6]
    ·rw [e];simp
def mkB (bs:List Bool) (z:Int):List Bool:=if 0≤z∧bs[z.toNat]? = some false then bs.set z.toNat true else bs
def mkQ (bs:List Bool) (q:List Nat) (z:Int):List Nat:=if 0≤z∧bs[z.toNat]? = some false then q++[z.toNat] else q
theorem mkB_neg (bs:List Bool):mkB bs (-1)=bs:=by simp [mkB]
theorem mkQ_neg (bs:List Bool) (q:List Nat):mkQ bs q (-1)=q:=by simp [mkQ]
theorem mkB_len (bs:List Bool) (z:Int):(mkB bs z).length=bs.length:=by unfold mkB;split <;> simp
theorem mk_cnt (bs:List Bool) (q:List Nat) (z:Int):(mkQ bs q z).length+(mkB bs z).count false=q.length+bs.count false:=by
 unfold mkB mkQ
 split
 ·rename_i h
  have:=count_set h.2
  simp;omega
 ·rfl
theorem Leav.mk1 {l:List In} {t:Bool} {i:Nat} {bs:List Bool} {done:Nat→Prop} {q:List Nat} {x j:Nat} {ys:List Nat} (h:Leav l t i bs done q x ys) (he:Edge l t x j) (hj:j<l.length):Leav l t i (mkB bs j) done (mkQ bs q j) x (ys++[j]):=by
 unfold mkB mkQ
 split
 ·simpa using h.mark he hj
 ·rename_i hn
  have hl:=h.len
  have:bs[j]? = some true:=by
   rw [List.getElem?_eq_getElem (by omega)] at hn ⊢
   simp at hn
   simp [hn]
  exact h.skip this
theorem Leav.both {l:List In} {t:Bool} {i:Nat} {bs:List Bool} {done:Nat→Prop} {q:List Nat} {x:Nat} {v:In} (h:Leav l t i bs done q x []) (hA:AllIns l) (hv:l[x]? = some v) (h0:v.op=0→t=true) :
  Srch l t i (mkB (mkB bs (nx1 v x)) (nx2 v x)) (fun y=>done y∨y=x) (mkQ (mkB bs (nx1 v x)) (mkQ bs q (nx1 v x)) (nx2 v x)):=by
 rcases nx_spec hA hv with ⟨h6,e1,e2,e3⟩ | ⟨h6,j1,j2,e1,e2,l1,l2,e3⟩
 ·rw [e1,e2,mkB_neg,mkB_neg,mkQ_neg,mkQ_neg]
  refine h.left (fun j hj => ?_)
  rw [edge_of hv h0,e3] at hj
  exact hj
 ·rw [e1,e2]
  have k1:=h.mk1 ((edge_of hv h0).2 ((e3 j1).2 (Or.inl rfl))) l1
  have k2:=k1.mk1 ((edge_of hv h0).2 ((e3 j2).2 (Or.inr rfl))) l2
  refine k2.left (fun j hj => ?_)
  rw [edge_of hv h0,e3] at hj
  simpa using hj
structure Srch2 (l:List In) (bs:List Bool) (done:Nat→Prop) (q:List Nat):Prop where
 len:bs.length=l.length
 zero:bs[0]? = some true
 sound:∀j:Nat,bs[j]? = some true→Frm l j
 seen:∀x∈q,bs[x]? = some true
 all:∀j:Nat,bs[j]? = some true→done j∨j∈q
 out:∀x j,done x→Edge l true x j→bs[j]? = some true
theorem Srch2.start {l:List In} (h:0<l.length):Srch2 l ((List.replicate l.length false).set 0 true) (fun _=>False) [0] where
 len:=by simp
 zero:=by rw [List.getElem?_set_self (by simpa using h)]
 sound:=by
  intro j hj
  by_cases e:j=0
  ·exact Or.inl e
  ·rw [List.getElem?_set_ne (by omega)] at hj
   simp [List.getElem?_replicate] at hj
 seen:=by
  intro x hx
  simp at hx;subst hx
  rw [List.getElem?_set_self (by simpa using h)]
 all:=by
  intro j hj
  by_cases e:j=0
  ·exact Or.inr (by simp [e])
  ·rw [List.getElem?_set_ne (by omega)] at hj
   simp [List.getElem?_replicate] at hj
 out:=fun _ _ h=>False.elim h
theorem Srch2.over {l:List In} {bs:List Bool} {done:Nat→Prop} (h:Srch2 l bs done []) (j:Nat):bs[j]? = some true↔Frm l j:=by
 refine ⟨h.sound j,fun hf => ?_⟩
 have hst:∀x j,bs[x]? = some true→Edge l true x j→bs[j]? = some true:=by
  intro x j hx he
  rcases h.all x hx with hd|hd
  ·exact h.out x j hd he
  ·simp at hd
 rcases hf with hf|hf
 ·subst hf;exact h.zero
 ·exact hf.closed (S:=fun j=>bs[j]? = some true) (fun j hj=>hst 0 j h.zero hj) hst
structure Lv2 (l:List In) (bs:List Bool) (done:Nat→Prop) (q:List Nat) (x:Nat) (ys:List Nat):Prop where
 len:bs.length=l.length
 zero:bs[0]? = some true
 sound:∀j:Nat,bs[j]? = some true→Frm l j
 here:bs[x]? = some true
 seen:∀x∈q,bs[x]? = some true
 all:∀j:Nat,bs[j]? = some true→done j∨j∈q∨j=x
 out:∀x j,done x→Edge l true x j→bs[j]? = some true
 got:∀j∈ys,bs[j]? = some true
theorem Srch2.leave {l:List In} {bs:List Bool} {done:Nat→Prop} {q:List Nat} {x:Nat} (h:Srch2 l bs done (q++[x])):Lv2 l bs done q x [] where
 len:=h.len
 zero:=h.zero
 sound:=h.sound
 here:=h.seen x (by simp)
 seen:=fun y hy=>h.seen y (by simp [hy])
 all:=by
  intro j hj
  rcases h.all j hj with h1|h1
  ·exact Or.inl h1
  ·simp at h1;exact Or.inr h1
 out:=h.out
 got:=by simp
theorem Lv2.mk1 {l:List In} {bs:List Bool} {done:Nat→Prop} {q:List Nat} {x j:Nat} {ys:List Nat} (h:Lv2 l bs done q x ys) (he:Edge l true x j) (hj:j<l.length):Lv2 l (mkB bs j) done (mkQ bs q j) x (ys++[j]):=by
 have hl:=h.len
 unfold mkB mkQ
 split
 ·simp only [Int.toNat_natCast]
  refine ⟨by simp [hl],get_set_true h.zero,?_,get_set_true h.here,?_,?_,fun y k hy hk=>get_set_true (h.out y k hy hk),?_⟩
  ·intro k hk
   by_cases e:k=j
   ·subst e;exact (h.sound x h.here).step he
   ·rw [List.getElem?_set_ne (by omega)] at hk
    exact h.sound k hk
  ·intro y hy
   rcases List.mem_append.1 hy with hy|hy
   ·exact get_set_true (h.seen y hy)
   ·simp at hy;subst hy
    rw [List.getElem?_set_self (by omega)]
  ·intro k hk
   by_cases e:k=j
   ·subst e;exact Or.inr (Or.inl (by simp))
   ·rw [List.getElem?_set_ne (by omega)] at hk
    rcases h.all k hk with h1|h1|h1
    ·exact Or.inl h1
    ·exact Or.inr (Or.inl (by simp [h1]))
    ·exact Or.inr (Or.inr h1)
  ·intro k hk
   rcases List.mem_append.1 hk with hk|hk
   ·exact get_set_true (h.got k hk)
   ·simp at hk;subst hk
    rw [List.getElem?_set_self (by omega)]
 ·rename_i hn
  have hb:bs[j]? = some true:=by
   rw [List.getElem?_eq_getElem (by omega)] at hn ⊢
   simp at hn
   simp [hn]
  refine ⟨h.len,h.zero,h.sound,h.here,h.seen,h.all,h.out,fun k hk => ?_⟩
  rcases List.mem_append.1 hk with hk|hk
  ·exact h.got k hk
  ·simp at hk;subst hk;exact hb
theorem Lv2.left {l:List In} {bs:List Bool} {done:Nat→Prop} {q:List Nat} {x:Nat} {ys:List Nat} (h:Lv2 l bs done q x ys) (hy:∀j,Edge l true x j→j∈ys):Srch2 l bs (fun y=>done y∨y=x) q where
 len:=h.len
 zero:=h.zero
 sound:=h.sound
 seen:=h.seen
 all:=by
  intro j hj
  rcases h.all j hj with h1|h1|h1
  ·exact Or.inl (Or.inl h1)
  ·exact Or.inr h1
  ·exact Or.inl (Or.inr h1)
 out:=by
  intro y j hy' hj
  rcases hy' with h1|h1
  ·exact h.out y j h1 hj
  ·subst h1;exact h.got j (hy j hj)
theorem Srch2.both {l:List In} {bs:List Bool} {done:Nat→Prop} {q:List Nat} {x:Nat} {v:In} (h:Srch2 l bs done (q++[x])) (hA:AllIns l) (hv:l[x]? = some v) :
  Srch2 l (mkB (mkB bs (nx1 v x)) (nx2 v x)) (fun y=>done y∨y=x) (mkQ (mkB bs (nx1 v x)) (mkQ bs q (nx1 v x)) (nx2 v x)):=by
 have h1:=h.leave
 rcases nx_spec hA hv with ⟨h6,e1,e2,e3⟩ | ⟨h6,j1,j2,e1,e2,l1,l2,e3⟩
 ·rw [e1,e2,mkB_neg,mkB_neg,mkQ_neg,mkQ_neg]
  refine h1.left (fun j hj => ?_)
  rw [edge_of hv (fun _=>rfl),e3] at hj
  exact hj
 ·rw [e1,e2]
  have k1:=h1.mk1 ((edge_of hv (fun _=>rfl)).2 ((e3 j1).2 (Or.inl rfl))) l1
  have k2:=k1.mk1 ((edge_of hv (fun _=>rfl)).2 ((e3 j2).2 (Or.inr rfl))) l2
  refine k2.left (fun j hj => ?_)
  rw [edge_of hv (fun _=>rfl),e3] at hj
  simpa using hj
def ldB (x:In) (i:Nat) (bs:List Bool):Bool:=decide (x.op=6)||(decide (0≤nx1 x i)&&decide (bs[(nx1 x i).toNat]? = some true))||(decide (0≤nx2 x i)&&decide (bs[(nx2 x i).toNat]? = some true))
theorem ldB_iff {l:List In} (hA:AllIns l) {i:Nat} {x:In} (hx:l[i]? = some x) (bs:List Bool):ldB x i bs=true↔x.op=6∨∃j,Edge l true i j∧bs[j]? = some true:=by
 rcases nx_spec hA hx with ⟨h6,e1,e2,e3⟩ | ⟨h6,j1,j2,e1,e2,l1,l2,e3⟩
 ·simp [ldB,h6]
 ·simp only [ldB,e1,e2,Bool.or_eq_true,Bool.and_eq_true,decide_eq_true_eq,h6,false_or]
  constructor
  ·rintro (⟨_,h⟩ | ⟨_,h⟩)
   ·exact ⟨j1,(edge_of hx (fun _=>rfl)).2 ((e3 j1).2 (Or.inl rfl)),by simpa using h⟩
   ·exact ⟨j2,(edge_of hx (fun _=>rfl)).2 ((e3 j2).2 (Or.inr rfl)),by simpa using h⟩
  ·rintro ⟨j,hj,hb⟩
   rw [edge_of hx (fun _=>rfl),e3] at hj
   rcases hj with rfl|rfl
   ·exact Or.inl ⟨by omega,by simpa using hb⟩
   ·exact Or.inr ⟨by omega,by simpa using hb⟩
theorem ldB_sound {l:List In} (hA:AllIns l) {i:Nat} {x:In} (hx:l[i]? = some x) {bs:List Bool} (hs:∀j:Nat,bs[j]? = some true→ToE l j) (h:ldB x i bs=true):ToE l i:=by
 rcases (ldB_iff hA hx bs).1 h with h|⟨j,hj,hb⟩
 ·exact ⟨i,x,hx,h,Or.inl rfl⟩
 ·exact (hs j hb).step hj
theorem ldB_over {l:List In} (hA:AllIns l) {bs:List Bool} (hl:bs.length=l.length) (hs:∀j:Nat,bs[j]? = some true→ToE l j) (hc:∀(i:Nat) (x:In),l[i]? = some x→bs[i]? = some false→ldB x i bs=false) (j:Nat):bs[j]? = some true↔ToE l j:=by
 refine ⟨hs j,fun h => ?_⟩
 have hbb:∀i:Nat,i<l.length→¬bs[i]? = some true→bs[i]? = some false:=by
  intro i hi h
  rw [List.getElem?_eq_getElem (by omega)] at h ⊢
  simp at h;simp [h]
 refine h.closed (S:=fun j=>bs[j]? = some true) ?_ ?_
 ·intro k x hx h6
  refine Classical.byContradiction fun hn => ?_
  have:=hc k x hx (hbb k (List.getElem?_eq_some_iff.1 hx).1 hn)
  simp [ldB,h6] at this
 ·intro x j hj hb
  refine Classical.byContradiction fun hn => ?_
  obtain ⟨v,hv,_⟩:=hj
  have:=hc x v hv (hbb x (List.getElem?_eq_some_iff.1 hv).1 hn)
  rw [(ldB_iff hA hv bs).2 (Or.inr ⟨j,⟨v,hv,by assumption⟩,hb⟩)] at this
  cases this
end
end Go.Proofs.YtcboiapggnmpfabGreat
