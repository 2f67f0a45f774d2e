import Derived.Test.YtcboiapggnmpfabGreatQbx
import Derived.Test.YtcboiapggnmpfabGreatQbw
import Derived.Test.YtcboiapggnmpfabGreatQag
import Derived.Test.YtcboiapggnmpfabGreatQan
namespace Go.Proofs.YtcboiapggnmpfabGreat
set_option maxRecDepth 100000
set_option maxHeartbeats 1000000
set_option linter.unusedSimpArgs false
set_option linter.unusedVariables false
open Go.RowKit
deriving instance DecidableEq for In
theorem Rch.trans {l:List In} {t:Bool} {i j k:Nat} (h:Rch l t i j) (h2:Rch l t j k):Rch l t i k:=fun S h1 h3=>h2 S (fun y hy=>h3 j y (h S h1 h3) hy) h3
def fwN (l:List In):Nat→List Nat→Nat→Nat
 | 0,_,m=>m
 | _+1,[],m=>m
 | f+1,a::st,m=>if m.testBit a=true then fwN l f st m else match l[a]? with
  | none=>fwN l f st m
  | some x=>fwN l f (nxt x a++st) (m ||| 2 ^ a)
theorem frm_next {l:List In} {i j:Nat} (h:Frm l i) (he:Edge l true i j):Frm l j:=by
 rcases h with rfl|h
 ·exact Or.inr (Rch.one he)
 ·exact Or.inr (h.more he)
theorem fwN_ok {l:List In}:∀(f:Nat) (st:List Nat) (m:Nat),(∀a∈st,Frm l a)→(∀a:Nat,m.testBit a=true→Frm l a)→∀a:Nat,(fwN l f st m).testBit a=true→Frm l a:=by
 intro f
 induction f with
 | zero=>intro st m _ h;exact h
 | succ f ih =>
  intro st m hst h
  cases st with
  | nil=>exact h
  | cons b st =>
   unfold fwN
   have hst2:∀a∈st,Frm l a:=fun a ha=>hst a (List.mem_cons_of_mem _ ha)
   split
   ·exact ih st m hst2 h
   split
   ·exact ih st m hst2 h
   ·rename_i x hx
    have hb:=hst b List.mem_cons_self
    refine ih _ _ ?_ ?_
    ·intro a ha
     rcases List.mem_append.1 ha with ha|ha
     ·exact frm_next hb ⟨x,hx,fun _=>rfl,ha⟩
     ·exact hst2 a ha
    ·intro a ha
     rw [Nat.testBit_or,Bool.or_eq_true] at ha
     rcases ha with ha|ha
     ·exact h a ha
     ·rw [Nat.testBit_two_pow] at ha
      simp at ha
      subst ha
      exact hb
def shutF (m:Nat):List In→Nat→Bool
 | [],_=>true
 | x::r,i=>(!m.testBit i||(nxt x i).all fun b=>m.testBit b)&&shutF m r (i+1)
theorem shutF_at {m:Nat}:∀(r:List In) (i:Nat),shutF m r i=true→∀(k:Nat) x,r[k]? = some x→m.testBit (i+k)=true→∀b∈nxt x (i+k),m.testBit b=true:=by
 intro r
 induction r with
 | nil=>intro i _ k x hx;simp at hx
 | cons y r ih =>
  intro i h k x hx hm b hb
  simp only [shutF,Bool.and_eq_true,Bool.or_eq_true,Bool.not_eq_true',List.all_eq_true] at h
  cases k with
  | zero =>
   simp at hx
   subst hx
   rcases h.1 with h1|h1
   ·rw [Nat.add_zero] at hm;rw [hm] at h1;cases h1
   ·exact h1 b (by simpa using hb)
  | succ k =>
   have e:i+(k+1)=i+1+k:=by omega
   rw [e] at hm hb
   exact ih (i+1) h.2 k x (by simpa using hx) hm b hb
def bwG (m:Nat):List In→Nat→Nat
 | [],_=>0
 | x::r,i=>(if m.testBit i=true∨x.op=6∨(nxt x i).any (fun b=>m.testBit b)=true then 1 else 0)+2*bwG m r (i+1)
def bwN (l:List In):Nat→Nat
 | 0=>0
 | n+1=>bwG (bwN l n) l 0
theorem bwG_bit (m:Nat):∀(r:List In) (i a:Nat),(bwG m r i).testBit a=true↔∃x,r[a]? = some x∧(m.testBit (i+a)=true∨x.op=6∨∃b∈nxt x (i+a),m.testBit b=true):=by
 intro r
 induction r with
 | nil=>intro i a;simp [bwG]
 | cons x r ih =>
  intro i a
  cases a with
  | zero =>
   simp only [bwG,Nat.testBit_zero,List.getElem?_cons_zero,Option.some.injEq,exists_eq_left',decide_eq_true_eq,Nat.add_zero,List.any_eq_true]
   split
   ·rename_i h
    exact ⟨fun _=>h,fun _=>by omega⟩
   ·rename_i h
    exact ⟨fun h2=>by omega,fun h2=>absurd h2 h⟩
  | succ a =>
   rw [Nat.testBit_succ]
   have:bwG m (x::r) i / 2=bwG m r (i+1):=by
    simp only [bwG]
    split <;> omega
   rw [this,ih,show i+1+a=i+(a+1) by omega]
   simp
theorem toE_next {l:List In} {i j:Nat} (he:Edge l true i j) (h:ToE l j):ToE l i:=by
 obtain ⟨k,x,hk,h6,h⟩:=h
 refine ⟨k,x,hk,h6,Or.inr ?_⟩
 rcases h with rfl|h
 ·exact Rch.one he
 ·exact (Rch.one he).trans h
theorem bwN_ok (l:List In):∀n a,(bwN l n).testBit a=true→ToE l a:=by
 intro n
 induction n with
 | zero=>intro a h;simp [bwN] at h
 | succ n ih =>
  intro a h
  obtain ⟨x,hx,h⟩:=(bwG_bit _ l 0 a).1 h
  rw [Nat.zero_add] at h
  rcases h with h|h|⟨b,hb,h⟩
  ·exact ih a h
  ·exact ⟨a,x,hx,h,Or.inl rfl⟩
  ·exact toE_next ⟨x,hx,fun _=>rfl,hb⟩ (ih b h)
def shutW (m:Nat):List In→Nat→Bool
 | [],_=>true
 | x::r,i=>(m.testBit i||(!decide (x.op=6)&&(nxt x i).all fun b => !m.testBit b))&&shutW m r (i+1)
theorem shutW_at {m:Nat}:∀(r:List In) (i:Nat),shutW m r i=true→∀(k:Nat) x,r[k]? = some x→¬m.testBit (i+k)=true→¬x.op=6∧∀b∈nxt x (i+k),¬m.testBit b=true:=by
 intro r
 induction r with
 | nil=>intro i _ k x hx;simp at hx
 | cons y r ih =>
  intro i h k x hx hm
  simp only [shutW,Bool.and_eq_true,Bool.or_eq_true,Bool.not_eq_true',decide_eq_false_iff_not,List.all_eq_true] at h
  cases k with
  | zero =>
   simp at hx
   subst hx
   rcases h.1 with h1|h1
   ·exact absurd h1 hm
   ·exact ⟨h1.1,fun b hb=>by rw [h1.2 b (by simpa using hb)];simp⟩
  | succ k =>
   have e:i+(k+1)=i+1+k:=by omega
   rw [e] at hm ⊢
   exact ih (i+1) h.2 k x (by simpa using hx) hm
def keepsB (l:List In) (n:Nat):List Bool:=(List.range l.length).map fun i=>(fwN l (3*l.length+3) [0] 0).testBit i&&(bwN l n).testBit i
def keepOkB (l:List In) (n:Nat):Bool:=(fwN l (3*l.length+3) [0] 0).testBit 0&&shutF (fwN l (3*l.length+3) [0] 0) l 0&&shutW (bwN l n) l 0
theorem keepB_is {l:List In} {n:Nat} (h:keepOkB l n=true):KeepIs l (keepsB l n):=by
 unfold keepOkB at h
 simp only [Bool.and_eq_true] at h
 obtain ⟨⟨h0,hf⟩,hb⟩:=h
 have f1:∀a:Nat,(fwN l (3*l.length+3) [0] 0).testBit a=true→Frm l a:=fwN_ok _ _ _ (by intro a ha;simp at ha;exact Or.inl ha) (by intro a ha;simp at ha)
 have f2:∀a:Nat,Frm l a→(fwN l (3*l.length+3) [0] 0).testBit a=true:=by
  have hs:∀x j,(fwN l (3*l.length+3) [0] 0).testBit x=true→Edge l true x j→(fwN l (3*l.length+3) [0] 0).testBit j=true:=by
   rintro x j hx ⟨y,hy,_,hj⟩
   have:=shutF_at l 0 hf x y hy (by simpa using hx)
   rw [Nat.zero_add] at this
   exact this j hj
  rintro a (rfl|h)
  ·exact h0
  ·exact h.closed (fun j hj=>hs 0 j h0 hj) hs
 have b1:=bwN_ok l n
 have b2:∀a:Nat,ToE l a→(bwN l n).testBit a=true:=by
  have hs:∀x j,¬(bwN l n).testBit x=true→Edge l true x j→¬(bwN l n).testBit j=true:=by
   rintro x j hx ⟨y,hy,_,hj⟩
   have:=(shutW_at l 0 hb x y hy (by simpa using hx)).2
   rw [Nat.zero_add] at this
   exact this j hj
  rintro a ⟨k,x,hk,h6,hr⟩
  by_cases hc:(bwN l n).testBit a=true
  ·exact hc
  ·exfalso
   have hkk:¬(bwN l n).testBit k=true:=by
    rcases hr with rfl|hr
    ·exact hc
    ·exact hr.closed (S:=fun j=>¬(bwN l n).testBit j=true) (fun j hj=>hs a j hc hj) hs
   exact (shutW_at l 0 hb k x hk (by simpa using hkk)).1 h6
 refine ⟨by simp [keepsB],?_⟩
 intro i hi
 have e:(keepsB l n)[i]? = some ((fwN l (3*l.length+3) [0] 0).testBit i&&(bwN l n).testBit i):=by
  unfold keepsB
  rw [List.getElem?_map,List.getElem?_range hi]
  rfl
 rw [e]
 simp only [Option.some.injEq,Bool.and_eq_true]
 exact ⟨fun h=>⟨f1 i h.1,b1 i h.2⟩,fun h=>⟨f2 i h.1,b2 i h.2⟩⟩
def trimB (l o:List In) (n:Nat):Bool:=validB l n&&keepOkB l n&&decide ((keepsB l n)[0]? = some true)&&decide (o=trimTo (numTo (keepsB l n) l.length) (keepsB l n) l l.length)
theorem trimB_is {l o:List In} {n:Nat} (h:trimB l o n=true):TrimIs l 0 o:=by
 unfold trimB at h
 simp only [Bool.and_eq_true,decide_eq_true_eq] at h
 obtain ⟨⟨⟨h1,h2⟩,h3⟩,h4⟩:=h
 exact ⟨0,0,validB_is h1,Or.inr ⟨rfl,_,keepB_is h2,Or.inr ⟨h3,rfl,h4⟩⟩⟩
def bgB (code c2:List In) (d:Nat) (ex:Nat→Bool):Bool:=((beginsS c2).all fun b=>ex b||(decide (d≤b)&&(beginsS code).contains (b - d)))&&((beginsS code).all fun b=>(beginsS c2).contains (b+d)&&isTk code b)
def tmB (code:List In):Bool:=trimB code code 60&&trimB (moreOf code) (trimOf code) 60&&validB (trimOf code) 60&&inOkB (moreOf code)&&inOkB (trimOf code)&&freeB (moreOf code) (beginsS (moreOf code)) 12&&freeB (trimOf code) (beginsS (trimOf code)) 12&&bgB code (moreOf code) 3 (fun b=>decide (b=1))&&bgB code (trimOf code) 1 (fun _=>false)&&decide (4≤code.length)&&decide (code.length≤500)
theorem tmd0:tmB ncode0=true:=by kernel_rfl
theorem tmd1:tmB ncode1=true:=by kernel_rfl
theorem tmd2:tmB ncode2=true:=by kernel_rfl
theorem tmd3:tmB ncode3=true:=by kernel_rfl
theorem tmd4:tmB ncode4=true:=by kernel_rfl
theorem tmd5:tmB ncode5=true:=by kernel_rfl
theorem tmd6:tmB ncode6=true:=by kernel_rfl
theorem tmd7:tmB ncode7=true:=by kernel_rfl
theorem tmd8:tmB ncode8=true:=by kernel_rfl
theorem tmd9:tmB ncode9=true:=by kernel_rfl
theorem Eb.evs {W0 wr:World} {lp:Option Addr} {n c:Nat} {L:List Evt} (h:Eb W0 wr (.slice lp n c) L):EvsP wr lp L∧(∀g,lp=some ⟨g,0,none⟩→g<wr.heap.size):=by
 refine ⟨?_,?_⟩
 ·intro hne
  obtain ⟨g,c',e⟩:=owns_some h.own (List.length_pos_iff.2 hne)
  simp only [Value.slice.injEq] at e
  obtain ⟨rfl,rfl,rfl⟩:=e
  refine ⟨g,rfl,(h.own.lt g rfl).2,?_⟩
  intro i x hx j v hv
  have hj:j<5:=by have:=(List.getElem?_eq_some_iff.1 hv).1;simpa [evC5] using this
  exact owns_cell h.own (i*5+j) (by rw [evsR_get L i j x hx hj];exact hv)
 ·intro g e
  subst e
  exact (h.own.lt g rfl).2
theorem compileO_any (sc s:ByteArray) (l:List In) (hsc:sc.size≤maxLen) (hs:s.size≤maxLen) (hp:ProgIs sc s l) (W:World) :
  Calls Tryz.prog 24 #[.string sc,.string s] W fun e w'=>∃g cap,e=.returned (.tuple #[.slice (some ⟨g,0,none⟩) l.length cap,.int .i64 0])∧w'.ownsRow W.heap.size 62 14 (.slice (some ⟨g,0,none⟩) l.length cap) l.length (codeC l)∧Nw W w':=by
 obtain ⟨_,hne,_⟩:=hp.v.all
 have h0:0<l.length:=List.length_pos_iff.2 hne
 refine (compileP_any sc s W hsc hs).mono ?_
 rintro e w' ⟨hk,⟨f,p,he,hf,hck⟩ | ⟨p,t,win,L,v,he,hck,⟨x,hx⟩,hkn,ho⟩⟩
 ·exact absurd (hp.ck f p hck) hf
 ·rw [hp.code t win L x hx hkn] at ho
  obtain ⟨g,cap,rfl⟩:=owns_some ho h0
  exact ⟨g,cap,he,ho,hk⟩
theorem codeOw {w:World} {base g n c:Nat} {l:List In} (ho:w.ownsRow base 62 14 (.slice (some ⟨g,0,none⟩) n c) n (codeC l)):Code' w g l :=
 Code'.of_cells (ho.lt g rfl).2 (fun j v hv=>owns_cell ho j hv)
open Value (bool)
def numC (xs:List Int):List Value:=xs.map (fun z=>.int .i64 z)
theorem numC_one (xs:List Int) (z:Int):numC (xs++[z])=numC xs++[.int .i64 z]:=by simp [numC]
theorem numC_get (xs:List Int) (i:Nat):(numC xs)[i]? = (xs[i]?).map (fun z=>.int .i64 z):=by simp [numC]
theorem unNumb:Tryz.prog.underlying 129=some (.slice 3):=by kernel_rfl
theorem ownsBaseX' {w:World} {base base' n size:Nat} {e:TypeId} {v:Value} {xs:List Value} (h:w.ownsRow base e size v n xs) (hb:base'≤base):w.ownsRow base' e size v n xs:=by
 obtain ⟨h1,h2⟩:=h
 refine ⟨h1,?_⟩
 rcases h2 with h2|⟨g,cap,cur,a,b,c⟩
 ·exact Or.inl h2
 ·exact Or.inr ⟨g,cap,cur,a,Nat.le_trans hb b,c⟩
structure Nb (W0 wr:World) (v:Value) (xs:List Int):Prop where
 own:wr.ownsRow W0.heap.size 3 1 v xs.length (numC xs)
 nw:Nw W0 wr
theorem Nb.next {W0 wr w':World} {v:Value} {xs:List Int} (h:Nb W0 wr v xs) (k:Nw wr w'):Nb W0 w' v xs:=⟨owns_kp h.own k (fun _ _ h=>h),h.nw.trans k⟩
theorem Nb.more {W0 wr w':World} {v v':Value} {xs:List Int} {z:Int} (h:Nb W0 wr v xs) (hg:wr.grownBy w' v.ownBlock) (ho:w'.ownsRow W0.heap.size 3 1 v' (xs.length+1) (numC xs++[.int .i64 z])):Nb W0 w' v' (xs++[z]):=by
 refine ⟨?_,h.nw.grown hg (fun b hb=>Or.inl (h.own.lt b hb).1)⟩
 have e1:(xs++[z]).length=xs.length+1:=by simp
 rw [e1,numC_one];exact ho
theorem numberAnew_any (g cap : Nat) (l : List In) (ks : List Bool) (w : World) (hc : Code' w g l) (hA : AllIns l) (hi : 0 < l.length) (hn : l.length ≤ 1000) (hk : KeepIs l ks) :
    Calls Tryz.prog 58 #[.slice (some ⟨g, 0, none⟩) l.length cap] w fun e w' => ∃ v, e = .returned v ∧ Nb w w' v (numTo ks l.length) := by
  obtain ⟨i1, hi1, hy0, hy1, hy2⟩ := info_parts Tryz.info3
  go_enter Tryz.func58, Tryz.ntmps58
  go_wp2_with fail
  refine (reachedFromFirst_any g cap l w hc hA hi hn).mono ?_
  rintro e w1 ⟨b1, rfl, hrow, hl1, hb1, k1⟩
  have C1 : Hid (Code' w1 g l) := hc.kp k1 (fun h => h)
  have K1 : Hid (Nw w w1) := k1
  have R1 : Hid (Row w1 w.heap.size 4 (b1.map bool)) := hrow
  clear hrow k1
  go_wp2_with fail
  refine (leadingToEnd_any g cap l w1 C1.out hA hi hn).mono ?_
  rintro e w2 ⟨b2, rfl, hrow, hl2, hb2, k2⟩
  have K2 : Hid (Nw w w2) := K1.out.trans k2
  have R2 : Hid (Row w2 w1.heap.size 4 (b2.map bool)) := hrow
  have R2' : Hid (Row w2 w.heap.size 4 (b1.map bool)) := R1.out.kp k2 (fun h => h)
  have HKS : Hid (∀ (i : Nat) (x y : Bool), b1[i]? = some x → b2[i]? = some y → (ks[i]? = some true ↔ x = true ∧ y = true)) := by
    intro i x y h1 h2
    have hil : i < l.length := by rw [← hl1]; exact (List.getElem?_eq_some_iff.1 h1).1
    rw [hk.on i hil, ← hb1 i, ← hb2 i, h1, h2]
    simp
  have HSZ : Hid (w1.heap.size ≤ w2.heap.size) := k2.size
  have HL1 : Hid (b1.length = l.length) := hl1
  have HL2 : Hid (b2.length = l.length) := hl2
  clear hrow hb1 hb2 k2 R1 K1 C1 hl1 hl2 hc hA hk
  go_wp2
  go_loopg [5, 6, 7] l.length (fun m v5 v6 v7 wr => ∃ i : Nat, v6 = .int .i64 (cntTo ks i : Nat) ∧ v7 = .int .i64 i ∧ m = l.length - i ∧ i ≤ l.length ∧ Nb w2 wr v5 (numTo ks i))
  case atStart => exact ⟨0, rfl, rfl, rfl, by omega, ⟨World.ownsRow_nil _ _ _ _, Kp.refl _ _⟩⟩
  case round =>
    obtain ⟨i, rfl, rfl, hm, hil, hB⟩ := hrel
    have HM : Hid (_ = l.length - i) := hm
    have HB : Hid (Nb w2 wr u5 (numTo ks i)) := hB
    clear hm
    by_cases hi' : i < l.length
    · obtain ⟨x, hx⟩ : ∃ x, b1[i]? = some x := ⟨b1[i]'(by rw [HL1.out]; exact hi'), by simp [HL1.out, hi']⟩
      obtain ⟨y, hy⟩ : ∃ y, b2[i]? = some y := ⟨b2[i]'(by rw [HL2.out]; exact hi'), by simp [HL2.out, hi']⟩
      have HKI : Hid (ks[i]? = some true ↔ x = true ∧ y = true) := HKS.out i x y hx hy
      have c1 : wr.cell? ⟨w.heap.size, i, none⟩ = some (.bool x) := by
        rw [(R2'.out.kp hB.nw (fun h => h)).cell]; simp [hx]
      have c2 : wr.cell? ⟨w1.heap.size, i, none⟩ = some (.bool y) := by
        rw [(R2.out.kp hB.nw (fun h => h)).cell]; simp [hy]
      have hle := cntTo_le ks i
      have hlen : (numTo ks i).length = i := numTo_length ks i
      clear hx hy hB
      cases x with
      | true =>
       cases y with
       | true =>
        have HN : Hid (numTo ks (i + 1) = numTo ks i ++ [(cntTo ks i : Int)]) := by
          show _ = _
          have : ks[i]? = some true := HKI.out.2 ⟨rfl, rfl⟩
          simp [numTo, this]
        have HC : Hid (cntTo ks (i + 1) = cntTo ks i + 1) := by
          show _ = _
          have : ks[i]? = some true := HKI.out.2 ⟨rfl, rfl⟩
          simp [cntTo, this]
        clear HKI
        generalize hc : cntTo ks i = c at *
        go_wp2_with (at_builtin; refine wpList_append_lies _ rfl _ _ 129 rfl w2.heap.size 3 i1 (.int .i64 0) 1 8 unNumb hi1 hy0 hy1 hy2 rfl (by decide) _ _ _ rfl (HB.out.own.alloc _) ⟨wr.heap.size, 0, none⟩ 1 1 [.int .i64 c] rfl rfl ?c1 ?c2 (by decide) ?c3 ?c4 ?c5 _ rfl ?_)
        case c1 => exact news_one _ (by simp) _ _
        case c2 => intro u hu; simp at hu; subst hu; rfl
        case c3 => unfold maxLen; omega
        case c4 => omega
        case c5 => have := HB.out.nw.size; simp; omega
        intro g3 cap3 w3 hown3 hgrow3 hat3 hlt3
        have HB3 : Hid (Nb w2 w3 (.slice (some ⟨g3, 0, none⟩) (i + 1) cap3) (numTo ks i ++ [(c : Int)])) := by
          have := (HB.out.next ((Kp.refl _ _).alloc _)).more hgrow3 (by rw [hlen]; exact hown3)
          exact this
        clear hown3 hgrow3 hat3
        go_wp2
        go_roundg (l.length - (i + 1))
        case measure => rw [HM.out]; omega
        case rel => exact ⟨i + 1, by rw [HC.out]; simp, by simp, rfl, by omega, by rw [HN.out]; exact HB3.out⟩
       | false =>
        have HN : Hid (numTo ks (i + 1) = numTo ks i ++ [-1]) := by
          show _ = _
          have : ¬ ks[i]? = some true := fun h => by have := HKI.out.1 h; simp at this
          simp [numTo, this]
        have HC : Hid (cntTo ks (i + 1) = cntTo ks i) := by
          show _ = _
          have : ¬ ks[i]? = some true := fun h => by have := HKI.out.1 h; simp at this
          simp [cntTo, this]
        clear HKI
        generalize hc : cntTo ks i = c at *
        go_wp2_with (at_builtin; refine wpList_append_lies _ rfl _ _ 129 rfl w2.heap.size 3 i1 (.int .i64 0) 1 8 unNumb hi1 hy0 hy1 hy2 rfl (by decide) _ _ _ rfl (HB.out.own.alloc _) ⟨wr.heap.size, 0, none⟩ 1 1 [.int .i64 (-1)] rfl rfl ?c1 ?c2 (by decide) ?c3 ?c4 ?c5 _ rfl ?_)
        case c1 => exact news_one _ (by simp) _ _
        case c2 => intro u hu; simp at hu; subst hu; rfl
        case c3 => unfold maxLen; omega
        case c4 => omega
        case c5 => have := HB.out.nw.size; simp; omega
        intro g3 cap3 w3 hown3 hgrow3 hat3 hlt3
        have HB3 : Hid (Nb w2 w3 (.slice (some ⟨g3, 0, none⟩) (i + 1) cap3) (numTo ks i ++ [-1])) := by
          have := (HB.out.next ((Kp.refl _ _).alloc _)).more hgrow3 (by rw [hlen]; exact hown3)
          exact this
        clear hown3 hgrow3 hat3
        go_wp2
        go_roundg (l.length - (i + 1))
        case measure => rw [HM.out]; omega
        case rel => exact ⟨i + 1, by rw [HC.out], by simp, rfl, by omega, by rw [HN.out]; exact HB3.out⟩
      | false =>
        have HN : Hid (numTo ks (i + 1) = numTo ks i ++ [-1]) := by
          show _ = _
          have : ¬ ks[i]? = some true := fun h => by have := HKI.out.1 h; simp at this
          simp [numTo, this]
        have HC : Hid (cntTo ks (i + 1) = cntTo ks i) := by
          show _ = _
          have : ¬ ks[i]? = some true := fun h => by have := HKI.out.1 h; simp at this
          simp [cntTo, this]
        clear HKI
        generalize hc : cntTo ks i = c at *
        go_wp2_with (at_builtin; refine wpList_append_lies _ rfl _ _ 129 rfl w2.heap.size 3 i1 (.int .i64 0) 1 8 unNumb hi1 hy0 hy1 hy2 rfl (by decide) _ _ _ rfl (HB.out.own.alloc _) ⟨wr.heap.size, 0, none⟩ 1 1 [.int .i64 (-1)] rfl rfl ?c1 ?c2 (by decide) ?c3 ?c4 ?c5 _ rfl ?_)
        case c1 => exact news_one _ (by simp) _ _
        case c2 => intro u hu; simp at hu; subst hu; rfl
        case c3 => unfold maxLen; omega
        case c4 => omega
        case c5 => have := HB.out.nw.size; simp; omega
        intro g3 cap3 w3 hown3 hgrow3 hat3 hlt3
        have HB3 : Hid (Nb w2 w3 (.slice (some ⟨g3, 0, none⟩) (i + 1) cap3) (numTo ks i ++ [-1])) := by
          have := (HB.out.next ((Kp.refl _ _).alloc _)).more hgrow3 (by rw [hlen]; exact hown3)
          exact this
        clear hown3 hgrow3 hat3
        go_wp2
        go_roundg (l.length - (i + 1))
        case measure => rw [HM.out]; omega
        case rel => exact ⟨i + 1, by rw [HC.out], by simp, rfl, by omega, by rw [HN.out]; exact HB3.out⟩
    · have ei : i = l.length := by omega
      subst ei
      go_wp2
      go_ret
      exact ⟨_, rfl, ownsBaseX' HB.out.own K2.out.size, K2.out.trans HB.out.nw⟩
theorem of_any (base gn cn:Nat) (xs:List Int) (z:Int) (w:World) (h:w.ownsRow base 3 1 (.slice (some ⟨gn,0,none⟩) xs.length cn) xs.length (numC xs)) (hz:0≤z) (hn:xs.length≤1000) :
  Calls Tryz.prog 59 #[.slice (some ⟨gn,0,none⟩) xs.length cn,.int .i64 z] w fun e w'=>e=.returned (.int .i64 (nowAt xs z))∧w'=w:=by
 obtain ⟨k,rfl⟩:∃k:Nat,z=k:=⟨z.toNat,by omega⟩
 by_cases hk:k<xs.length
 ·obtain ⟨y,hy⟩:∃y,xs[k]? = some y:=⟨xs[k],by simp [hk]⟩
  have c:w.cell? ⟨gn,k,none⟩=some (.int .i64 y):=owns_cell h k (by rw [numC_get,hy];rfl)
  have hv:nowAt xs k=y:=by simp [nowAt,hy]
  go_enter Tryz.func59,Tryz.ntmps59
  go_wp2
  go_ret
  exact ⟨by rw [hv];rfl,rfl⟩
 ·have hv:nowAt xs k = -1:=by
   have:xs[k]? = none:=by simp;omega
   simp [nowAt,this]
  have hk2:xs.length≤k:=by omega
  go_enter Tryz.func59,Tryz.ntmps59
  go_wp2
  go_ret
  exact ⟨by rw [hv];rfl,rfl⟩
theorem Tryz.rowI2:(Tryz.prog.underlying 62).map TypeDesc.isRow=some true:=by kernel_rfl
theorem Tryz.sizeI2:(Tryz.prog.info? 62).map (·.size)=some 14:=by kernel_rfl
theorem range_n2 (w:World) (cs:List Value) (t:TypeId) {B:Nat} (hB:B=w.heap.size):(w.alloc (.cells cs.toArray t)).rangeAt B 0 cs:=by
 subst hB
 intro j v hv
 rw [Nat.zero_add,World.cell?_alloc_at (w:=w) cs.toArray t _ j rfl]
 simpa using hv
theorem results_c2 {fn:Func} {a:Tmp} {t:TypeId} (h:fn.results=#[.cell a t]) (tmps:Array Value) (P:Program) (w:World) (b:Addr) (hp:tmps.getD a undef=.pointer (some b)) (v:Value) (hl:(loadVar t b).run P w=.ok v w):(results fn tmps).run P w=.ok v w:=by
 have hp':tmps[a]?.getD undef=.pointer (some b):=by simpa using hp
 simp [results,h,hp',asAddr,hl]
def splitN (a b:Int):In:=if a = -1 then ⟨4,b,0,tst0⟩ else if b = -1 then ⟨4,a,0,tst0⟩ else ⟨5,a,b,tst0⟩
theorem splitAnew_any (a b:Int) (w:World) :
  Calls Tryz.prog 92 #[.int .i64 a,.int .i64 b] w fun e w'=>e=.returned (insV (splitN a b))∧Nw w w':=by
 obtain ⟨dd,hu,hd⟩:=Option.map_eq_some_iff.1 Tryz.rowI2
 by_cases ha:a = -1
 ·have e1:splitN a b=⟨4,b,0,tst0⟩:=by simp [splitN,ha]
  rw [e1]
  subst ha
  go_enter Tryz.func92,Tryz.ntmps92
  go_wp2
  refine bodyPost_ret (v:=insV ⟨4,b,0,tst0⟩) (results_c2 Tryz.results92 _ _ _ ⟨w.heap.size,0,none⟩ rfl _ (run_loadVar_mid _ w.heap.size 0 62 (insC ⟨4,b,0,tst0⟩) dd (range_n2 _ (insC ⟨4,b,0,tst0⟩) _ (by simp)) hu hd Tryz.sizeI2)) rfl ?_
  exact ⟨rfl,(Kp.refl _ _).alloc _⟩
 ·by_cases hb:b = -1
  ·have e1:splitN a b=⟨4,a,0,tst0⟩:=by simp [splitN,ha,hb]
   rw [e1]
   subst hb
   go_enter Tryz.func92,Tryz.ntmps92
   go_wp2
   refine bodyPost_ret (v:=insV ⟨4,a,0,tst0⟩) (results_c2 Tryz.results92 _ _ _ ⟨w.heap.size,0,none⟩ rfl _ (run_loadVar_mid _ w.heap.size 0 62 (insC ⟨4,a,0,tst0⟩) dd (range_n2 _ (insC ⟨4,a,0,tst0⟩) _ (by simp)) hu hd Tryz.sizeI2)) rfl ?_
   exact ⟨rfl,(Kp.refl _ _).alloc _⟩
  ·have e1:splitN a b=⟨5,a,b,tst0⟩:=by simp [splitN,ha,hb]
   rw [e1]
   go_enter Tryz.func92,Tryz.ntmps92
   go_wp2
   refine bodyPost_ret (v:=insV ⟨5,a,b,tst0⟩) (results_c2 Tryz.results92 _ _ _ ⟨w.heap.size,0,none⟩ rfl _ (run_loadVar_mid _ w.heap.size 0 62 (insC ⟨5,a,b,tst0⟩) dd (range_n2 _ (insC ⟨5,a,b,tst0⟩) _ (by simp)) hu hd Tryz.sizeI2)) rfl ?_
   exact ⟨rfl,(Kp.refl _ _).alloc _⟩
def zIn:In:=⟨0,0,0,tst0⟩
theorem insC_one (x:In):∀u∈insC x,u.oneCell'=true:=by
 intro u hu
 simp only [insC,List.mem_cons,List.not_mem_nil,or_false] at hu
 rcases hu with h|h|h|h|h|h|h|h|h|h|h|h|h|h <;> subst h <;> rfl
theorem size_insA (x:In):(Tryz.prog.info? 62).map (·.size)=some (insC x).toArray.size:=Tryz.sizeI2
theorem trimI_jump {now:List Int} {x:In} (h:x.op=4):trimI now x=⟨4,nowAt now x.a,0,tst0⟩:=by simp [trimI,h]
theorem trimI_split {now:List Int} {x:In} (h:x.op=5):trimI now x=splitN (nowAt now x.a) (nowAt now x.b):=by simp [trimI,h,splitN]
theorem trimI_else {now:List Int} {x:In} (h4:¬x.op=4) (h5:¬x.op=5):trimI now x=x:=by simp [trimI,h4,h5]
theorem targetsAnew_any (base gn cn:Nat) (xs:List Int) (x:In) (w:World) (h:w.ownsRow base 3 1 (.slice (some ⟨gn,0,none⟩) xs.length cn) xs.length (numC xs)) (hn:xs.length≤1000) (h4:x.op=4→0≤x.a∧x.b=0∧x.test=tst0) (h5:x.op=5→0≤x.a∧0≤x.b) :
  Calls Tryz.prog 60 #[.slice (some ⟨gn,0,none⟩) xs.length cn,insV x] w fun e w'=>e=.returned (insV (trimI xs x))∧Nw w w':=by
 obtain ⟨dd,hu,hd⟩:=Option.map_eq_some_iff.1 Tryz.rowI2
 have HOF:Hid (∀(z:Int) (W:World),0≤z→Nw w W→Calls Tryz.prog 59 #[.slice (some ⟨gn,0,none⟩) xs.length cn,.int .i64 z] W fun e w'=>e=.returned (.int .i64 (nowAt xs z))∧w'=W):=fun z W hz k=>of_any base gn cn xs z W (owns_kp h k (fun _ _ h=>h)) hz hn
 by_cases c4:x.op=4
 ·obtain ⟨ha,hb,ht⟩:=h4 c4
  obtain ⟨xo,xa,xb,xt⟩:=x
  dsimp only at c4 ha hb ht
  subst c4 hb ht
  rw [trimI_jump rfl]
  simp only [insV,tst0,tm0]
  go_enter Tryz.func60,Tryz.ntmps60
  go_wp2_with fail
  refine (HOF.out xa _ ha (((Kp.refl _ _).alloc _).alloc _)).mono ?_
  rintro e w1 ⟨rfl,rfl⟩
  go_wp2
  refine bodyPost_ret (v:=insV ⟨4,nowAt xs xa,0,tst0⟩) (results_c2 Tryz.results60 _ _ _ ⟨w.heap.size+1,0,none⟩ rfl _ (run_loadVar_mid _ (w.heap.size+1) 0 62 (insC ⟨4,nowAt xs xa,0,tst0⟩) dd (range_n2 _ (insC ⟨4,nowAt xs xa,0,tst0⟩) _ (by simp)) hu hd Tryz.sizeI2)) rfl ?_
  exact ⟨rfl,((Kp.refl _ _).alloc _).alloc _⟩
 ·by_cases c5:x.op=5
  ·obtain ⟨ha,hb⟩:=h5 c5
   rw [trimI_split c5]
   obtain ⟨xo,xa,xb,xt⟩:=x
   dsimp only at c5 ha hb ⊢
   subst c5
   generalize hY:splitN (nowAt xs xa) (nowAt xs xb)=Y
   have HB0:Hid (∀(o:Obj) (W:World),Nw ((w.alloc o).alloc (.cells (insC zIn).toArray 62)) W→Bx W (w.heap.size+1) (insC zIn)):=by
    intro o W k
    have h1:=Bx.new (w.alloc o) (insC zIn) 62
    have e1:(w.alloc o).heap.size=w.heap.size+1:=by simp
    rw [e1] at h1
    exact h1.kp (by simp [insC]) k (fun h=>h)
   simp only [zIn,insC,tst0,tm0,List.toArray] at HB0
   simp only [insV]
   clear h4 h5 c4
   go_enter Tryz.func60,Tryz.ntmps60
   go_wp2_with fail
   refine (HOF.out xa _ ha (((Kp.refl _ _).alloc _).alloc _)).mono ?_
   rintro e w1 ⟨rfl,rfl⟩
   go_wp2_with fail
   refine (HOF.out xb _ hb (((Kp.refl _ _).alloc _).alloc _)).mono ?_
   rintro e w1 ⟨rfl,rfl⟩
   go_wp2_with fail
   refine (splitAnew_any _ _ _).mono ?_
   rw [hY]
   rintro e w2 ⟨rfl,k2⟩
   have B2:Hid (Bx w2 (w.heap.size+1) (insC zIn)):=HB0.out _ w2 k2
   have K2:Hid (Nw w w2):=(((Kp.refl _ _).alloc _).alloc _).trans k2
   clear HB0 k2
   have HT:Hid (w2.there (w.heap.size+1) 0 (insC Y).toArray.size):=by
    have:=B2.out.there (n:=(insC Y).length) (by simp [insC])
    show World.there _ _ _ _
    simpa using this
   go_wp2_with (first|(with_reducible (show Go.wpList _ _ _ ({ dst:=_,op:=Op.store 62 _ _,type:=_,pos:=_,after:=_,guard:=_ }::_) _ _);refine wpList_store_mid rfl 62 _ _ rfl (w.heap.size+1) 0 (insC Y).toArray rfl rfl HT.out (size_insA _) (all_oneCell_toArray (insC_one _)) ?_)|fail)
   refine bodyPost_ret (v:=insV Y) (results_c2 Tryz.results60 _ _ _ ⟨w.heap.size+1,0,none⟩ rfl _ (run_loadVar_mid _ (w.heap.size+1) 0 62 (insC Y) dd (B2.out.put (vs:=insC Y) (by simp [insC])).r hu hd Tryz.sizeI2)) rfl ?_
   exact ⟨rfl,K2.out.trans' (kp_setCells _ 0 _) (by intro b hb e;omega)⟩
  ·rw [trimI_else c4 c5]
   simp only [insV]
   go_enter Tryz.func60,Tryz.ntmps60
   go_wp2
   refine bodyPost_ret (v:=insV x) (results_c2 Tryz.results60 _ _ _ ⟨w.heap.size+1,0,none⟩ rfl _ (run_loadVar_mid _ (w.heap.size+1) 0 62 (insC x) dd (range_n2 _ (insC x) _ (by simp)) hu hd Tryz.sizeI2)) rfl ?_
   exact ⟨rfl,((Kp.refl _ _).alloc _).alloc _⟩
end Go.Proofs.YtcboiapggnmpfabGreat
