import Derived.Test.YtcboiapggnmpfaaGreatQaw
import Derived.Test.YtcboiapggnmpfaaGreatQah
import Derived.Test.YtcboiapggnmpfaaGreatQag
import Derived.Deep.DeepCutAuto
import Derived.Deep.LoopGhost
import Derived.Test.YtcboiapggnmpfaaGreatQae
import Derived.Test.YtcboiapggnmpfaaGreatQaa
namespace Go.Proofs.YtcboiapggnmpfaaGreat
set_option linter.unusedSimpArgs false
set_option linter.unusedVariables false
section
theorem Hand.andThen_assoc (A B C:Hand):(A.andThen B).andThen C=A.andThen (B.andThen C):=by
 simp only [Hand.andThen,Hand.mk.injEq]
 refine ⟨Nat.add_assoc _ _ _,?_,?_,?_,?_,?_⟩
 ·funext nm x st;rw [Bool.or_assoc,Nat.add_assoc]
 ·funext nm x st;rw [Bool.or_assoc,Nat.add_assoc]
 ·funext nm x r st k
  by_cases h1:k<st+A.cnt
  ·have h2:k<st+(A.cnt+B.cnt):=by omega
   simp [h1,h2]
  ·by_cases h2:k<st+(A.cnt+B.cnt)
   ·have h3:k<st+A.cnt+B.cnt:=by omega
    simp [h1,h2,h3]
   ·have h3:¬k<st+A.cnt+B.cnt:=by omega
    simp only [h1,h2,h3,if_false]
    rw [Bool.or_assoc,Nat.add_assoc]
 ·funext nm x r st k
  by_cases h1:k<st+A.cnt
  ·have h2:k<st+(A.cnt+B.cnt):=by omega
   simp [h1,h2]
  ·by_cases h2:k<st+(A.cnt+B.cnt)
   ·have h3:k<st+A.cnt+B.cnt:=by omega
    simp [h1,h2,h3]
   ·have h3:¬k<st+A.cnt+B.cnt:=by omega
    simp only [h1,h2,h3,if_false]
    rw [Bool.or_assoc,Nat.add_assoc]
 ·funext r st k
  by_cases h1:k<st+A.cnt
  ·have h2:k<st+(A.cnt+B.cnt):=by omega
   simp [h1,h2]
  ·by_cases h2:k<st+(A.cnt+B.cnt)
   ·have h3:k<st+A.cnt+B.cnt:=by omega
    simp [h1,h2,h3]
   ·have h3:¬k<st+A.cnt+B.cnt:=by omega
    simp only [h1,h2,h3,if_false]
    rw [Nat.add_assoc]
theorem Hand.orElse_assoc (A B C:Hand):(A.orElse B).orElse C=A.orElse (B.orElse C):=by
 simp only [Hand.orElse,Hand.mk.injEq]
 refine ⟨Nat.add_assoc _ _ _,?_,?_,?_,?_,?_⟩
 ·funext nm x st;rw [Bool.or_assoc,Nat.add_assoc]
 ·funext nm x st;rw [Bool.and_assoc,Nat.add_assoc]
 ·funext nm x r st k
  by_cases h1:k<st+A.cnt
  ·have h2:k<st+(A.cnt+B.cnt):=by omega
   simp [h1,h2]
  ·by_cases h2:k<st+(A.cnt+B.cnt)
   ·have h3:k<st+A.cnt+B.cnt:=by omega
    simp [h1,h2,h3]
   ·have h3:¬k<st+A.cnt+B.cnt:=by omega
    simp only [h1,h2,h3,if_false]
    rw [Nat.add_assoc]
 ·funext nm x r st k
  by_cases h1:k<st+A.cnt
  ·have h2:k<st+(A.cnt+B.cnt):=by omega
   simp [h1,h2]
  ·by_cases h2:k<st+(A.cnt+B.cnt)
   ·have h3:k<st+A.cnt+B.cnt:=by omega
    simp [h1,h2,h3]
   ·have h3:¬k<st+A.cnt+B.cnt:=by omega
    simp only [h1,h2,h3,if_false]
    rw [Nat.add_assoc]
 ·funext r st k
  by_cases h1:k<st+A.cnt
  ·have h2:k<st+(A.cnt+B.cnt):=by omega
   simp [h1,h2]
  ·by_cases h2:k<st+(A.cnt+B.cnt)
   ·have h3:k<st+A.cnt+B.cnt:=by omega
    simp [h1,h2,h3]
   ·have h3:¬k<st+A.cnt+B.cnt:=by omega
    simp only [h1,h2,h3,if_false]
    rw [Nat.add_assoc]
theorem fold_gen {M X:Type} (op:Int) (φ:Nt→M) (o:M→M→M) (ho:∀a b c,o (o a b) c=o a (o b c)) (hφ:∀a b,φ (.two op a b)=o (φ a) (φ b)) (tr:X→Nt) (r:X→M) (hr:∀x,φ (tr x)=r x) (S:X→List X→M) (h0:∀x,S x []=r x) (h1:∀x y ys,S x (y::ys)=o (r x) (S y ys)) :
  ∀(ys:List X) (x:X) (t:Nt),φ (ys.foldl (fun t y=>.two op t (tr y)) (.two op t (tr x)))=o (φ t) (S x ys):=by
 intro ys
 induction ys with
 | nil=>intro x t;simp only [List.foldl_nil];rw [hφ,hr,h0]
 | cons y ys ih =>
  intro x t
  simp only [List.foldl_cons]
  rw [ih y,hφ,hr,h1,ho]
theorem fold_top {M X:Type} (op:Int) (φ:Nt→M) (o:M→M→M) (ho:∀a b c,o (o a b) c=o a (o b c)) (hφ:∀a b,φ (.two op a b)=o (φ a) (φ b)) (tr:X→Nt) (r:X→M) (hr:∀x,φ (tr x)=r x) (S:X→List X→M) (h0:∀x,S x []=r x) (h1:∀x y ys,S x (y::ys)=o (r x) (S y ys)) (ys:List X) (x:X) :
  φ (ys.foldl (fun t y=>.two op t (tr y)) (tr x))=S x ys:=by
 cases ys with
 | nil=>simp only [List.foldl_nil];rw [hr,h0]
 | cons y ys =>
  simp only [List.foldl_cons]
  rw [fold_gen op φ o ho hφ tr r hr S h0 h1 ys y,h1,hr]
section
variable {α:Type} {f:α→Nt} {g:α→Tri} {ss:α→List St}
theorem rep_hand (h:∀a,(f a).hand=(g a).H) (x:α×Rep):(repTr f x).hand=(repT g x).H:=by
 obtain ⟨a,q⟩:=x
 match q with
 | none=>exact h a
 | some (lo,hi) =>
  show (f a).hand.round=(g a).H.round
  rw [h a]
theorem seq_hand (h:∀a,(f a).hand=(g a).H) (x:SeqOf α):(seqTr f x).hand=(seqT g x.1 x.2).H :=
 fold_top 1 Nt.hand Hand.andThen Hand.andThen_assoc (fun a b=>by simp [Nt.hand]) (repTr f) (fun x=>(repT g x).H) (rep_hand h) (fun x ys=>(seqT g x ys).H) (fun _=>rfl) (fun _ _ _=>rfl) x.2 x.1
theorem alt_hand (h:∀a,(f a).hand=(g a).H) (x:AltOf α):(altTr f x).hand=(altT g x.1 x.2).H :=
 fold_top 2 Nt.hand Hand.orElse Hand.orElse_assoc (fun a b=>by simp [Nt.hand]) (seqTr f) (fun x=>(seqT g x.1 x.2).H) (seq_hand h) (fun x ys=>(altT g x ys).H) (fun _=>rfl) (fun _ _ _=>rfl) x.2 x.1
theorem rep_stepsN (h:∀a,(f a).steps=ss a) (x:α×Rep):(repTr f x).steps=ss x.1:=by
 obtain ⟨a,q⟩:=x
 match q with
 | none=>exact h a
 | some (lo,hi)=>exact h a
theorem seq_stepsN (h:∀a,(f a).steps=ss a) (x:SeqOf α):(seqTr f x).steps=seqS ss x.1 x.2 :=
 fold_top 1 Nt.steps (· ++ ·) (fun a b c=>List.append_assoc a b c) (fun a b=>rfl) (repTr f) (fun x=>ss x.1) (rep_stepsN h) (seqS ss) (fun _=>rfl) (fun _ _ _=>rfl) x.2 x.1
theorem alt_stepsN (h:∀a,(f a).steps=ss a) (x:AltOf α):(altTr f x).steps=altS ss x.1 x.2 :=
 fold_top 2 Nt.steps (· ++ ·) (fun a b c=>List.append_assoc a b c) (fun a b=>rfl) (seqTr f) (fun x=>seqS ss x.1 x.2) (seq_stepsN h) (altS ss) (fun _=>rfl) (fun _ _ _=>rfl) x.2 x.1
end
theorem atom_hand:∀(n:Nat) (a:Atom n),(atomTr n a).hand=(atomT n a).H:=by
 intro n
 induction n with
 | zero=>intro a;rfl
 | succ n ih =>
  intro a
  match a with
  | .inl s=>rfl
  | .inr t=>exact alt_hand ih t
theorem atom_stepsN:∀(n:Nat) (a:Atom n),(atomTr n a).steps=atomS n a:=by
 intro n
 induction n with
 | zero=>intro a;rfl
 | succ n ih =>
  intro a
  match a with
  | .inl s=>rfl
  | .inr t=>exact alt_stepsN ih t
section
variable {α:Type}
variable {f:α→Nt} {g:α→Int}
end
def WiIs (L:List Pt) (i:Nat) (H:Hand) (m:Nat):Prop:=∀(f:Nat) (k:Nat) (deep:Bool),i<f→wi L f i k deep=(decide (m≤k∧k<m+H.cnt)&&H.ir deep m k)
def LgIs (L:List Pt) (i:Nat) (v:Int):Prop:=∀f,i<f→lg L f i=v
theorem WiIs.one {L:List Pt} {i m:Nat} (h:L[i]? = some ⟨0,0,0,0,0,m⟩):WiIs L i Hand.one m:=by
 intro f k deep hf
 cases f with
 | zero=>omega
 | succ f =>
  simp only [wi,h,if_true,Hand.one]
  by_cases e:k=m
  ·subst e;cases deep <;> simp
  ·have h1:((m:Int) == (k:Int))=false:=by simp;omega
   have h2:¬(m≤k∧k<m+1):=by omega
   rw [h1];simp [h2]
theorem LgIs.one {L:List Pt} {i m:Nat} (h:L[i]? = some ⟨0,0,0,0,0,m⟩):LgIs L i 1:=by
 intro f hf
 cases f with
 | zero=>omega
 | succ f=>simp only [lg,h,if_true]
theorem WiIs.round {L:List Pt} {i l m:Nat} {lo hi:Int} {H:Hand} (h:L[i]? = some ⟨3,l,0,lo,hi,0⟩) (hl:l<i) (d:WiIs L l H m):WiIs L i H.round m:=by
 intro f k deep hf
 cases f with
 | zero=>omega
 | succ f =>
  have e0:¬(3:Int)=0:=by decide
  simp only [wi,h,if_neg e0,if_true,Int.toNat_natCast]
  rw [d f k true (by omega)]
  rfl
theorem LgIs.round {L:List Pt} {i l:Nat} {lo hi v:Int} (h:L[i]? = some ⟨3,l,0,lo,hi,0⟩) (hl:l<i) (d:LgIs L l v):LgIs L i (if hi = -1 then v else v*hi):=by
 intro f hf
 cases f with
 | zero=>omega
 | succ f =>
  have e0:¬(3:Int)=0:=by decide
  simp only [lg,h,if_neg e0,if_true,Int.toNat_natCast]
  rw [d f (by omega)]
theorem LgIs.two {L:List Pt} {i l r:Nat} {op v u:Int} (hop:op=1∨op=2) (h:L[i]? = some ⟨op,l,r,0,0,0⟩) (hl:l<i) (hr:r<i) (d:LgIs L l v) (d2:LgIs L r u):LgIs L i (v+u):=by
 intro f hf
 cases f with
 | zero=>omega
 | succ f =>
  have e0:¬op=0:=by omega
  have e3:¬op=3:=by omega
  simp only [lg,h,if_neg e0,if_neg e3,Int.toNat_natCast]
  rw [d f (by omega),d2 f (by omega)]
theorem WiIs.two {L:List Pt} {i l r m:Nat} {op:Int} {H K J:Hand} (hop:op=1∨op=2) (h:L[i]? = some ⟨op,l,r,0,0,0⟩) (hl:l<i) (hr:r<i) (d:WiIs L l H m) (d2:WiIs L r K (m+H.cnt)) (hc:J.cnt=H.cnt+K.cnt) (hi:∀deep k,J.ir deep m k=if k<m+H.cnt then H.ir deep m k else K.ir deep (m+H.cnt) k):WiIs L i J m:=by
 intro f k deep hf
 cases f with
 | zero=>omega
 | succ f =>
  have e0:¬op=0:=by omega
  have e3:¬op=3:=by omega
  simp only [wi,h,if_neg e0,if_neg e3,Int.toNat_natCast]
  rw [d f k deep (by omega),d2 f k deep (by omega),hi,hc]
  by_cases h1:k<m+H.cnt
  ·have e2:decide (m+H.cnt≤k∧k<m+H.cnt+K.cnt)=false:=by simp;omega
   rw [e2,if_pos h1]
   by_cases h2:m≤k
   ·have a1:decide (m≤k∧k<m+H.cnt)=true:=by simp;omega
    have a2:decide (m≤k∧k<m+(H.cnt+K.cnt))=true:=by simp;omega
    rw [a1,a2];simp
   ·have a1:decide (m≤k∧k<m+H.cnt)=false:=by simp;omega
    have a2:decide (m≤k∧k<m+(H.cnt+K.cnt))=false:=by simp;omega
    rw [a1,a2];simp
  ·have e2:decide (m≤k∧k<m+H.cnt)=false:=by simp;omega
   rw [e2,if_neg h1]
   by_cases h2:k<m+(H.cnt+K.cnt)
   ·have a1:decide (m+H.cnt≤k∧k<m+H.cnt+K.cnt)=true:=by simp;omega
    have a2:decide (m≤k∧k<m+(H.cnt+K.cnt))=true:=by simp;omega
    rw [a1,a2];simp
   ·have a1:decide (m+H.cnt≤k∧k<m+H.cnt+K.cnt)=false:=by simp;omega
    have a2:decide (m≤k∧k<m+(H.cnt+K.cnt))=false:=by simp;omega
    rw [a1,a2];simp
section
variable {α:Type} {pp:α→Nat→Nat→List Pt} {ss:α→List St} {ft:α→Tri} {gl:α→Int}
end
theorem fold_ops {X:Type} (op:Int) (hop:op=1∨op=2) (tr:X→Nt) (h:∀x,(tr x).Ops):∀(ys:List X) (t:Nt),t.Ops→(ys.foldl (fun t y=>Nt.two op t (tr y)) t).Ops:=by
 intro ys
 induction ys with
 | nil=>intro t ht;exact ht
 | cons y ys ih=>intro t ht;exact ih _ ⟨hop,ht,h y⟩
section
variable {α:Type} {f:α→Nt}
theorem rep_ops (h:∀a,(f a).Ops) (x:α×Rep):(repTr f x).Ops:=by
 obtain ⟨a,q⟩:=x
 match q with
 | none=>exact h a
 | some (lo,hi)=>exact h a
theorem seq_ops (h:∀a,(f a).Ops) (x:SeqOf α):(seqTr f x).Ops:=fold_ops 1 (Or.inl rfl) _ (rep_ops h) _ _ (rep_ops h _)
theorem alt_ops (h:∀a,(f a).Ops) (x:AltOf α):(altTr f x).Ops:=fold_ops 2 (Or.inr rfl) _ (seq_ops h) _ _ (seq_ops h _)
end
theorem atom_ops:∀(n:Nat) (a:Atom n),(atomTr n a).Ops:=by
 intro n
 induction n with
 | zero=>intro a;trivial
 | succ n ih =>
  intro a
  match a with
  | .inl s=>trivial
  | .inr t=>exact alt_ops ih t
theorem yRepS_hi {q:Rep} {u:List Tok} (h:yRepS q u):∀lo hi,q=some (lo,hi)→hi = -1∨(1≤hi∧hi≤9):=by
 intro lo hi e
 rcases h with ⟨h,_⟩ | ⟨_,_,h⟩ | ⟨_,_,h⟩ | ⟨_,_,h⟩ | ⟨a,b,_,_,_,_,_,ha,hb,h1,h2,h⟩
 ·rw [h] at e;cases e
 ·rw [h] at e;simp at e;omega
 ·rw [h] at e;simp at e;omega
 ·rw [h] at e;simp at e;omega
 ·rw [h] at e;simp at e
  have:=isDigit_bounds hb
  omega
section
variable {α:Type} {f:α→Nt} {ya:α→List Tok→Prop}
theorem rep_reps (h:∀a u,ya a u→(f a).Reps) (x:α×Rep) (u:List Tok) (hy:yRep ya x u):(repTr f x).Reps:=by
 obtain ⟨a,q⟩:=x
 obtain ⟨v,r,_,h1,h2⟩:=hy
 match q,h2 with
 | none,_=>exact h a v h1
 | some (lo,hi),h2=>exact ⟨yRepS_hi h2 lo hi rfl,h a v h1⟩
theorem seq_repsG (h:∀a u,ya a u→(f a).Reps):∀(ys:List (α×Rep)) (t:Nt) (u:List Tok),t.Reps→yReps ya ys u→(ys.foldl (fun t y=>Nt.two 1 t (repTr f y)) t).Reps:=by
 intro ys
 induction ys with
 | nil=>intro t u ht _;exact ht
 | cons y ys ih =>
  intro t u ht hy
  obtain ⟨v,r,_,h1,h2⟩:=hy
  exact ih _ r ⟨ht,rep_reps h y v h1⟩ h2
theorem seq_reps (h:∀a u,ya a u→(f a).Reps) (x:SeqOf α) (u:List Tok) (hy:ySeq ya x u):(seqTr f x).Reps:=by
 obtain ⟨v,r,_,h1,h2⟩:=hy
 exact seq_repsG h x.2 _ r (rep_reps h x.1 v h1) h2
theorem alt_repsG (h:∀a u,ya a u→(f a).Reps):∀(ys:List (SeqOf α)) (t:Nt) (u:List Tok),t.Reps→yAlts ya ys u→(ys.foldl (fun t y=>Nt.two 2 t (seqTr f y)) t).Reps:=by
 intro ys
 induction ys with
 | nil=>intro t u ht _;exact ht
 | cons y ys ih =>
  intro t u ht hy
  obtain ⟨p,v,r,_,h1,h2⟩:=hy
  exact ih _ r ⟨ht,seq_reps h y v h1⟩ h2
theorem alt_reps (h:∀a u,ya a u→(f a).Reps) (x:AltOf α) (u:List Tok) (hy:yAlt ya x u):(altTr f x).Reps:=by
 obtain ⟨v,r,_,h1,h2⟩:=hy
 exact alt_repsG h x.2 _ r (seq_reps h x.1 v h1) h2
end
theorem atom_reps:∀(n:Nat) (a:Atom n) (u:List Tok),yAtom n a u→(atomTr n a).Reps:=by
 intro n
 induction n with
 | zero=>intro a u _;trivial
 | succ n ih =>
  intro a u hy
  match a,hy with
  | .inl s,_=>trivial
  | .inr t,hy =>
   obtain ⟨p,v,q,_,h⟩:=hy
   exact alt_reps ih t v h
end
open Go.RowKit
theorem tssC_get:∀(l:List Tst) (i k:Nat) (x:Tst),l[i]? = some x→k<11→(tssC l)[i*11+k]? = (tsC x)[k]?:=by
 intro l
 induction l with
 | nil=>intro i k x h;simp at h
 | cons y r ih =>
  intro i k x h hk
  have e:tssC (y::r)=tsC y++tssC r:=by simp [tssC]
  have hl:(tsC y).length=11:=rfl
  rw [e]
  cases i with
  | zero =>
   simp at h;subst h
   rw [List.getElem?_append_left (by omega)]
   simp
  | succ i =>
   simp at h
   rw [List.getElem?_append_right (by omega),hl]
   have:(i+1)*11+k - 11=i*11+k:=by omega
   rw [this];exact ih i k x h hk
structure TstAt (w:World) (g o:Nat) (t:Tst):Prop where
 c0:w.cell? ⟨g,o,none⟩=some (.int .i64 t.left.of)
 c1:w.cell? ⟨g,o+1,none⟩=some (.int .i64 t.left.field)
 c2:w.cell? ⟨g,o+2,none⟩=some (.int .i64 t.left.num)
 c3:w.cell? ⟨g,o+3,none⟩=some (.int .i64 t.rel)
 c4:w.cell? ⟨g,o+4,none⟩=some (.int .i64 t.right.of)
 c5:w.cell? ⟨g,o+5,none⟩=some (.int .i64 t.right.field)
 c6:w.cell? ⟨g,o+6,none⟩=some (.int .i64 t.right.num)
 c7:w.cell? ⟨g,o+7,none⟩=some (.int .i64 t.arith)
 c8:w.cell? ⟨g,o+8,none⟩=some (.int .i64 t.more.of)
 c9:w.cell? ⟨g,o+9,none⟩=some (.int .i64 t.more.field)
 c10:w.cell? ⟨g,o+10,none⟩=some (.int .i64 t.more.num)
theorem tstAt {w:World} {base g c:Nat} {l:List Tst} {i:Nat} {t:Tst} (h:w.ownsRow base 38 11 (.slice (some ⟨g,0,none⟩) l.length c) l.length (tssC l)) (hi:l[i]? = some t):TstAt w g (i*11) t:=by
 have key:∀k,k<11→∀v,(tsC t)[k]? = some v→w.cell? ⟨g,i*11+k,none⟩=some v:=fun k hk v hv=>owns_cell h (i*11+k) (by rw [tssC_get l i k t hi hk];exact hv)
 exact ⟨key 0 (by omega) _ rfl,key 1 (by omega) _ rfl,key 2 (by omega) _ rfl,key 3 (by omega) _ rfl,key 4 (by omega) _ rfl,key 5 (by omega) _ rfl,key 6 (by omega) _ rfl,key 7 (by omega) _ rfl,key 8 (by omega) _ rfl,key 9 (by omega) _ rfl,key 10 (by omega) _ rfl⟩
def MaybeP (ss:List (St×Value)) (es:List Ed) (k:Nat) (name:Int):Prop:=∃(i:Nat) (x:St×Value),ss[i]? = some x∧x.1.name=name∧Rc (okE ss true (-1)) es (edOf (i:Int) es).to.toNat (edOf (k:Int) es).fr.toNat
def NameP (ps:List Pt) (root:Nat) (ss:List (St×Value)) (es:List Ed) (k:Nat) (x:St):Prop :=
 wi ps (root+1) root k false=false∧¬MaybeP ss es k x.name∧∀i y,i<k→ss[i]? = some y→y.1.name=x.name→y.1.kind=x.kind
def RightP (hs:Int→Int) (ps:List Pt) (root:Nat) (ss:List (St×Value)) (es:List Ed) (gi k:Nat) (x:St):Prop :=
 0≤hs x.kind∧(0≤x.name→NameP ps root ss es k x)∧∀t∈x.tests,ReadP hs ss es gi k x.kind t.left.of t.left.field∧ReadP hs ss es gi k x.kind t.right.of t.right.field∧ReadP hs ss es gi k x.kind t.more.of t.more.field
theorem Gr.set2 {w:World} {G n:Nat} {ev sv:Value} {i o:Int} (h:Gr w G n ev sv i o) (v:Value):Gr (w.setCell ⟨G,2,none⟩ v) G n ev v i o:=by
 obtain ⟨c0,c1,c2,c3,c4,fz⟩:=h
 constructor <;> simp [go_sem,c0,c1,c2,c3,c4,fz]
theorem owns_baseP {w:World} {base base' n size:Nat} {e:TypeId} {v:Value} {xs:List Value} (h:w.ownsRow base e size v n xs) (hb:base'≤base):w.ownsRow base' e size v n xs:=by
 refine ⟨h.1,?_⟩
 rcases h.2 with h2|⟨g,cap,cur,h2,h3,h4⟩
 ·exact Or.inl h2
 ·exact Or.inr ⟨g,cap,cur,h2,by omega,h4⟩
theorem Gr.set3 {w:World} {G n:Nat} {ev sv:Value} {i o:Int} (h:Gr w G n ev sv i o) (v:Int):Gr (w.setCell ⟨G,3,none⟩ (.int .i64 v)) G n ev sv v o:=by
 obtain ⟨c0,c1,c2,c3,c4,fz⟩:=h
 constructor <;> simp [go_sem,c0,c1,c2,c3,c4,fz]
theorem Gr.set4 {w:World} {G n:Nat} {ev sv:Value} {i o:Int} (h:Gr w G n ev sv i o) (v:Int):Gr (w.setCell ⟨G,4,none⟩ (.int .i64 v)) G n ev sv i v:=by
 obtain ⟨c0,c1,c2,c3,c4,fz⟩:=h
 constructor <;> simp [go_sem,c0,c1,c2,c3,c4,fz]
theorem Gr.new (w:World):Gr (w.alloc (.cells #[.int .i64 0,.slice none 0 0,.slice none 0 0,.int .i64 0,.int .i64 0] 170)) w.heap.size 0 (.slice none 0 0) (.slice none 0 0) 0 0:=by
 constructor <;> simp [go_sem]
def CutPost (P:CuP) (B:Nat) (L:List Tok) (root win:Int) (ps:List Pt) (ss:List (St×Value)) (np:List Pt) (ns:List St) (w:World) (e:Ending) (w':World):Prop :=
 e=.returned (.int .i64 ((ps.length:Int)+np.length - 1))∧∃pv sv ss',ss'.map (·.1)=ns∧TS w' P B L pv sv root win (ps++np) (ss++ss')∧KT P.T B w w'
def CutOk (fid:Nat) (P:CuP) (B:Nat) (L:List Tok) (root win:Int) (lo hi:Nat) (np:Nat→Nat→List Pt) (ns:List St):Prop :=
 ∀(ps:List Pt) (ss:List (St×Value)) (pv sv:Value) (w:World),TS w P B L pv sv root win ps ss→ps.length+(np ps.length ss.length).length≤100000→ss.length+ns.length≤100000 →
  Calls Tryz.prog fid #[.pointer (some ⟨P.C,0,none⟩),.int .i64 lo,.int .i64 hi] w (CutPost P B L root win ps ss (np ps.length ss.length) ns w)
theorem CutOk.at {fid:Nat} {P:CuP} {B:Nat} {L:List Tok} {root win:Int} {lo hi:Nat} {np:Nat→Nat→List Pt} {ns:List St} (h:CutOk fid P B L root win lo hi np ns) {z1 z2:Int} (h1:z1=lo) (h2:z2=hi)
  {ps:List Pt} {ss:List (St×Value)} {pv sv:Value} {w:World} (t:TS w P B L pv sv root win ps ss) (hN:ps.length+(np ps.length ss.length).length≤100000) (hM:ss.length+ns.length≤100000) :
  Calls Tryz.prog fid #[.pointer (some ⟨P.C,0,none⟩),.int .i64 z1,.int .i64 z2] w (CutPost P B L root win ps ss (np ps.length ss.length) ns w):=by
 subst h1;subst h2
 exact h ps ss pv sv w t hN hM
section
structure CB (w:World) (C T B:Nat) (sv av:Value) (L:List Tok):Prop where
 c0:w.cell? ⟨C,0,none⟩=some sv
 c1:w.cell? ⟨C,1,none⟩=some av
 c2:w.cell? ⟨C,2,none⟩=some (.pointer (some ⟨T,0,none⟩))
 fz:∀o,w.frozen? ⟨C,o,none⟩=false
 so:w.ownsRow B 5 1 sv L.length (L.map (fun x=>.int .u8 x.1))
 ao:w.ownsRow B 3 1 av L.length (L.map (fun x=>.int .i64 x.2))
 tr:Tr w T (.slice none 0 0) (.slice none 0 0) 0 (-1)
 lt:C<w.heap.size
 hC:C<B
 hT:T<B
 ne:¬C=T
theorem CB.nw {w w':World} {C T B:Nat} {sv av:Value} {L:List Tok} (h:CB w C T B sv av L) (k:Nw w w'):CB w' C T B sv av L :=
 ⟨(k.cell (p:=⟨C,0,none⟩) h.lt (fun h=>h)).trans h.c0,(k.cell (p:=⟨C,1,none⟩) h.lt (fun h=>h)).trans h.c1,(k.cell (p:=⟨C,2,none⟩) h.lt (fun h=>h)).trans h.c2,fun o=>(k.frozen (p:=⟨C,o,none⟩) h.lt (fun h=>h)).trans (h.fz o),owns_kp h.so k (fun _ _ h=>h),owns_kp h.ao k (fun _ _ h=>h),h.tr.sm (k.sm h.tr.lt (fun h=>h)),Nat.lt_of_lt_of_le h.lt k.size,h.hC,h.hT,h.ne⟩
theorem CB.cu {w:World} {C T B:Nat} {sv av:Value} {L:List Tok} (h:CB w C T B sv av L) (hL:0<L.length) (hl:L.length≤1000) (hr:∀x∈L,0≤x.1∧x.1≤255):∃P:CuP,P.C=C∧P.T=T∧P.gs<w.heap.size∧P.ga<w.heap.size∧B≤P.gs∧B≤P.ga∧Cu w P L∧sv=.slice (some ⟨P.gs,0,none⟩) L.length P.cs:=by
 obtain ⟨gs,cs,hsv,hg1,hgs⟩:=h.so.form hL
 obtain ⟨ga,ca,hav,hg2,hga⟩:=h.ao.form hL
 have so:=h.so
 have ao:=h.ao
 have c0:=h.c0
 have c1:=h.c1
 subst hsv
 subst hav
 refine ⟨⟨C,gs,cs,ga,ca,T⟩,rfl,rfl,hgs,hga,hg1,hg2,⟨c0,c1,h.c2,?_,?_,hr,hl,h.lt,hgs,hga⟩,rfl⟩
 ·intro k x hx
  exact owns_cell so k (by rw [List.getElem?_map,hx];rfl)
 ·intro k x hx
  exact owns_cell ao k (by rw [List.getElem?_map,hx];rfl)
def StepsY (sts:List St) (u:List Tok):Prop:=∀y∈sts,∃v,ySt y v∧v.length≤u.length
theorem StepsY.wide {sts:List St} {u v:List Tok} (h:StepsY sts u) (hv:u.length≤v.length):StepsY sts v:=fun y hy=>by
 obtain ⟨z,h1,h2⟩:=h y hy
 exact ⟨z,h1,by omega⟩
theorem StepsY.append {a b:List St} {u:List Tok} (h:StepsY a u) (h2:StepsY b u):StepsY (a++b) u:=fun y hy=>(List.mem_append.1 hy).elim (h y) (h2 y)
section
variable {α:Type} {ss:α→List St} {ya:α→List Tok→Prop}
theorem seq_steps (H:∀a u,ya a u→StepsY (ss a) u):∀(xs:List (α×Rep)) (x:α×Rep) (u:List Tok),yReps ya (x::xs) u→StepsY (seqS ss x xs) u:=by
 intro xs
 induction xs with
 | nil =>
  intro x u h
  obtain ⟨v,r,e,⟨v1,r1,e1,h1,h3⟩,h2⟩:=h
  exact (H _ _ h1).wide (by rw [e,e1];simp only [List.length_append];omega)
 | cons y ys ih =>
  intro x u h
  obtain ⟨v,r,e,⟨v1,r1,e1,h1,h3⟩,h2⟩:=h
  exact ((H _ _ h1).wide (by rw [e,e1];simp only [List.length_append];omega)).append ((ih y r h2).wide (by rw [e];simp))
theorem alt_steps (H:∀a u,ya a u→StepsY (ss a) u):∀(ts:List (SeqOf α)) (s:SeqOf α) (v r:List Tok),ySeq ya s v→yAlts ya ts r→StepsY (altS ss s ts) (v++r):=by
 intro ts
 induction ts with
 | nil=>intro s v r h1 h2;exact (seq_steps H _ _ _ h1).wide (by simp)
 | cons t ts ih =>
  intro s v r h1 h2
  obtain ⟨p,v',r',e,h3,h4⟩:=h2
  subst e
  exact ((seq_steps H _ _ _ h1).wide (by simp)).append ((ih t v' r' h3 h4).wide (by simp;omega))
end
theorem atom_steps:∀(n:Nat) (a:Atom n) (u:List Tok),yAtom n a u→StepsY (atomS n a) u:=by
 intro n
 induction n with
 | zero=>intro a u h y hy;obtain rfl:=List.mem_singleton.1 hy;exact ⟨u,h,Nat.le_refl _⟩
 | succ n ih =>
  intro a u h
  cases a with
  | inl s=>intro y hy;obtain rfl:=List.mem_singleton.1 hy;exact ⟨u,h,Nat.le_refl _⟩
  | inr t =>
   obtain ⟨p,v,q,e,v1,r1,e1,h1,h2⟩:=h
   subst e;subst e1
   exact (alt_steps ih t.2 t.1 v1 r1 h1 h2).wide (by simp;omega)
theorem yTsts_lenR:∀(ts:List Tst) (v:List Tok),yTsts ts v→ts.length≤v.length:=by
 intro ts
 induction ts with
 | nil=>intro v h;simp
 | cons t ts ih =>
  intro v h
  cases ts with
  | nil=>obtain ⟨a,p,_,e⟩:=h;subst e;simp
  | cons t2 ts=>obtain ⟨a,p,v',_,e,hv⟩:=h;subst e;have:=ih v' hv;simp at this ⊢;omega
theorem alt_tests {t:AltOf (Atom 8)} {u:List Tok} (h:yAlt (yAtom 8) t u) (hu:u.length≤1000):∀y∈altS (atomS 8) t.1 t.2,y.tests.length≤1000:=by
 obtain ⟨v,r,e,h1,h2⟩:=h
 intro y hy
 obtain ⟨z,⟨c,a,b,e1,_,_,_,hb⟩,h4⟩:=alt_steps (atom_steps 8) t.2 t.1 v r h1 h2 y hy
 rw [←e] at h4
 rcases hb with ⟨e2,_⟩ | ⟨p,v',e2,hv⟩
 ·rw [e2];simp
 ·have:=yTsts_lenR _ _ hv
  rw [e1,e2] at h4
  simp at h4;omega
theorem Tr.set3 {w:World} {T:Nat} {pv sv:Value} {root win:Int} (h:Tr w T pv sv root win) (v:Int):Tr (w.setCell ⟨T,3,none⟩ (.int .i64 v)) T pv sv root v:=by
 obtain ⟨c0,c1,c2,c3,fz⟩:=h
 constructor <;> simp [go_sem,c0,c1,c2,c3,fz]
end
open Value (bool)
def dress (sts:List St):List (St×Value):=sts.map (fun s=>(s,bool false))
theorem dress_map (sts:List St):(dress sts).map (·.1)=sts:=by
 induction sts with
 | nil=>rfl
 | cons a r ih=>exact congrArg (a :: ·) ih
theorem isNew_congr {a b:List (St×Value)} (h:a.map (·.1)=b.map (·.1)) (i:Nat) (n:Int):isNew a i n=isNew b i n:=by
 have key:∀l:List (St×Value),(l.take i).all (fun y=>y.1.name != n)=((l.map (·.1)).take i).all (fun s=>s.name != n):=by
  intro l
  rw [←List.map_take,List.all_map]
  rfl
 unfold isNew
 rw [key a,key b,h]
theorem slotsTo_congr {a b:List (St×Value)} (h:a.map (·.1)=b.map (·.1)):∀i,slotsTo a i=slotsTo b i:=by
 intro i
 induction i with
 | zero=>rfl
 | succ i ih =>
  have hg:a[i]?.map (·.1)=b[i]?.map (·.1):=by
   have:=congrArg (fun l=>l[i]?) h
   simpa using this
  simp only [slotsTo]
  cases ea:a[i]? with
  | none =>
   cases eb:b[i]? with
   | none=>simpa using ih
   | some y=>rw [ea,eb] at hg;simp at hg
  | some x =>
   cases eb:b[i]? with
   | none=>rw [ea,eb] at hg;simp at hg
   | some y =>
    rw [ea,eb] at hg
    simp at hg
    simp only [hg,isNew_congr h,ih]
def SmallT (ps:List Pt) (sts:List St):Prop:=(∀s∈sts,s.tests.length≤4)∧lg ps (ps.length - 1+1) (ps.length - 1)≤24∧(slotsTo (dress sts) sts.length).length≤4
theorem SmallT.of {ps:List Pt} {ss:List (St×Value)} {sts:List St} (h:Small' ps ss (ps.length - 1)) (e:ss.map (·.1)=sts):SmallT ps sts:=by
 obtain ⟨h1,h2,h3⟩:=h
 have hl:ss.length=sts.length:=by have:=congrArg List.length e;simpa using this
 refine ⟨?_,h2,?_⟩
 ·intro s hs
  rw [←e] at hs
  obtain ⟨x,hx,rfl⟩:=List.mem_map.1 hs
  exact h1 x hx
 ·rw [slotsTo_congr (a:=dress sts) (b:=ss) (by rw [e,dress_map]),←hl];exact h3
theorem SmallT.back {ps:List Pt} {ss:List (St×Value)} {sts:List St} (h:SmallT ps sts) (e:ss.map (·.1)=sts):Small' ps ss (ps.length - 1):=by
 obtain ⟨h1,h2,h3⟩:=h
 have hl:ss.length=sts.length:=by have:=congrArg List.length e;simpa using this
 refine ⟨?_,h2,?_⟩
 ·intro x hx
  exact h1 x.1 (by rw [←e];exact List.mem_map_of_mem hx)
 ·rw [slotsTo_congr (a:=ss) (b:=dress sts) (by rw [e,dress_map]),hl];exact h3
section
def es0 (ps:List Pt):List Ed:=(plP ps (ps.length - 1+1) (ps.length - 1) 0 1 2).1
def CheckT (hs:Int→Int) (ps:List Pt) (sts:List St) (f p:Int):Prop :=
 (∃k y,sts[k]? = some y∧¬RightP hs ps (ps.length - 1) (dress sts) (es0 ps) 0 k y∧(∀j z,j<k→sts[j]? = some z→RightP hs ps (ps.length - 1) (dress sts) (es0 ps) 0 j z)∧f=4∧p=y.pos) ∨
 ((∀j z,sts[j]? = some z→RightP hs ps (ps.length - 1) (dress sts) (es0 ps) 0 j z)∧¬SmallT ps sts∧f=5∧p=0) ∨
 ((∀j z,sts[j]? = some z→RightP hs ps (ps.length - 1) (dress sts) (es0 ps) 0 j z)∧SmallT ps sts∧f=0∧p=0)
def CheckIs (sc s:ByteArray) (f p:Int):Prop :=
 (120<s.size∧f=1∧p=0)∨(s.size≤120∧schemaB (bI sc)=false∧f=2∧p=0) ∨
 (s.size≤120∧schemaB (bI sc)=true∧∃x,pTopOf (pAtom 8) (toks 0 (bI s))=(none,x)∧f=3∧p=posOf s.size x) ∨
 (s.size≤120∧schemaB (bI sc)=true∧∃t o x,pTopOf (pAtom 8) (toks 0 (bI s))=(some (t,o),x)∧CheckT (hasF (bI sc)) (altP (atomP 8) (atomS 8) t.1 t.2 0 0) (altS (atomS 8) t.1 t.2) f p)
section
variable {hs:Int→Int} {ps:List Pt} {ss:List (St×Value)} {sts:List St} {es:List Ed}
end
end
section
def termsOf (s:St):List (Int×Int):=s.tests.flatMap (fun t=>[(t.left.of,t.left.field),(t.right.of,t.right.field),(t.more.of,t.more.field)])
def rulesOf (sts:List St):Rules where
 nm:=fun k=>((sts[k]?).map (·.name)).getD (-1)
 kd:=fun k=>((sts[k]?).map (·.kind)).getD 0
 tr:=fun k=>((sts[k]?).map termsOf).getD []
theorem rules_at {sts:List St} {k:Nat} {y:St} (h:sts[k]? = some y):(rulesOf sts).nm k=y.name∧(rulesOf sts).kd k=y.kind∧(rulesOf sts).tr k=termsOf y:=by
 simp [rulesOf,h]
structure StY (y:St):Prop where
 kind:0≤y.kind∧y.kind≤4
 name:y.name = -1∨(0≤y.name∧y.name<26)
 terms:∀q∈termsOf y,(0≤q.1∧q.1≤27)∧0≤q.2∧q.2≤3
def hkP (l:List Int) (a:Int):Prop:=0≤hasF l a
def hfP (l:List Int) (a f:Int):Prop:=hasFd l a f=true
theorem schema_all {l:List Int} (h:schemaB l=true):(∀c∈l,48≤c∧c≤51)∧0<l.length∧l.length≤4:=by
 simp only [schemaB,Bool.and_eq_true,decide_eq_true_eq,List.all_eq_true] at h
 refine ⟨fun c hc => ?_,h.1.2,h.2⟩
 have:=h.1.1 c hc
 simp at this
 omega
theorem scF_nonneg {l:List Int} (h:schemaB l=true) (k:Nat):0≤scF l k:=by
 unfold scF
 split
 ·rename_i hk
  have:=(schema_all h).1 l[k] (List.getElem_mem hk)
  omega
 ·omega
theorem hasF_in {l:List Int} {a:Int} (h:0≤a∧a<l.length) (h4:¬a=4):hasF l a=scF l a.toNat:=by
 have hk:a.toNat<l.length:=by omega
 simp only [hasF,if_neg h4,if_pos h,scF,hk,dif_pos]
 rw [List.getD_eq_getElem?_getD,List.getElem?_eq_getElem hk]
 rfl
theorem hkP_iff {l:List Int} (h:schemaB l=true) (a:Int):hkP l a↔a=4∨hasK l a=true:=by
 obtain ⟨h1,h2,h3⟩:=schema_all h
 unfold hkP hasK
 simp only [Bool.and_eq_true,decide_eq_true_eq]
 by_cases h4:a=4
 ·subst h4;simp [hasF]
 ·by_cases hi:0≤a∧a<l.length
  ·rw [hasF_in hi h4]
   exact ⟨fun _=>Or.inr hi,fun _=>scF_nonneg h _⟩
  ·simp only [hasF,if_neg h4,if_neg hi]
   constructor
   ·intro h;omega
   ·rintro (h|h)
    ·exact absurd h h4
    ·exact absurd h hi
section
variable {t:AltOf (Atom 8)} {l:List Int}
end
end
end Go.Proofs.YtcboiapggnmpfaaGreat
