import Derived.Test.YtcboiapggnmpfabGreatQas
import Derived.Test.YtcboiapggnmpfabGreatQae
import Derived.Deep.RegionLaw
import Derived.Deep.DrawnRows
import Derived.Test.YtcboiapggnmpfabGreatQab
import Derived.Deep.QuietTactic
import Derived.Deep.RegionWith
import Derived.Deep.DeepCutAuto
import Derived.Deep.LoopGhost
import Derived.Test.YtcboiapggnmpfabGreatQac
import Derived.Test.YtcboiapggnmpfabGreatQaa
namespace Go.Proofs.YtcboiapggnmpfabGreat
set_option linter.unusedSimpArgs false
set_option linter.unusedVariables false
section
theorem Hand.andThen_assoc (A B C:Hand):(A.andThen B).andThen C=A.andThen (B.andThen C):=by
 simp only [Hand.andThen,Hand.mk.injEq]
 refine ⟨Nat.add_assoc _ _ _,?_,?_,?_,?_,?_⟩
 ·funext nm x st;rw [Bool.or_assoc,Nat.add_assoc]
 ·funext nm x st;rw [Bool.or_assoc,Nat.add_assoc]
 ·funext nm x r st k
  by_cases h1:k<st+A.cnt
  ·have h2:k<st+(A.cnt+B.cnt):=by omega
   simp [h1,h2]
  ·by_cases h2:k<st+(A.cnt+B.cnt)
   ·have h3:k<st+A.cnt+B.cnt:=by omega
    simp [h1,h2,h3]
   ·have h3:¬k<st+A.cnt+B.cnt:=by omega
    simp only [h1,h2,h3,if_false]
    rw [Bool.or_assoc,Nat.add_assoc]
 ·funext nm x r st k
  by_cases h1:k<st+A.cnt
  ·have h2:k<st+(A.cnt+B.cnt):=by omega
   simp [h1,h2]
  ·by_cases h2:k<st+(A.cnt+B.cnt)
   ·have h3:k<st+A.cnt+B.cnt:=by omega
    simp [h1,h2,h3]
   ·have h3:¬k<st+A.cnt+B.cnt:=by omega
    simp only [h1,h2,h3,if_false]
    rw [Bool.or_assoc,Nat.add_assoc]
 ·funext r st k
  by_cases h1:k<st+A.cnt
  ·have h2:k<st+(A.cnt+B.cnt):=by omega
   simp [h1,h2]
  ·by_cases h2:k<st+(A.cnt+B.cnt)
   ·have h3:k<st+A.cnt+B.cnt:=by omega
    simp [h1,h2,h3]
   ·have h3:¬k<st+A.cnt+B.cnt:=by omega
    simp only [h1,h2,h3,if_false]
    rw [Nat.add_assoc]
theorem Hand.orElse_assoc (A B C:Hand):(A.orElse B).orElse C=A.orElse (B.orElse C):=by
 simp only [Hand.orElse,Hand.mk.injEq]
 refine ⟨Nat.add_assoc _ _ _,?_,?_,?_,?_,?_⟩
 ·funext nm x st;rw [Bool.or_assoc,Nat.add_assoc]
 ·funext nm x st;rw [Bool.and_assoc,Nat.add_assoc]
 ·funext nm x r st k
  by_cases h1:k<st+A.cnt
  ·have h2:k<st+(A.cnt+B.cnt):=by omega
   simp [h1,h2]
  ·by_cases h2:k<st+(A.cnt+B.cnt)
   ·have h3:k<st+A.cnt+B.cnt:=by omega
    simp [h1,h2,h3]
   ·have h3:¬k<st+A.cnt+B.cnt:=by omega
    simp only [h1,h2,h3,if_false]
    rw [Nat.add_assoc]
 ·funext nm x r st k
  by_cases h1:k<st+A.cnt
  ·have h2:k<st+(A.cnt+B.cnt):=by omega
   simp [h1,h2]
  ·by_cases h2:k<st+(A.cnt+B.cnt)
   ·have h3:k<st+A.cnt+B.cnt:=by omega
    simp [h1,h2,h3]
   ·have h3:¬k<st+A.cnt+B.cnt:=by omega
    simp only [h1,h2,h3,if_false]
    rw [Nat.add_assoc]
 ·funext r st k
  by_cases h1:k<st+A.cnt
  ·have h2:k<st+(A.cnt+B.cnt):=by omega
   simp [h1,h2]
  ·by_cases h2:k<st+(A.cnt+B.cnt)
   ·have h3:k<st+A.cnt+B.cnt:=by omega
    simp [h1,h2,h3]
   ·have h3:¬k<st+A.cnt+B.cnt:=by omega
    simp only [h1,h2,h3,if_false]
    rw [Nat.add_assoc]
theorem fold_gen {M X:Type} (op:Int) (φ:Nt→M) (o:M→M→M) (ho:∀a b c,o (o a b) c=o a (o b c)) (hφ:∀a b,φ (.two op a b)=o (φ a) (φ b)) (tr:X→Nt) (r:X→M) (hr:∀x,φ (tr x)=r x) (S:X→List X→M) (h0:∀x,S x []=r x) (h1:∀x y ys,S x (y::ys)=o (r x) (S y ys)) :
  ∀(ys:List X) (x:X) (t:Nt),φ (ys.foldl (fun t y=>.two op t (tr y)) (.two op t (tr x)))=o (φ t) (S x ys):=by
 intro ys
 induction ys with
 | nil=>intro x t;simp only [List.foldl_nil];rw [hφ,hr,h0]
 | cons y ys ih =>
  intro x t
  simp only [List.foldl_cons]
  rw [ih y,hφ,hr,h1,ho]
theorem fold_top {M X:Type} (op:Int) (φ:Nt→M) (o:M→M→M) (ho:∀a b c,o (o a b) c=o a (o b c)) (hφ:∀a b,φ (.two op a b)=o (φ a) (φ b)) (tr:X→Nt) (r:X→M) (hr:∀x,φ (tr x)=r x) (S:X→List X→M) (h0:∀x,S x []=r x) (h1:∀x y ys,S x (y::ys)=o (r x) (S y ys)) (ys:List X) (x:X) :
  φ (ys.foldl (fun t y=>.two op t (tr y)) (tr x))=S x ys:=by
 cases ys with
 | nil=>simp only [List.foldl_nil];rw [hr,h0]
 | cons y ys =>
  simp only [List.foldl_cons]
  rw [fold_gen op φ o ho hφ tr r hr S h0 h1 ys y,h1,hr]
section
variable {α:Type} {f:α→Nt} {g:α→Tri} {ss:α→List St}
theorem rep_hand (h:∀a,(f a).hand=(g a).H) (x:α×Rep):(repTr f x).hand=(repT g x).H:=by
 obtain ⟨a,q⟩:=x
 match q with
 | none=>exact h a
 | some (lo,hi) =>
  show (f a).hand.round=(g a).H.round
  rw [h a]
theorem seq_hand (h:∀a,(f a).hand=(g a).H) (x:SeqOf α):(seqTr f x).hand=(seqT g x.1 x.2).H :=
 fold_top 1 Nt.hand Hand.andThen Hand.andThen_assoc (fun a b=>by simp [Nt.hand]) (repTr f) (fun x=>(repT g x).H) (rep_hand h) (fun x ys=>(seqT g x ys).H) (fun _=>rfl) (fun _ _ _=>rfl) x.2 x.1
theorem alt_hand (h:∀a,(f a).hand=(g a).H) (x:AltOf α):(altTr f x).hand=(altT g x.1 x.2).H :=
 fold_top 2 Nt.hand Hand.orElse Hand.orElse_assoc (fun a b=>by simp [Nt.hand]) (seqTr f) (fun x=>(seqT g x.1 x.2).H) (seq_hand h) (fun x ys=>(altT g x ys).H) (fun _=>rfl) (fun _ _ _=>rfl) x.2 x.1
theorem rep_stepsN (h:∀a,(f a).steps=ss a) (x:α×Rep):(repTr f x).steps=ss x.1:=by
 obtain ⟨a,q⟩:=x
 match q with
 | none=>exact h a
 | some (lo,hi)=>exact h a
theorem seq_stepsN (h:∀a,(f a).steps=ss a) (x:SeqOf α):(seqTr f x).steps=seqS ss x.1 x.2 :=
 fold_top 1 Nt.steps (· ++ ·) (fun a b c=>List.append_assoc a b c) (fun a b=>rfl) (repTr f) (fun x=>ss x.1) (rep_stepsN h) (seqS ss) (fun _=>rfl) (fun _ _ _=>rfl) x.2 x.1
theorem alt_stepsN (h:∀a,(f a).steps=ss a) (x:AltOf α):(altTr f x).steps=altS ss x.1 x.2 :=
 fold_top 2 Nt.steps (· ++ ·) (fun a b c=>List.append_assoc a b c) (fun a b=>rfl) (seqTr f) (fun x=>seqS ss x.1 x.2) (seq_stepsN h) (altS ss) (fun _=>rfl) (fun _ _ _=>rfl) x.2 x.1
end
theorem atom_hand:∀(n:Nat) (a:Atom n),(atomTr n a).hand=(atomT n a).H:=by
 intro n
 induction n with
 | zero=>intro a;rfl
 | succ n ih =>
  intro a
  match a with
  | .inl s=>rfl
  | .inr t=>exact alt_hand ih t
theorem atom_stepsN:∀(n:Nat) (a:Atom n),(atomTr n a).steps=atomS n a:=by
 intro n
 induction n with
 | zero=>intro a;rfl
 | succ n ih =>
  intro a
  match a with
  | .inl s=>rfl
  | .inr t=>exact alt_stepsN ih t
section
variable {α:Type}
variable {f:α→Nt} {g:α→Int}
end
section
variable {α:Type} {pp:α→Nat→Nat→List Pt} {ss:α→List St} {ft:α→Tri} {gl:α→Int}
end
theorem fold_ops {X:Type} (op:Int) (hop:op=1∨op=2) (tr:X→Nt) (h:∀x,(tr x).Ops):∀(ys:List X) (t:Nt),t.Ops→(ys.foldl (fun t y=>Nt.two op t (tr y)) t).Ops:=by
 intro ys
 induction ys with
 | nil=>intro t ht;exact ht
 | cons y ys ih=>intro t ht;exact ih _ ⟨hop,ht,h y⟩
section
variable {α:Type} {f:α→Nt}
theorem rep_ops (h:∀a,(f a).Ops) (x:α×Rep):(repTr f x).Ops:=by
 obtain ⟨a,q⟩:=x
 match q with
 | none=>exact h a
 | some (lo,hi)=>exact h a
theorem seq_ops (h:∀a,(f a).Ops) (x:SeqOf α):(seqTr f x).Ops:=fold_ops 1 (Or.inl rfl) _ (rep_ops h) _ _ (rep_ops h _)
theorem alt_ops (h:∀a,(f a).Ops) (x:AltOf α):(altTr f x).Ops:=fold_ops 2 (Or.inr rfl) _ (seq_ops h) _ _ (seq_ops h _)
end
theorem atom_ops:∀(n:Nat) (a:Atom n),(atomTr n a).Ops:=by
 intro n
 induction n with
 | zero=>intro a;trivial
 | succ n ih =>
  intro a
  match a with
  | .inl s=>trivial
  | .inr t=>exact alt_ops ih t
theorem yRepS_hi {q:Rep} {u:List Tok} (h:yRepS q u):∀lo hi,q=some (lo,hi)→hi = -1∨(1≤hi∧hi≤9):=by
 intro lo hi e
 rcases h with ⟨h,_⟩ | ⟨_,_,h⟩ | ⟨_,_,h⟩ | ⟨_,_,h⟩ | ⟨a,b,_,_,_,_,_,ha,hb,h1,h2,h⟩
 ·rw [h] at e;cases e
 ·rw [h] at e;simp at e;omega
 ·rw [h] at e;simp at e;omega
 ·rw [h] at e;simp at e;omega
 ·rw [h] at e;simp at e
  have:=isDigit_bounds hb
  omega
section
variable {α:Type} {f:α→Nt} {ya:α→List Tok→Prop}
theorem rep_reps (h:∀a u,ya a u→(f a).Reps) (x:α×Rep) (u:List Tok) (hy:yRep ya x u):(repTr f x).Reps:=by
 obtain ⟨a,q⟩:=x
 obtain ⟨v,r,_,h1,h2⟩:=hy
 match q,h2 with
 | none,_=>exact h a v h1
 | some (lo,hi),h2=>exact ⟨yRepS_hi h2 lo hi rfl,h a v h1⟩
theorem seq_repsG (h:∀a u,ya a u→(f a).Reps):∀(ys:List (α×Rep)) (t:Nt) (u:List Tok),t.Reps→yReps ya ys u→(ys.foldl (fun t y=>Nt.two 1 t (repTr f y)) t).Reps:=by
 intro ys
 induction ys with
 | nil=>intro t u ht _;exact ht
 | cons y ys ih =>
  intro t u ht hy
  obtain ⟨v,r,_,h1,h2⟩:=hy
  exact ih _ r ⟨ht,rep_reps h y v h1⟩ h2
theorem seq_reps (h:∀a u,ya a u→(f a).Reps) (x:SeqOf α) (u:List Tok) (hy:ySeq ya x u):(seqTr f x).Reps:=by
 obtain ⟨v,r,_,h1,h2⟩:=hy
 exact seq_repsG h x.2 _ r (rep_reps h x.1 v h1) h2
theorem alt_repsG (h:∀a u,ya a u→(f a).Reps):∀(ys:List (SeqOf α)) (t:Nt) (u:List Tok),t.Reps→yAlts ya ys u→(ys.foldl (fun t y=>Nt.two 2 t (seqTr f y)) t).Reps:=by
 intro ys
 induction ys with
 | nil=>intro t u ht _;exact ht
 | cons y ys ih =>
  intro t u ht hy
  obtain ⟨p,v,r,_,h1,h2⟩:=hy
  exact ih _ r ⟨ht,seq_reps h y v h1⟩ h2
theorem alt_reps (h:∀a u,ya a u→(f a).Reps) (x:AltOf α) (u:List Tok) (hy:yAlt ya x u):(altTr f x).Reps:=by
 obtain ⟨v,r,_,h1,h2⟩:=hy
 exact alt_repsG h x.2 _ r (seq_reps h x.1 v h1) h2
end
theorem atom_reps:∀(n:Nat) (a:Atom n) (u:List Tok),yAtom n a u→(atomTr n a).Reps:=by
 intro n
 induction n with
 | zero=>intro a u _;trivial
 | succ n ih =>
  intro a u hy
  match a,hy with
  | .inl s,_=>trivial
  | .inr t,hy =>
   obtain ⟨p,v,q,_,h⟩:=hy
   exact alt_reps ih t v h
end
open Go.RowKit
theorem tssC_get:∀(l:List Tst) (i k:Nat) (x:Tst),l[i]? = some x→k<11→(tssC l)[i*11+k]? = (tsC x)[k]?:=by
 intro l
 induction l with
 | nil=>intro i k x h;simp at h
 | cons y r ih =>
  intro i k x h hk
  have e:tssC (y::r)=tsC y++tssC r:=by simp [tssC]
  have hl:(tsC y).length=11:=rfl
  rw [e]
  cases i with
  | zero =>
   simp at h;subst h
   rw [List.getElem?_append_left (by omega)]
   simp
  | succ i =>
   simp at h
   rw [List.getElem?_append_right (by omega),hl]
   have:(i+1)*11+k - 11=i*11+k:=by omega
   rw [this];exact ih i k x h hk
structure TstAt (w:World) (g o:Nat) (t:Tst):Prop where
 c0:w.cell? ⟨g,o,none⟩=some (.int .i64 t.left.of)
 c1:w.cell? ⟨g,o+1,none⟩=some (.int .i64 t.left.field)
 c2:w.cell? ⟨g,o+2,none⟩=some (.int .i64 t.left.num)
 c3:w.cell? ⟨g,o+3,none⟩=some (.int .i64 t.rel)
 c4:w.cell? ⟨g,o+4,none⟩=some (.int .i64 t.right.of)
 c5:w.cell? ⟨g,o+5,none⟩=some (.int .i64 t.right.field)
 c6:w.cell? ⟨g,o+6,none⟩=some (.int .i64 t.right.num)
 c7:w.cell? ⟨g,o+7,none⟩=some (.int .i64 t.arith)
 c8:w.cell? ⟨g,o+8,none⟩=some (.int .i64 t.more.of)
 c9:w.cell? ⟨g,o+9,none⟩=some (.int .i64 t.more.field)
 c10:w.cell? ⟨g,o+10,none⟩=some (.int .i64 t.more.num)
theorem tstAt {w:World} {base g c:Nat} {l:List Tst} {i:Nat} {t:Tst} (h:w.ownsRow base 60 11 (.slice (some ⟨g,0,none⟩) l.length c) l.length (tssC l)) (hi:l[i]? = some t):TstAt w g (i*11) t:=by
 have key:∀k,k<11→∀v,(tsC t)[k]? = some v→w.cell? ⟨g,i*11+k,none⟩=some v:=fun k hk v hv=>owns_cell h (i*11+k) (by rw [tssC_get l i k t hi hk];exact hv)
 exact ⟨key 0 (by omega) _ rfl,key 1 (by omega) _ rfl,key 2 (by omega) _ rfl,key 3 (by omega) _ rfl,key 4 (by omega) _ rfl,key 5 (by omega) _ rfl,key 6 (by omega) _ rfl,key 7 (by omega) _ rfl,key 8 (by omega) _ rfl,key 9 (by omega) _ rfl,key 10 (by omega) _ rfl⟩
def lp (ps:List Pt):Nat→Nat→Nat
 | 0,_=>0
 | f+1,i =>
  match ps[i]? with
  | none=>0
  | some x =>
   if x.op=0 then 1 else
   if x.op=3 then (if x.high = -1 then lp ps f x.left.toNat else x.high.toNat*lp ps f x.left.toNat)
   else lp ps f x.left.toNat+lp ps f x.right.toNat
theorem owns_baseP {w:World} {base base' n size:Nat} {e:TypeId} {v:Value} {xs:List Value} (h:w.ownsRow base e size v n xs) (hb:base'≤base):w.ownsRow base' e size v n xs:=by
 refine ⟨h.1,?_⟩
 rcases h.2 with h2|⟨g,cap,cur,h2,h3,h4⟩
 ·exact Or.inl h2
 ·exact Or.inr ⟨g,cap,cur,h2,by omega,h4⟩
section
def StepsY (sts:List St) (u:List Tok):Prop:=∀y∈sts,∃v,ySt y v∧v.length≤u.length
theorem StepsY.wide {sts:List St} {u v:List Tok} (h:StepsY sts u) (hv:u.length≤v.length):StepsY sts v:=fun y hy=>by
 obtain ⟨z,h1,h2⟩:=h y hy
 exact ⟨z,h1,by omega⟩
theorem StepsY.append {a b:List St} {u:List Tok} (h:StepsY a u) (h2:StepsY b u):StepsY (a++b) u:=fun y hy=>(List.mem_append.1 hy).elim (h y) (h2 y)
section
variable {α:Type} {ss:α→List St} {ya:α→List Tok→Prop}
theorem seq_steps (H:∀a u,ya a u→StepsY (ss a) u):∀(xs:List (α×Rep)) (x:α×Rep) (u:List Tok),yReps ya (x::xs) u→StepsY (seqS ss x xs) u:=by
 intro xs
 induction xs with
 | nil =>
  intro x u h
  obtain ⟨v,r,e,⟨v1,r1,e1,h1,h3⟩,h2⟩:=h
  exact (H _ _ h1).wide (by rw [e,e1];simp only [List.length_append];omega)
 | cons y ys ih =>
  intro x u h
  obtain ⟨v,r,e,⟨v1,r1,e1,h1,h3⟩,h2⟩:=h
  exact ((H _ _ h1).wide (by rw [e,e1];simp only [List.length_append];omega)).append ((ih y r h2).wide (by rw [e];simp))
theorem alt_steps (H:∀a u,ya a u→StepsY (ss a) u):∀(ts:List (SeqOf α)) (s:SeqOf α) (v r:List Tok),ySeq ya s v→yAlts ya ts r→StepsY (altS ss s ts) (v++r):=by
 intro ts
 induction ts with
 | nil=>intro s v r h1 h2;exact (seq_steps H _ _ _ h1).wide (by simp)
 | cons t ts ih =>
  intro s v r h1 h2
  obtain ⟨p,v',r',e,h3,h4⟩:=h2
  subst e
  exact ((seq_steps H _ _ _ h1).wide (by simp)).append ((ih t v' r' h3 h4).wide (by simp;omega))
end
theorem atom_steps:∀(n:Nat) (a:Atom n) (u:List Tok),yAtom n a u→StepsY (atomS n a) u:=by
 intro n
 induction n with
 | zero=>intro a u h y hy;obtain rfl:=List.mem_singleton.1 hy;exact ⟨u,h,Nat.le_refl _⟩
 | succ n ih =>
  intro a u h
  cases a with
  | inl s=>intro y hy;obtain rfl:=List.mem_singleton.1 hy;exact ⟨u,h,Nat.le_refl _⟩
  | inr t =>
   obtain ⟨p,v,q,e,v1,r1,e1,h1,h2⟩:=h
   subst e;subst e1
   exact (alt_steps ih t.2 t.1 v1 r1 h1 h2).wide (by simp;omega)
theorem yTsts_lenR:∀(ts:List Tst) (v:List Tok),yTsts ts v→ts.length≤v.length:=by
 intro ts
 induction ts with
 | nil=>intro v h;simp
 | cons t ts ih =>
  intro v h
  cases ts with
  | nil=>obtain ⟨a,p,_,e⟩:=h;subst e;simp
  | cons t2 ts=>obtain ⟨a,p,v',_,e,hv⟩:=h;subst e;have:=ih v' hv;simp at this ⊢;omega
theorem alt_tests {t:AltOf (Atom 8)} {u:List Tok} (h:yAlt (yAtom 8) t u) (hu:u.length≤1000):∀y∈altS (atomS 8) t.1 t.2,y.tests.length≤1000:=by
 obtain ⟨v,r,e,h1,h2⟩:=h
 intro y hy
 obtain ⟨z,⟨c,a,b,e1,_,_,_,hb⟩,h4⟩:=alt_steps (atom_steps 8) t.2 t.1 v r h1 h2 y hy
 rw [←e] at h4
 rcases hb with ⟨e2,_⟩ | ⟨p,v',e2,hv⟩
 ·rw [e2];simp
 ·have:=yTsts_lenR _ _ hv
  rw [e1,e2] at h4
  simp at h4;omega
end
open Value (bool)
def dress (sts:List St):List (St×Value):=sts.map (fun s=>(s,bool false))
theorem dress_map (sts:List St):(dress sts).map (·.1)=sts:=by
 induction sts with
 | nil=>rfl
 | cons a r ih=>exact congrArg (a :: ·) ih
theorem isNew_congr {a b:List (St×Value)} (h:a.map (·.1)=b.map (·.1)) (i:Nat) (n:Int):isNew a i n=isNew b i n:=by
 have key:∀l:List (St×Value),(l.take i).all (fun y=>y.1.name != n)=((l.map (·.1)).take i).all (fun s=>s.name != n):=by
  intro l
  rw [←List.map_take,List.all_map]
  rfl
 unfold isNew
 rw [key a,key b,h]
theorem slotsTo_congr {a b:List (St×Value)} (h:a.map (·.1)=b.map (·.1)):∀i,slotsTo a i=slotsTo b i:=by
 intro i
 induction i with
 | zero=>rfl
 | succ i ih =>
  have hg:a[i]?.map (·.1)=b[i]?.map (·.1):=by
   have:=congrArg (fun l=>l[i]?) h
   simpa using this
  simp only [slotsTo]
  cases ea:a[i]? with
  | none =>
   cases eb:b[i]? with
   | none=>simpa using ih
   | some y=>rw [ea,eb] at hg;simp at hg
  | some x =>
   cases eb:b[i]? with
   | none=>rw [ea,eb] at hg;simp at hg
   | some y =>
    rw [ea,eb] at hg
    simp at hg
    simp only [hg,isNew_congr h,ih]
section
def termsOf (s:St):List (Int×Int):=s.tests.flatMap (fun t=>[(t.left.of,t.left.field),(t.right.of,t.right.field),(t.more.of,t.more.field)])
def rulesOf (sts:List St):Rules where
 nm:=fun k=>((sts[k]?).map (·.name)).getD (-1)
 kd:=fun k=>((sts[k]?).map (·.kind)).getD 0
 tr:=fun k=>((sts[k]?).map termsOf).getD []
theorem rules_at {sts:List St} {k:Nat} {y:St} (h:sts[k]? = some y):(rulesOf sts).nm k=y.name∧(rulesOf sts).kd k=y.kind∧(rulesOf sts).tr k=termsOf y:=by
 simp [rulesOf,h]
structure StY (y:St):Prop where
 kind:0≤y.kind∧y.kind≤4
 name:y.name = -1∨(0≤y.name∧y.name<26)
 terms:∀q∈termsOf y,(0≤q.1∧q.1≤27)∧0≤q.2∧q.2≤3
def hkP (l:List Int) (a:Int):Prop:=0≤hasF l a
def hfP (l:List Int) (a f:Int):Prop:=hasFd l a f=true
theorem schema_all {l:List Int} (h:schemaB l=true):(∀c∈l,48≤c∧c≤51)∧0<l.length∧l.length≤4:=by
 simp only [schemaB,Bool.and_eq_true,decide_eq_true_eq,List.all_eq_true] at h
 refine ⟨fun c hc => ?_,h.1.2,h.2⟩
 have:=h.1.1 c hc
 simp at this
 omega
theorem scF_nonneg {l:List Int} (h:schemaB l=true) (k:Nat):0≤scF l k:=by
 unfold scF
 split
 ·rename_i hk
  have:=(schema_all h).1 l[k] (List.getElem_mem hk)
  omega
 ·omega
theorem hasF_in {l:List Int} {a:Int} (h:0≤a∧a<l.length) (h4:¬a=4):hasF l a=scF l a.toNat:=by
 have hk:a.toNat<l.length:=by omega
 simp only [hasF,if_neg h4,if_pos h,scF,hk,dif_pos]
 rw [List.getD_eq_getElem?_getD,List.getElem?_eq_getElem hk]
 rfl
theorem hkP_iff {l:List Int} (h:schemaB l=true) (a:Int):hkP l a↔a=4∨hasK l a=true:=by
 obtain ⟨h1,h2,h3⟩:=schema_all h
 unfold hkP hasK
 simp only [Bool.and_eq_true,decide_eq_true_eq]
 by_cases h4:a=4
 ·subst h4;simp [hasF]
 ·by_cases hi:0≤a∧a<l.length
  ·rw [hasF_in hi h4]
   exact ⟨fun _=>Or.inr hi,fun _=>scF_nonneg h _⟩
  ·simp only [hasF,if_neg h4,if_neg hi]
   constructor
   ·intro h;omega
   ·rintro (h|h)
    ·exact absurd h h4
    ·exact absurd h hi
section
variable {t:AltOf (Atom 8)} {l:List Int}
end
end
theorem fieldV_le (c:Int):0≤fieldV c∧fieldV c≤3:=by
 unfold fieldV
 split
 ·omega
 ·split
  ·omega
  ·split <;> omega
theorem yTm_all {t:Tm} {u:List Tok} (h:yTm t u):(0≤t.of∧t.of≤27)∧0≤t.field∧t.field≤3:=by
 rcases h with ⟨_,_,_,e⟩ | ⟨c,p,_,_,e⟩ | ⟨n,p,c,q,_,hn,_,e⟩
 ·subst e;simp
 ·subst e;have:=fieldV_le c;simp;omega
 ·subst e
  have:=fieldV_le c
  rw [isName_iff] at hn
  simp only
  omega
theorem yTst_all {t:Tst} {u:List Tok} (h:yTst t u):∀q∈[(t.left.of,t.left.field),(t.right.of,t.right.field),(t.more.of,t.more.field)],(0≤q.1∧q.1≤27)∧0≤q.2∧q.2≤3:=by
 obtain ⟨a,r,p,b,ya,yb,_,_,h⟩:=h
 have h3:(0≤t.more.of∧t.more.of≤27)∧0≤t.more.field∧t.more.field≤3:=by
  rcases h with ⟨_,_,e⟩ | ⟨d,q,m,_,ym,_,_⟩
  ·rw [e];simp [tm0]
  ·exact yTm_all ym
 intro q hq
 simp only [List.mem_cons,List.not_mem_nil,or_false] at hq
 rcases hq with e|e|e
 ·subst e;exact yTm_all ya
 ·subst e;exact yTm_all yb
 ·subst e;exact h3
theorem yTsts_all:∀(ts:List Tst) (u:List Tok),yTsts ts u→∀t∈ts,∃v,yTst t v:=by
 intro ts
 induction ts with
 | nil=>intro u h q hq;cases hq
 | cons t ts ih =>
  intro u h q hq
  cases ts with
  | nil =>
   obtain ⟨a,p,ha,_⟩:=h
   rw [List.mem_singleton.1 hq];exact ⟨a,ha⟩
  | cons t2 ts =>
   obtain ⟨a,p,v,ha,_,hv⟩:=h
   rcases List.mem_cons.1 hq with e|e
   ·rw [e];exact ⟨a,ha⟩
   ·exact ih v hv q e
theorem sty_of {y:St} {u:List Tok} (h:ySt y u):StY y:=by
 obtain ⟨c,a,b,_,hc,hk,hn,hb⟩:=h
 refine ⟨by rw [hk];exact kindV_bounds hc,?_,?_⟩
 ·rcases hn with ⟨h,_⟩ | ⟨n,p,h1,_,h2⟩
  ·exact Or.inl h
  ·rw [isName_iff] at h1
   exact Or.inr (by omega)
 ·intro q hq
  obtain ⟨t,ht,hqt⟩:=List.mem_flatMap.1 hq
  rcases hb with ⟨e,_⟩ | ⟨p,v,_,hv⟩
  ·rw [e] at ht;cases ht
  ·obtain ⟨w,hw⟩:=yTsts_all _ _ hv t ht
   exact yTst_all hw q hqt
theorem alt_sty {s:ByteArray} {t:AltOf (Atom 8)} {o:Option Int} {x:List Tok} (hp:pTopOf (pAtom 8) (toks 0 (bI s))=(some (t,o),x)):(∀y∈altS (atomS 8) t.1 t.2,StY y)∧(altTr (atomTr 8) t).Reps:=by
 obtain ⟨u,⟨v,r,e,h1,h2⟩,_⟩:=pTop_y hp
 refine ⟨?_,alt_reps (atom_reps 8) t u ⟨v,r,e,h1,h2⟩⟩
 intro y hy
 obtain ⟨z,hz,_⟩:=alt_steps (atom_steps 8) t.2 t.1 v r h1 h2 y hy
 exact sty_of hz
def LargeP (t:Nt) (sts:List St):Prop:=4<(slotsTo (dress sts) sts.length).length∨(∃y∈sts,4<y.tests.length)∨24<t.long
def ProgT (l:List Int) (t:AltOf (Atom 8)) (f p:Int):Prop :=
 (∃k y,(altS (atomS 8) t.1 t.2)[k]? = some y∧¬rightS (rulesOf (altS (atomS 8) t.1 t.2)) (hkP l) (hfP l) (altT (atomT 8) t.1 t.2) k∧(∀j,j<k→rightS (rulesOf (altS (atomS 8) t.1 t.2)) (hkP l) (hfP l) (altT (atomT 8) t.1 t.2) j)∧f=4∧p=y.pos) ∨
 ((∀j,j<(altS (atomS 8) t.1 t.2).length→rightS (rulesOf (altS (atomS 8) t.1 t.2)) (hkP l) (hfP l) (altT (atomT 8) t.1 t.2) j)∧LargeP (altTr (atomTr 8) t) (altS (atomS 8) t.1 t.2)∧f=5∧p=0) ∨
 ((∀j,j<(altS (atomS 8) t.1 t.2).length→rightS (rulesOf (altS (atomS 8) t.1 t.2)) (hkP l) (hfP l) (altT (atomT 8) t.1 t.2) j)∧¬LargeP (altTr (atomTr 8) t) (altS (atomS 8) t.1 t.2)∧f=0∧p=0)
end Go.Proofs.YtcboiapggnmpfabGreat
