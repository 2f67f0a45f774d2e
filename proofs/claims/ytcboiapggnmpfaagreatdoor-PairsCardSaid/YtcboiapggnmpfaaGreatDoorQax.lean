import Derived.Test.YtcboiapggnmpfaaGreatDoorQas
import Derived.Test.YtcboiapggnmpfaaGreatDoorQae
import Derived.Deep.RegionLaw
import Derived.Deep.DrawnRows
import Derived.Test.YtcboiapggnmpfaaGreatDoorQab
import Derived.Deep.QuietTactic
import Derived.Deep.RegionWith
import Derived.Deep.DeepCutAuto
import Derived.Deep.LoopGhost
import Derived.Test.YtcboiapggnmpfaaGreatDoorQac
import Derived.Test.YtcboiapggnmpfaaGreatDoorQaa
import Derived.Test.YtcboiapggnmpfaaGreatDoorQap
namespace Go.Proofs.YtcboiapggnmpfaaGreatDoor
set_option maxRecDepth 100000
set_option maxHeartbeats 1000000
set_option linter.unusedSimpArgs false
set_option linter.unusedVariables false
section
theorem Hand.andThen_assoc (A B C:Hand):(A.andThen B).andThen C=A.andThen (B.andThen C):=by
 simp only [Hand.andThen,Hand.mk.injEq]
 refine ⟨Nat.add_assoc _ _ _,?_,?_,?_,?_,?_⟩
 ·funext nm x st;rw [Bool.or_assoc,Nat.add_assoc]
 ·funext nm x st;rw [Bool.or_assoc,Nat.add_assoc]
 ·funext nm x r st k
  by_cases h1:k<st+A.cnt
  ·have h2:k<st+(A.cnt+B.cnt):=by omega
   simp [h1,h2]
  ·by_cases h2:k<st+(A.cnt+B.cnt)
   ·have h3:k<st+A.cnt+B.cnt:=by omega
    simp [h1,h2,h3]
   ·have h3:¬k<st+A.cnt+B.cnt:=by omega
    simp only [h1,h2,h3,if_false]
    rw [Bool.or_assoc,Nat.add_assoc]
 ·funext nm x r st k
  by_cases h1:k<st+A.cnt
  ·have h2:k<st+(A.cnt+B.cnt):=by omega
   simp [h1,h2]
  ·by_cases h2:k<st+(A.cnt+B.cnt)
   ·have h3:k<st+A.cnt+B.cnt:=by omega
    simp [h1,h2,h3]
   ·have h3:¬k<st+A.cnt+B.cnt:=by omega
    simp only [h1,h2,h3,if_false]
    rw [Bool.or_assoc,Nat.add_assoc]
 ·funext r st k
  by_cases h1:k<st+A.cnt
  ·have h2:k<st+(A.cnt+B.cnt):=by omega
   simp [h1,h2]
  ·by_cases h2:k<st+(A.cnt+B.cnt)
   ·have h3:k<st+A.cnt+B.cnt:=by omega
    simp [h1,h2,h3]
   ·have h3:¬k<st+A.cnt+B.cnt:=by omega
    simp only [h1,h2,h3,if_false]
    rw [Nat.add_assoc]
theorem Hand.orElse_assoc (A B C:Hand):(A.orElse B).orElse C=A.orElse (B.orElse C):=by
 simp only [Hand.orElse,Hand.mk.injEq]
 refine ⟨Nat.add_assoc _ _ _,?_,?_,?_,?_,?_⟩
 ·funext nm x st;rw [Bool.or_assoc,Nat.add_assoc]
 ·funext nm x st;rw [Bool.and_assoc,Nat.add_assoc]
 ·funext nm x r st k
  by_cases h1:k<st+A.cnt
  ·have h2:k<st+(A.cnt+B.cnt):=by omega
   simp [h1,h2]
  ·by_cases h2:k<st+(A.cnt+B.cnt)
   ·have h3:k<st+A.cnt+B.cnt:=by omega
    simp [h1,h2,h3]
   ·have h3:¬k<st+A.cnt+B.cnt:=by omega
    simp only [h1,h2,h3,if_false]
    rw [Nat.add_assoc]
 ·funext nm x r st k
  by_cases h1:k<st+A.cnt
  ·have h2:k<st+(A.cnt+B.cnt):=by omega
   simp [h1,h2]
  ·by_cases h2:k<st+(A.cnt+B.cnt)
   ·have h3:k<st+A.cnt+B.cnt:=by omega
    simp [h1,h2,h3]
   ·have h3:¬k<st+A.cnt+B.cnt:=by omega
    simp only [h1,h2,h3,if_false]
    rw [Nat.add_assoc]
 ·funext r st k
  by_cases h1:k<st+A.cnt
  ·have h2:k<st+(A.cnt+B.cnt):=by omega
   simp [h1,h2]
  ·by_cases h2:k<st+(A.cnt+B.cnt)
   ·have h3:k<st+A.cnt+B.cnt:=by omega
    simp [h1,h2,h3]
   ·have h3:¬k<st+A.cnt+B.cnt:=by omega
    simp only [h1,h2,h3,if_false]
    rw [Nat.add_assoc]
theorem fold_gen {M X:Type} (op:Int) (φ:Nt→M) (o:M→M→M) (ho:∀a b c,o (o a b) c=o a (o b c)) (hφ:∀a b,φ (.two op a b)=o (φ a) (φ b)) (tr:X→Nt) (r:X→M) (hr:∀x,φ (tr x)=r x) (S:X→List X→M) (h0:∀x,S x []=r x) (h1:∀x y ys,S x (y::ys)=o (r x) (S y ys)) :
  ∀(ys:List X) (x:X) (t:Nt),φ (ys.foldl (fun t y=>.two op t (tr y)) (.two op t (tr x)))=o (φ t) (S x ys):=by
 intro ys
 induction ys with
 | nil=>intro x t;simp only [List.foldl_nil];rw [hφ,hr,h0]
 | cons y ys ih =>
  intro x t
  simp only [List.foldl_cons]
  rw [ih y,hφ,hr,h1,ho]
theorem fold_top {M X:Type} (op:Int) (φ:Nt→M) (o:M→M→M) (ho:∀a b c,o (o a b) c=o a (o b c)) (hφ:∀a b,φ (.two op a b)=o (φ a) (φ b)) (tr:X→Nt) (r:X→M) (hr:∀x,φ (tr x)=r x) (S:X→List X→M) (h0:∀x,S x []=r x) (h1:∀x y ys,S x (y::ys)=o (r x) (S y ys)) (ys:List X) (x:X) :
  φ (ys.foldl (fun t y=>.two op t (tr y)) (tr x))=S x ys:=by
 cases ys with
 | nil=>simp only [List.foldl_nil];rw [hr,h0]
 | cons y ys =>
  simp only [List.foldl_cons]
  rw [fold_gen op φ o ho hφ tr r hr S h0 h1 ys y,h1,hr]
section
variable {α:Type} {f:α→Nt} {g:α→Tri} {ss:α→List St}
theorem rep_hand (h:∀a,(f a).hand=(g a).H) (x:α×Rep):(repTr f x).hand=(repT g x).H:=by
 obtain ⟨a,q⟩:=x
 match q with
 | none=>exact h a
 | some (lo,hi) =>
  show (f a).hand.round=(g a).H.round
  rw [h a]
theorem seq_hand (h:∀a,(f a).hand=(g a).H) (x:SeqOf α):(seqTr f x).hand=(seqT g x.1 x.2).H :=
 fold_top 1 Nt.hand Hand.andThen Hand.andThen_assoc (fun a b=>by simp [Nt.hand]) (repTr f) (fun x=>(repT g x).H) (rep_hand h) (fun x ys=>(seqT g x ys).H) (fun _=>rfl) (fun _ _ _=>rfl) x.2 x.1
theorem alt_hand (h:∀a,(f a).hand=(g a).H) (x:AltOf α):(altTr f x).hand=(altT g x.1 x.2).H :=
 fold_top 2 Nt.hand Hand.orElse Hand.orElse_assoc (fun a b=>by simp [Nt.hand]) (seqTr f) (fun x=>(seqT g x.1 x.2).H) (seq_hand h) (fun x ys=>(altT g x ys).H) (fun _=>rfl) (fun _ _ _=>rfl) x.2 x.1
theorem rep_stepsN (h:∀a,(f a).steps=ss a) (x:α×Rep):(repTr f x).steps=ss x.1:=by
 obtain ⟨a,q⟩:=x
 match q with
 | none=>exact h a
 | some (lo,hi)=>exact h a
theorem seq_stepsN (h:∀a,(f a).steps=ss a) (x:SeqOf α):(seqTr f x).steps=seqS ss x.1 x.2 :=
 fold_top 1 Nt.steps (· ++ ·) (fun a b c=>List.append_assoc a b c) (fun a b=>rfl) (repTr f) (fun x=>ss x.1) (rep_stepsN h) (seqS ss) (fun _=>rfl) (fun _ _ _=>rfl) x.2 x.1
theorem alt_stepsN (h:∀a,(f a).steps=ss a) (x:AltOf α):(altTr f x).steps=altS ss x.1 x.2 :=
 fold_top 2 Nt.steps (· ++ ·) (fun a b c=>List.append_assoc a b c) (fun a b=>rfl) (seqTr f) (fun x=>seqS ss x.1 x.2) (seq_stepsN h) (altS ss) (fun _=>rfl) (fun _ _ _=>rfl) x.2 x.1
end
theorem atom_hand:∀(n:Nat) (a:Atom n),(atomTr n a).hand=(atomT n a).H:=by
 intro n
 induction n with
 | zero=>intro a;rfl
 | succ n ih =>
  intro a
  match a with
  | .inl s=>rfl
  | .inr t=>exact alt_hand ih t
theorem atom_stepsN:∀(n:Nat) (a:Atom n),(atomTr n a).steps=atomS n a:=by
 intro n
 induction n with
 | zero=>intro a;rfl
 | succ n ih =>
  intro a
  match a with
  | .inl s=>rfl
  | .inr t=>exact alt_stepsN ih t
section
variable {α:Type}
variable {f:α→Nt} {g:α→Int}
end
section
variable {α:Type} {pp:α→Nat→Nat→List Pt} {ss:α→List St} {ft:α→Tri} {gl:α→Int}
end
theorem fold_ops {X:Type} (op:Int) (hop:op=1∨op=2) (tr:X→Nt) (h:∀x,(tr x).Ops):∀(ys:List X) (t:Nt),t.Ops→(ys.foldl (fun t y=>Nt.two op t (tr y)) t).Ops:=by
 intro ys
 induction ys with
 | nil=>intro t ht;exact ht
 | cons y ys ih=>intro t ht;exact ih _ ⟨hop,ht,h y⟩
section
variable {α:Type} {f:α→Nt}
theorem rep_ops (h:∀a,(f a).Ops) (x:α×Rep):(repTr f x).Ops:=by
 obtain ⟨a,q⟩:=x
 match q with
 | none=>exact h a
 | some (lo,hi)=>exact h a
theorem seq_ops (h:∀a,(f a).Ops) (x:SeqOf α):(seqTr f x).Ops:=fold_ops 1 (Or.inl rfl) _ (rep_ops h) _ _ (rep_ops h _)
theorem alt_ops (h:∀a,(f a).Ops) (x:AltOf α):(altTr f x).Ops:=fold_ops 2 (Or.inr rfl) _ (seq_ops h) _ _ (seq_ops h _)
end
theorem atom_ops:∀(n:Nat) (a:Atom n),(atomTr n a).Ops:=by
 intro n
 induction n with
 | zero=>intro a;trivial
 | succ n ih =>
  intro a
  match a with
  | .inl s=>trivial
  | .inr t=>exact alt_ops ih t
theorem yRepS_hi {q:Rep} {u:List Tok} (h:yRepS q u):∀lo hi,q=some (lo,hi)→hi = -1∨(1≤hi∧hi≤9):=by
 intro lo hi e
 rcases h with ⟨h,_⟩ | ⟨_,_,h⟩ | ⟨_,_,h⟩ | ⟨_,_,h⟩ | ⟨a,b,_,_,_,_,_,ha,hb,h1,h2,h⟩
 ·rw [h] at e;cases e
 ·rw [h] at e;simp at e;omega
 ·rw [h] at e;simp at e;omega
 ·rw [h] at e;simp at e;omega
 ·rw [h] at e;simp at e
  have:=isDigit_bounds hb
  omega
section
variable {α:Type} {f:α→Nt} {ya:α→List Tok→Prop}
theorem rep_reps (h:∀a u,ya a u→(f a).Reps) (x:α×Rep) (u:List Tok) (hy:yRep ya x u):(repTr f x).Reps:=by
 obtain ⟨a,q⟩:=x
 obtain ⟨v,r,_,h1,h2⟩:=hy
 match q,h2 with
 | none,_=>exact h a v h1
 | some (lo,hi),h2=>exact ⟨yRepS_hi h2 lo hi rfl,h a v h1⟩
theorem seq_repsG (h:∀a u,ya a u→(f a).Reps):∀(ys:List (α×Rep)) (t:Nt) (u:List Tok),t.Reps→yReps ya ys u→(ys.foldl (fun t y=>Nt.two 1 t (repTr f y)) t).Reps:=by
 intro ys
 induction ys with
 | nil=>intro t u ht _;exact ht
 | cons y ys ih =>
  intro t u ht hy
  obtain ⟨v,r,_,h1,h2⟩:=hy
  exact ih _ r ⟨ht,rep_reps h y v h1⟩ h2
theorem seq_reps (h:∀a u,ya a u→(f a).Reps) (x:SeqOf α) (u:List Tok) (hy:ySeq ya x u):(seqTr f x).Reps:=by
 obtain ⟨v,r,_,h1,h2⟩:=hy
 exact seq_repsG h x.2 _ r (rep_reps h x.1 v h1) h2
theorem alt_repsG (h:∀a u,ya a u→(f a).Reps):∀(ys:List (SeqOf α)) (t:Nt) (u:List Tok),t.Reps→yAlts ya ys u→(ys.foldl (fun t y=>Nt.two 2 t (seqTr f y)) t).Reps:=by
 intro ys
 induction ys with
 | nil=>intro t u ht _;exact ht
 | cons y ys ih =>
  intro t u ht hy
  obtain ⟨p,v,r,_,h1,h2⟩:=hy
  exact ih _ r ⟨ht,seq_reps h y v h1⟩ h2
theorem alt_reps (h:∀a u,ya a u→(f a).Reps) (x:AltOf α) (u:List Tok) (hy:yAlt ya x u):(altTr f x).Reps:=by
 obtain ⟨v,r,_,h1,h2⟩:=hy
 exact alt_repsG h x.2 _ r (seq_reps h x.1 v h1) h2
end
theorem atom_reps:∀(n:Nat) (a:Atom n) (u:List Tok),yAtom n a u→(atomTr n a).Reps:=by
 intro n
 induction n with
 | zero=>intro a u _;trivial
 | succ n ih =>
  intro a u hy
  match a,hy with
  | .inl s,_=>trivial
  | .inr t,hy =>
   obtain ⟨p,v,q,_,h⟩:=hy
   exact alt_reps ih t v h
end
open Go.RowKit
theorem tssC_get:∀(l:List Tst) (i k:Nat) (x:Tst),l[i]? = some x→k<11→(tssC l)[i*11+k]? = (tsC x)[k]?:=by
 intro l
 induction l with
 | nil=>intro i k x h;simp at h
 | cons y r ih =>
  intro i k x h hk
  have e:tssC (y::r)=tsC y++tssC r:=by simp [tssC]
  have hl:(tsC y).length=11:=rfl
  rw [e]
  cases i with
  | zero =>
   simp at h;subst h
   rw [List.getElem?_append_left (by omega)]
   simp
  | succ i =>
   simp at h
   rw [List.getElem?_append_right (by omega),hl]
   have:(i+1)*11+k - 11=i*11+k:=by omega
   rw [this];exact ih i k x h hk
structure TstAt (w:World) (g o:Nat) (t:Tst):Prop where
 c0:w.cell? ⟨g,o,none⟩=some (.int .i64 t.left.of)
 c1:w.cell? ⟨g,o+1,none⟩=some (.int .i64 t.left.field)
 c2:w.cell? ⟨g,o+2,none⟩=some (.int .i64 t.left.num)
 c3:w.cell? ⟨g,o+3,none⟩=some (.int .i64 t.rel)
 c4:w.cell? ⟨g,o+4,none⟩=some (.int .i64 t.right.of)
 c5:w.cell? ⟨g,o+5,none⟩=some (.int .i64 t.right.field)
 c6:w.cell? ⟨g,o+6,none⟩=some (.int .i64 t.right.num)
 c7:w.cell? ⟨g,o+7,none⟩=some (.int .i64 t.arith)
 c8:w.cell? ⟨g,o+8,none⟩=some (.int .i64 t.more.of)
 c9:w.cell? ⟨g,o+9,none⟩=some (.int .i64 t.more.field)
 c10:w.cell? ⟨g,o+10,none⟩=some (.int .i64 t.more.num)
theorem tstAt {w:World} {base g c:Nat} {l:List Tst} {i:Nat} {t:Tst} (h:w.ownsRow base 118 11 (.slice (some ⟨g,0,none⟩) l.length c) l.length (tssC l)) (hi:l[i]? = some t):TstAt w g (i*11) t:=by
 have key:∀k,k<11→∀v,(tsC t)[k]? = some v→w.cell? ⟨g,i*11+k,none⟩=some v:=fun k hk v hv=>owns_cell h (i*11+k) (by rw [tssC_get l i k t hi hk];exact hv)
 exact ⟨key 0 (by omega) _ rfl,key 1 (by omega) _ rfl,key 2 (by omega) _ rfl,key 3 (by omega) _ rfl,key 4 (by omega) _ rfl,key 5 (by omega) _ rfl,key 6 (by omega) _ rfl,key 7 (by omega) _ rfl,key 8 (by omega) _ rfl,key 9 (by omega) _ rfl,key 10 (by omega) _ rfl⟩
def lp (ps:List Pt):Nat→Nat→Nat
 | 0,_=>0
 | f+1,i =>
  match ps[i]? with
  | none=>0
  | some x =>
   if x.op=0 then 1 else
   if x.op=3 then (if x.high = -1 then lp ps f x.left.toNat else x.high.toNat*lp ps f x.left.toNat)
   else lp ps f x.left.toNat+lp ps f x.right.toNat
theorem owns_baseP {w:World} {base base' n size:Nat} {e:TypeId} {v:Value} {xs:List Value} (h:w.ownsRow base e size v n xs) (hb:base'≤base):w.ownsRow base' e size v n xs:=by
 refine ⟨h.1,?_⟩
 rcases h.2 with h2|⟨g,cap,cur,h2,h3,h4⟩
 ·exact Or.inl h2
 ·exact Or.inr ⟨g,cap,cur,h2,by omega,h4⟩
section
def StepsY (sts:List St) (u:List Tok):Prop:=∀y∈sts,∃v,ySt y v∧v.length≤u.length
theorem StepsY.wide {sts:List St} {u v:List Tok} (h:StepsY sts u) (hv:u.length≤v.length):StepsY sts v:=fun y hy=>by
 obtain ⟨z,h1,h2⟩:=h y hy
 exact ⟨z,h1,by omega⟩
theorem StepsY.append {a b:List St} {u:List Tok} (h:StepsY a u) (h2:StepsY b u):StepsY (a++b) u:=fun y hy=>(List.mem_append.1 hy).elim (h y) (h2 y)
section
variable {α:Type} {ss:α→List St} {ya:α→List Tok→Prop}
theorem seq_steps (H:∀a u,ya a u→StepsY (ss a) u):∀(xs:List (α×Rep)) (x:α×Rep) (u:List Tok),yReps ya (x::xs) u→StepsY (seqS ss x xs) u:=by
 intro xs
 induction xs with
 | nil =>
  intro x u h
  obtain ⟨v,r,e,⟨v1,r1,e1,h1,h3⟩,h2⟩:=h
  exact (H _ _ h1).wide (by rw [e,e1];simp only [List.length_append];omega)
 | cons y ys ih =>
  intro x u h
  obtain ⟨v,r,e,⟨v1,r1,e1,h1,h3⟩,h2⟩:=h
  exact ((H _ _ h1).wide (by rw [e,e1];simp only [List.length_append];omega)).append ((ih y r h2).wide (by rw [e];simp))
theorem alt_steps (H:∀a u,ya a u→StepsY (ss a) u):∀(ts:List (SeqOf α)) (s:SeqOf α) (v r:List Tok),ySeq ya s v→yAlts ya ts r→StepsY (altS ss s ts) (v++r):=by
 intro ts
 induction ts with
 | nil=>intro s v r h1 h2;exact (seq_steps H _ _ _ h1).wide (by simp)
 | cons t ts ih =>
  intro s v r h1 h2
  obtain ⟨p,v',r',e,h3,h4⟩:=h2
  subst e
  exact ((seq_steps H _ _ _ h1).wide (by simp)).append ((ih t v' r' h3 h4).wide (by simp;omega))
end
theorem atom_steps:∀(n:Nat) (a:Atom n) (u:List Tok),yAtom n a u→StepsY (atomS n a) u:=by
 intro n
 induction n with
 | zero=>intro a u h y hy;obtain rfl:=List.mem_singleton.1 hy;exact ⟨u,h,Nat.le_refl _⟩
 | succ n ih =>
  intro a u h
  cases a with
  | inl s=>intro y hy;obtain rfl:=List.mem_singleton.1 hy;exact ⟨u,h,Nat.le_refl _⟩
  | inr t =>
   obtain ⟨p,v,q,e,v1,r1,e1,h1,h2⟩:=h
   subst e;subst e1
   exact (alt_steps ih t.2 t.1 v1 r1 h1 h2).wide (by simp;omega)
theorem yTsts_lenR:∀(ts:List Tst) (v:List Tok),yTsts ts v→ts.length≤v.length:=by
 intro ts
 induction ts with
 | nil=>intro v h;simp
 | cons t ts ih =>
  intro v h
  cases ts with
  | nil=>obtain ⟨a,p,_,e⟩:=h;subst e;simp
  | cons t2 ts=>obtain ⟨a,p,v',_,e,hv⟩:=h;subst e;have:=ih v' hv;simp at this ⊢;omega
theorem alt_tests {t:AltOf (Atom 8)} {u:List Tok} (h:yAlt (yAtom 8) t u) (hu:u.length≤1000):∀y∈altS (atomS 8) t.1 t.2,y.tests.length≤1000:=by
 obtain ⟨v,r,e,h1,h2⟩:=h
 intro y hy
 obtain ⟨z,⟨c,a,b,e1,_,_,_,hb⟩,h4⟩:=alt_steps (atom_steps 8) t.2 t.1 v r h1 h2 y hy
 rw [←e] at h4
 rcases hb with ⟨e2,_⟩ | ⟨p,v',e2,hv⟩
 ·rw [e2];simp
 ·have:=yTsts_lenR _ _ hv
  rw [e1,e2] at h4
  simp at h4;omega
end
open Value (bool)
def dress (sts:List St):List (St×Value):=sts.map (fun s=>(s,bool false))
theorem dress_map (sts:List St):(dress sts).map (·.1)=sts:=by
 induction sts with
 | nil=>rfl
 | cons a r ih=>exact congrArg (a :: ·) ih
theorem isNew_congr {a b:List (St×Value)} (h:a.map (·.1)=b.map (·.1)) (i:Nat) (n:Int):isNew a i n=isNew b i n:=by
 have key:∀l:List (St×Value),(l.take i).all (fun y=>y.1.name != n)=((l.map (·.1)).take i).all (fun s=>s.name != n):=by
  intro l
  rw [←List.map_take,List.all_map]
  rfl
 unfold isNew
 rw [key a,key b,h]
theorem slotsTo_congr {a b:List (St×Value)} (h:a.map (·.1)=b.map (·.1)):∀i,slotsTo a i=slotsTo b i:=by
 intro i
 induction i with
 | zero=>rfl
 | succ i ih =>
  have hg:a[i]?.map (·.1)=b[i]?.map (·.1):=by
   have:=congrArg (fun l=>l[i]?) h
   simpa using this
  simp only [slotsTo]
  cases ea:a[i]? with
  | none =>
   cases eb:b[i]? with
   | none=>simpa using ih
   | some y=>rw [ea,eb] at hg;simp at hg
  | some x =>
   cases eb:b[i]? with
   | none=>rw [ea,eb] at hg;simp at hg
   | some y =>
    rw [ea,eb] at hg
    simp at hg
    simp only [hg,isNew_congr h,ih]
section
def termsOf (s:St):List (Int×Int):=s.tests.flatMap (fun t=>[(t.left.of,t.left.field),(t.right.of,t.right.field),(t.more.of,t.more.field)])
def rulesOf (sts:List St):Rules where
 nm:=fun k=>((sts[k]?).map (·.name)).getD (-1)
 kd:=fun k=>((sts[k]?).map (·.kind)).getD 0
 tr:=fun k=>((sts[k]?).map termsOf).getD []
theorem rules_at {sts:List St} {k:Nat} {y:St} (h:sts[k]? = some y):(rulesOf sts).nm k=y.name∧(rulesOf sts).kd k=y.kind∧(rulesOf sts).tr k=termsOf y:=by
 simp [rulesOf,h]
structure StY (y:St):Prop where
 kind:0≤y.kind∧y.kind≤4
 name:y.name = -1∨(0≤y.name∧y.name<26)
 terms:∀q∈termsOf y,(0≤q.1∧q.1≤27)∧0≤q.2∧q.2≤3
def hkP (l:List Int) (a:Int):Prop:=0≤hasF l a
def hfP (l:List Int) (a f:Int):Prop:=hasFd l a f=true
theorem schema_all {l:List Int} (h:schemaB l=true):(∀c∈l,48≤c∧c≤51)∧0<l.length∧l.length≤4:=by
 simp only [schemaB,Bool.and_eq_true,decide_eq_true_eq,List.all_eq_true] at h
 refine ⟨fun c hc => ?_,h.1.2,h.2⟩
 have:=h.1.1 c hc
 simp at this
 omega
theorem scF_nonneg {l:List Int} (h:schemaB l=true) (k:Nat):0≤scF l k:=by
 unfold scF
 split
 ·rename_i hk
  have:=(schema_all h).1 l[k] (List.getElem_mem hk)
  omega
 ·omega
theorem hasF_in {l:List Int} {a:Int} (h:0≤a∧a<l.length) (h4:¬a=4):hasF l a=scF l a.toNat:=by
 have hk:a.toNat<l.length:=by omega
 simp only [hasF,if_neg h4,if_pos h,scF,hk,dif_pos]
 rw [List.getD_eq_getElem?_getD,List.getElem?_eq_getElem hk]
 rfl
theorem hkP_iff {l:List Int} (h:schemaB l=true) (a:Int):hkP l a↔a=4∨hasK l a=true:=by
 obtain ⟨h1,h2,h3⟩:=schema_all h
 unfold hkP hasK
 simp only [Bool.and_eq_true,decide_eq_true_eq]
 by_cases h4:a=4
 ·subst h4;simp [hasF]
 ·by_cases hi:0≤a∧a<l.length
  ·rw [hasF_in hi h4]
   exact ⟨fun _=>Or.inr hi,fun _=>scF_nonneg h _⟩
  ·simp only [hasF,if_neg h4,if_neg hi]
   constructor
   ·intro h;omega
   ·rintro (h|h)
    ·exact absurd h h4
    ·exact absurd h hi
section
variable {t:AltOf (Atom 8)} {l:List Int}
end
end
theorem fieldV_le (c:Int):0≤fieldV c∧fieldV c≤3:=by
 unfold fieldV
 split
 ·omega
 ·split
  ·omega
  ·split <;> omega
theorem yTm_all {t:Tm} {u:List Tok} (h:yTm t u):(0≤t.of∧t.of≤27)∧0≤t.field∧t.field≤3:=by
 rcases h with ⟨_,_,_,e⟩ | ⟨c,p,_,_,e⟩ | ⟨n,p,c,q,_,hn,_,e⟩
 ·subst e;simp
 ·subst e;have:=fieldV_le c;simp;omega
 ·subst e
  have:=fieldV_le c
  rw [isName_iff] at hn
  simp only
  omega
theorem yTst_all {t:Tst} {u:List Tok} (h:yTst t u):∀q∈[(t.left.of,t.left.field),(t.right.of,t.right.field),(t.more.of,t.more.field)],(0≤q.1∧q.1≤27)∧0≤q.2∧q.2≤3:=by
 obtain ⟨a,r,p,b,ya,yb,_,_,h⟩:=h
 have h3:(0≤t.more.of∧t.more.of≤27)∧0≤t.more.field∧t.more.field≤3:=by
  rcases h with ⟨_,_,e⟩ | ⟨d,q,m,_,ym,_,_⟩
  ·rw [e];simp [tm0]
  ·exact yTm_all ym
 intro q hq
 simp only [List.mem_cons,List.not_mem_nil,or_false] at hq
 rcases hq with e|e|e
 ·subst e;exact yTm_all ya
 ·subst e;exact yTm_all yb
 ·subst e;exact h3
theorem yTsts_all:∀(ts:List Tst) (u:List Tok),yTsts ts u→∀t∈ts,∃v,yTst t v:=by
 intro ts
 induction ts with
 | nil=>intro u h q hq;cases hq
 | cons t ts ih =>
  intro u h q hq
  cases ts with
  | nil =>
   obtain ⟨a,p,ha,_⟩:=h
   rw [List.mem_singleton.1 hq];exact ⟨a,ha⟩
  | cons t2 ts =>
   obtain ⟨a,p,v,ha,_,hv⟩:=h
   rcases List.mem_cons.1 hq with e|e
   ·rw [e];exact ⟨a,ha⟩
   ·exact ih v hv q e
theorem sty_of {y:St} {u:List Tok} (h:ySt y u):StY y:=by
 obtain ⟨c,a,b,_,hc,hk,hn,hb⟩:=h
 refine ⟨by rw [hk];exact kindV_bounds hc,?_,?_⟩
 ·rcases hn with ⟨h,_⟩ | ⟨n,p,h1,_,h2⟩
  ·exact Or.inl h
  ·rw [isName_iff] at h1
   exact Or.inr (by omega)
 ·intro q hq
  obtain ⟨t,ht,hqt⟩:=List.mem_flatMap.1 hq
  rcases hb with ⟨e,_⟩ | ⟨p,v,_,hv⟩
  ·rw [e] at ht;cases ht
  ·obtain ⟨w,hw⟩:=yTsts_all _ _ hv t ht
   exact yTst_all hw q hqt
theorem alt_sty {s:ByteArray} {t:AltOf (Atom 8)} {o:Option Int} {x:List Tok} (hp:pTopOf (pAtom 8) (toks 0 (bI s))=(some (t,o),x)):(∀y∈altS (atomS 8) t.1 t.2,StY y)∧(altTr (atomTr 8) t).Reps:=by
 obtain ⟨u,⟨v,r,e,h1,h2⟩,_⟩:=pTop_y hp
 refine ⟨?_,alt_reps (atom_reps 8) t u ⟨v,r,e,h1,h2⟩⟩
 intro y hy
 obtain ⟨z,hz,_⟩:=alt_steps (atom_steps 8) t.2 t.1 v r h1 h2 y hy
 exact sty_of hz
def LargeP (t:Nt) (sts:List St):Prop:=4<(slotsTo (dress sts) sts.length).length∨(∃y∈sts,4<y.tests.length)∨24<t.long
def ProgT (l:List Int) (t:AltOf (Atom 8)) (f p:Int):Prop :=
 (∃k y,(altS (atomS 8) t.1 t.2)[k]? = some y∧¬rightS (rulesOf (altS (atomS 8) t.1 t.2)) (hkP l) (hfP l) (altT (atomT 8) t.1 t.2) k∧(∀j,j<k→rightS (rulesOf (altS (atomS 8) t.1 t.2)) (hkP l) (hfP l) (altT (atomT 8) t.1 t.2) j)∧f=4∧p=y.pos) ∨
 ((∀j,j<(altS (atomS 8) t.1 t.2).length→rightS (rulesOf (altS (atomS 8) t.1 t.2)) (hkP l) (hfP l) (altT (atomT 8) t.1 t.2) j)∧LargeP (altTr (atomTr 8) t) (altS (atomS 8) t.1 t.2)∧f=5∧p=0) ∨
 ((∀j,j<(altS (atomS 8) t.1 t.2).length→rightS (rulesOf (altS (atomS 8) t.1 t.2)) (hkP l) (hfP l) (altT (atomT 8) t.1 t.2) j)∧¬LargeP (altTr (atomTr 8) t) (altS (atomS 8) t.1 t.2)∧f=0∧p=0)
def SayP (w:World) (p:Prop) (e:Ending) (w':World):Prop:=∃b:Bool,e=.returned (.bool b)∧(b=true↔p)∧Nw w w'
structure StsM (w:World) (g n:Nat) (nm kd:Nat→Int):Prop where
 lt:g<w.heap.size
 k:∀i,i<n→w.cell? ⟨g,i*4+1,none⟩=some (.int .i64 (kd i))
 m:∀i,i<n→w.cell? ⟨g,i*4+2,none⟩=some (.int .i64 (nm i))
theorem StsM.nw {w w':World} {g n:Nat} {nm kd:Nat→Int} (h:StsM w g n nm kd) (k:Nw w w'):StsM w' g n nm kd :=
 ⟨Nat.lt_of_lt_of_le h.lt k.size,fun i hi=>(k.cell h.lt (fun h=>h)).trans (h.k i hi),fun i hi=>(k.cell h.lt (fun h=>h)).trans (h.m i hi)⟩
theorem StsM.le {w:World} {g n m:Nat} {nm kd:Nat→Int} (h:StsM w g n nm kd) (hm:m≤n):StsM w g m nm kd :=
 ⟨h.lt,fun i hi=>h.k i (by omega),fun i hi=>h.m i (by omega)⟩
theorem firstOf_is {nm:Nat→Int} {x:Int} {n i:Nat} (hi:i<n) (he:nm i=x) (hb:∀j,j<i→¬nm j=x):firstOf nm x n=i:=by
 obtain ⟨f1,f2⟩:=firstOf_spec nm x n
 by_cases h:firstOf nm x n<n
 ·obtain ⟨g1,g2⟩:=f1 h
  by_cases c:firstOf nm x n<i
  ·exact absurd g1 (hb _ c)
  ·by_cases d:i<firstOf nm x n
   ·exact absurd he (g2 i d)
   ·omega
 ·exact absurd he ((f2 h).2 i hi)
theorem firstOf_no {nm:Nat→Int} {x:Int} {n:Nat} (hb:∀j,j<n→¬nm j=x):firstOf nm x n=n:=by
 obtain ⟨f1,f2⟩:=firstOf_spec nm x n
 by_cases h:firstOf nm x n<n
 ·exact absurd (f1 h).1 (hb _ h)
 ·exact (f2 h).1
theorem box2 {w w1:World} {A B:Array Value} {t u:TypeId} (k:Nw ((w.alloc (.cells A t)).alloc (.cells B u)) w1) :
  (∀(j:Nat) v,A[j]? = some v→w1.cell? ⟨w.heap.size,j,none⟩=some v)∧(∀(j:Nat) v,B[j]? = some v→w1.cell? ⟨w.heap.size+1,j,none⟩=some v)∧w.heap.size+1<w1.heap.size∧Nw w w1:=by
 have hs:((w.alloc (.cells A t)).alloc (.cells B u)).heap.size=w.heap.size+2:=by simp
 refine ⟨fun j v hv => ?_,fun j v hv => ?_,by have:=k.size;omega,(((Kp.refl _ w).alloc _).alloc _).trans k⟩
 ·rw [k.cell (by show w.heap.size<_;omega) (fun h=>h)]
  rw [←hv]
  simp [go_sem,World.cell?_alloc_at]
 ·rw [k.cell (by show w.heap.size+1<_;omega) (fun h=>h)]
  rw [←hv]
  simp [go_sem,World.cell?_alloc_at]
theorem firstNamed_any (g n c:Nat) (nm kd:Nat→Int) (x:Int) (w:World) (h:StsM w g n nm kd) (hn:n≤10000) :
  Calls Tryz.prog 94 #[.slice (some ⟨g,0,none⟩) n c,.int .i64 x] w fun e w'=>e=.returned (.int .i64 (firstOf nm x n:Nat))∧Nw w w':=by
 have H:Hid (StsM w g n nm kd):=h
 clear h
 go_enter Tryz.func94,Tryz.ntmps94
 go_wp2
 go_loopg [5] n (fun m v wr=>∃i:Nat,v=.int .i64 i∧m=n - i∧i≤n∧(∀j,j<i→¬nm j=x)∧Nw w wr)
 case atStart=>exact ⟨0,rfl,rfl,by omega,(fun j hj=>by omega),Kp.refl _ _⟩
 case round =>
  obtain ⟨i,rfl,hm,hi,hb,hk⟩:=hrel
  have HB:Hid (∀j,j<i→¬nm j=x):=hb
  have HK:Hid (Nw w wr):=hk
  have HM:Hid (_=n - i):=hm
  clear hb hm
  by_cases hil:i<n
  ·have d:=(H.out.nw hk).m i hil
   clear hk
   by_cases he:nm i=x
   ·have he':(nm i == x)=true:=by simp [he]
    have HE:Hid (firstOf nm x n=i):=firstOf_is hil he HB.out
    clear he
    generalize nm i=y at *
    go_wp2
    go_ret
    exact ⟨by rw [HE.out];rfl,HK.out⟩
   ·have he':(nm i == x)=false:=by simp [he]
    have HB2:Hid (∀j,j<i+1→¬nm j=x):=by
     intro j hj
     by_cases e:j=i
     ·subst e;exact he
     ·exact HB.out j (by omega)
    clear he
    generalize nm i=y at *
    go_wp2
    go_roundg (n - (i+1))
    case measure=>rw [HM.out];omega
    case rel=>exact ⟨i+1,by simp,rfl,by omega,HB2.out,HK.out⟩
  ·have hie:i=n:=by omega
   subst hie
   have HE:Hid (firstOf nm x i=i):=firstOf_no HB.out
   clear hk
   go_wp2
   go_ret
   exact ⟨by rw [HE.out];rfl,HK.out⟩
def TermR (l:List Int) (nm kd:Nat→Int) (S:Nat) (k:Nat) (kind of fd:Int):Prop :=
 of=0∨(of=1∧hasFd l kind fd=true)∨(2≤of∧hasN S (of - 2)=true∧firstOf nm (of - 2) k<k∧hasFd l (kd (firstOf nm (of - 2) k)) fd=true)
theorem termR_any (l:List Int) (hl:l.length≤4) (g k c:Nat) (nm kd:Nat→Int) (S:Nat) (hS:S<2 ^ 26) (kind of fd num:Int) (hof:0≤of∧of≤27) (w:World) (h:StsM w g k nm kd) (hn:k≤10000) :
  Calls Tryz.prog 95 #[schV l,.slice (some ⟨g,0,none⟩) k c,.int .i64 kind,.agg #[.int .i64 of,.int .i64 fd,.int .i64 num],.int .i64 S] w (SayP w (TermR l nm kd S k kind of fd)):=by
 have H:Hid (StsM w g k nm kd):=h
 have hlt:=h.lt
 obtain ⟨hof0,hof1⟩:=hof
 clear h
 have HHF:Hid (∀a b W,Calls Tryz.prog 82 #[schV l,.int .i64 a,.int .i64 b] W fun e w'=>e=.returned (.bool (hasFd l a b))∧Nw W w'):=fun a b W=>hasField_any l a b W hl
 by_cases h0:of=0
 ·have g0:(of == 0)=true:=by simp [h0]
  have HP:Hid (TermR l nm kd S k kind of fd):=Or.inl h0
  generalize TermR l nm kd S k kind of fd=pp at *
  clear h0
  unfold schV
  go_enter Tryz.func95,Tryz.ntmps95
  go_wp2
  go_ret
  exact ⟨true,rfl,⟨fun _=>HP.out,fun _=>rfl⟩,by first|exact (Kp.refl _ w).alloc _|exact ((Kp.refl _ w).alloc _).alloc _⟩
 ·have g0:(of == 0)=false:=by simp [h0]
  by_cases h1:of=1
  ·have g1:(of == 1)=true:=by simp [h1]
   have HP:Hid (TermR l nm kd S k kind of fd↔hasFd l kind fd=true):=by
    constructor
    ·rintro (h|⟨_,h⟩ | ⟨h,_⟩)
     ·exact absurd h h0
     ·exact h
     ·omega
    ·intro h;exact Or.inr (Or.inl ⟨h1,h⟩)
   generalize TermR l nm kd S k kind of fd=pp at *
   clear h1 h0
   unfold schV at *
   go_enter Tryz.func95,Tryz.ntmps95
   go_wp2_with fail
   refine (HHF.out _ _ _).mono ?_
   rintro e w1 ⟨rfl,k1⟩
   generalize hasFd l kind fd=hv at *
   go_wp2
   go_ret
   exact ⟨hv,rfl,HP.out.symm,by first|exact ((Kp.refl _ w).alloc _).trans k1|exact (((Kp.refl _ w).alloc _).alloc _).trans k1⟩
  ·have h2:2≤of:=by omega
   have g1:(of == 1)=false:=by simp [h1]
   have HP:Hid (TermR l nm kd S k kind of fd↔(hasN S (of - 2)=true∧firstOf nm (of - 2) k<k∧hasFd l (kd (firstOf nm (of - 2) k)) fd=true)):=by
    constructor
    ·rintro (h|⟨h,_⟩ | ⟨_,h⟩)
     ·exact absurd h h0
     ·exact absurd h h1
     ·exact h
    ·intro h;exact Or.inr (Or.inr ⟨h2,h⟩)
   have HFN:Hid (∀W,Nw w W→Calls Tryz.prog 94 #[.slice (some ⟨g,0,none⟩) k c,.int .i64 (of - 2)] W fun e w'=>e=.returned (.int .i64 (firstOf nm (of - 2) k:Nat))∧Nw W w'):=fun W kW=>firstNamed_any g k c nm kd (of - 2) W (H.out.nw kW) hn
   have hfl:=firstOf_le nm (of - 2) k
   have HKD:Hid (∀W,Nw w W→firstOf nm (of - 2) k<k→W.cell? ⟨g,firstOf nm (of - 2) k*4+1,none⟩=some (.int .i64 (kd (firstOf nm (of - 2) k)))):=fun W kW h=>(H.out.nw kW).k _ h
   have HHS:Hid (∀W,Calls Tryz.prog 93 #[.int .i64 S,.int .i64 (of - 2)] W fun e w'=>e=.returned (.bool (hasN S (of - 2)))∧w'=W):=fun W=>hasSet_any S (of - 2) W hS
   generalize TermR l nm kd S k kind of fd=pp at *
   generalize firstOf nm (of - 2) k=F at *
   generalize hasN S (of - 2)=B1 at *
   clear h1 h0
   unfold schV at *
   go_enter Tryz.func95,Tryz.ntmps95
   go_wp2_with fail
   refine (HFN.out _ (((Kp.refl _ w).alloc _).alloc _)).mono ?_
   rintro e w1 ⟨rfl,k1⟩
   obtain ⟨b1,b2,hl1,kk⟩:=box2 k1
   have K1:Hid (Nw w w1):=kk
   have c0:=b1 0 _ rfl
   have c1:=b1 1 _ rfl
   have c2:=b1 2 _ rfl
   have c3:=b1 3 _ rfl
   have c4:=b1 4 _ rfl
   have d0:=b2 0 _ rfl
   have d1:=b2 1 _ rfl
   have d2:=b2 2 _ rfl
   have hx:=HKD.out w1 kk
   clear b1 b2 k1 kk HFN HKD
   cases B1 with
   | false =>
    have HF:Hid (¬pp):=by intro hp;have:=(HP.out.1 hp).1;cases this
    go_wp2
    go_quiet ((go_at_call 93;refine Calls.quiet_of_same (HHS.out _)))
    go_wp2
    go_ret
    exact ⟨false,rfl,⟨(fun h=>by cases h),fun h=>absurd h HF.out⟩,by first|exact K1.out|exact K1.out.drewN _⟩
   | true =>
    by_cases hF:F=k
    ·have g2:decide (F<k)=false:=by simp;omega
     have HF:Hid (¬pp):=by intro hp;have:=(HP.out.1 hp).2.1;omega
     clear hx hF
     go_wp2
     go_quiet ((go_at_call 93;refine Calls.quiet_of_same (HHS.out _)))
     go_wp2
     go_ret
     exact ⟨false,rfl,⟨(fun h=>by cases h),fun h=>absurd h HF.out⟩,by first|exact K1.out|exact K1.out.drewN _⟩
    ·have hFk:F<k:=by omega
     have g2:decide ((F:Int)<(k:Int))=true:=by simp;omega
     have g3:(F:Int)<(k:Int):=by omega
     have hcF:=hx hFk
     have hgl:g<w1.heap.size:=Nat.lt_of_lt_of_le hlt K1.out.size
     have HT:Hid (hasFd l (kd F) fd=true↔pp):=by
      constructor
      ·intro h;exact HP.out.2 ⟨rfl,hFk,h⟩
      ·intro h;exact (HP.out.1 h).2.2
     clear hx hF HP
     generalize kd F=kF at *
     have HHV:Hid (∀W,Calls Tryz.prog 82 #[.agg #[.int .i64 l.length,.int .i64 (scF l 0),.int .i64 (scF l 1),.int .i64 (scF l 2),.int .i64 (scF l 3)],.int .i64 kF,.int .i64 fd] W fun e w'=>e=.returned (.bool (hasFd l kF fd))∧Nw W w'):=fun W=>HHF.out kF fd W
     generalize hasFd l kF fd=hv at *
     have HSW:Hid (∀W,Nw w1 W→(W.cell? ⟨w.heap.size,0,none⟩=some (.int .i64 l.length)∧W.cell? ⟨w.heap.size,1,none⟩=some (.int .i64 (scF l 0))∧W.cell? ⟨w.heap.size,2,none⟩=some (.int .i64 (scF l 1))∧W.cell? ⟨w.heap.size,3,none⟩=some (.int .i64 (scF l 2))∧W.cell? ⟨w.heap.size,4,none⟩=some (.int .i64 (scF l 3))∧W.cell? ⟨w.heap.size+1,1,none⟩=some (.int .i64 fd)∧W.cell? ⟨g,F*4+1,none⟩=some (.int .i64 kF))):=by
      intro W kW
      have y0:w.heap.size<w1.heap.size:=by omega
      exact ⟨(kW.cell y0 (fun h=>h)).trans c0,(kW.cell y0 (fun h=>h)).trans c1,(kW.cell y0 (fun h=>h)).trans c2,(kW.cell y0 (fun h=>h)).trans c3,(kW.cell y0 (fun h=>h)).trans c4,(kW.cell hl1 (fun h=>h)).trans d1,(kW.cell hgl (fun h=>h)).trans hcF⟩
     go_wp2
     go_region_held3 (fun w'=>w'.cell? ⟨w.heap.size,0,none⟩=some (.int .i64 l.length)∧w'.cell? ⟨w.heap.size,1,none⟩=some (.int .i64 (scF l 0))∧w'.cell? ⟨w.heap.size,2,none⟩=some (.int .i64 (scF l 1))∧w'.cell? ⟨w.heap.size,3,none⟩=some (.int .i64 (scF l 2))∧w'.cell? ⟨w.heap.size,4,none⟩=some (.int .i64 (scF l 3))∧w'.cell? ⟨w.heap.size+1,1,none⟩=some (.int .i64 fd)∧w'.cell? ⟨g,F*4+1,none⟩=some (.int .i64 kF)) (first|exact HSW.out _ (Kp.refl _ _)|exact HSW.out _ ((Kp.refl _ _).drewN _)|exact HSW.out _ (((Kp.refl _ _).drewN _).trans k9)|exact HSW.out _ k9)
      ((first|(go_at_call 93;refine (HHS.out _).mono ?_;rintro e9 w9 ⟨rfl,rfl⟩)|(go_at_call 82;refine (HHV.out _).mono ?_;rintro e9 w9 ⟨rfl,k9⟩)))
     all_goals
      go_wp2
      go_ret
      exact ⟨hv,rfl,HT.out,by first|exact K1.out.trans k9|exact (K1.out.drewN _).trans k9|exact ((K1.out.drewN _).trans k9).drewN _⟩
end Go.Proofs.YtcboiapggnmpfaaGreatDoor
