import Derived.Test.YtcboiapggnmpfabGreatDoorQac
import Derived.Test.YtcboiapggnmpfabGreatDoorQaa
import Derived.Deep.AppendLies
import Derived.OwnWalk
import Derived.OneCell
import Derived.Laws.MakeOwn
import Derived.Deep.MidRow
import Derived.Deep.LoopGhost
import Derived.Laws.CopyOwn
import Derived.Test.YtcboiapggnmpfabGreatDoorQab
import Derived.Test.YtcboiapggnmpfabGreatDoorRows
import Derived.WalkKit
import Derived.WalkSpells
import Derived.WalkLawsBesides
import Derived.Deep.Light
import Derived.Deep.RegionLaw
import Derived.Deep.DrawnRows
import Derived.Deep.RegionWith
import Derived.Deep.RegionHeld3
import Derived.Deep.QuietTactic
namespace Go.Proofs.YtcboiapggnmpfabGreatDoor
set_option maxRecDepth 100000
set_option maxHeartbeats 1000000
set_option linter.unusedSimpArgs false
set_option linter.unusedVariables false
open Go.RowKit
abbrev Nw (w w':World):Prop:=Kp (fun _=>False) w w'
structure Sm (W w1:World) (B:Nat):Prop where
 cell:∀o,w1.cell? ⟨B,o,none⟩=W.cell? ⟨B,o,none⟩
 froz:∀o,w1.frozen? ⟨B,o,none⟩=W.frozen? ⟨B,o,none⟩
theorem Sm.trans {a b c:World} {B:Nat} (h:Sm b c B) (k:Sm a b B):Sm a c B:=⟨fun o=>(h.cell o).trans (k.cell o),fun o=>(h.froz o).trans (k.froz o)⟩
theorem Kp.sm {S:Nat→Prop} {W w1:World} {B:Nat} (h:Kp S W w1) (hB:B<W.heap.size) (hs:¬S B):Sm W w1 B:=⟨fun o=>h.cell hB hs,fun o=>h.frozen hB hs⟩
theorem Kp.box {S:Nat→Prop} {w w1:World} {o:Obj} (k:Kp S (w.alloc o) w1) (hs:¬S w.heap.size):Kp S w w1∧w.heap.size<w1.heap.size∧Sm (w.alloc o) w1 w.heap.size :=
 ⟨((Kp.refl S w).alloc _).trans k,Nat.lt_of_lt_of_le (by simp) k.size,k.sm (by simp) hs⟩
theorem Kp.keeps {S:Nat→Prop} {W w1 w2:World} {B:Nat} (k:Kp S w1 w2) (s:Sm W w1 B) (h:B<w1.heap.size) (hs:¬S B):B<w2.heap.size∧Sm W w2 B :=
 ⟨Nat.lt_of_lt_of_le h k.size,(k.sm h hs).trans s⟩
theorem ret_b {a b:Bool} (h:a=b):Ending.returned (.bool a)=.returned (.bool b):=by rw [h]
open Value (int bool)
def Row (w:World) (g:Nat) (e:TypeId) (vs:List Value):Prop:=w.heap[g]? = some (.cells vs.toArray e (0,0))
theorem Row.lt {w:World} {g:Nat} {e:TypeId} {vs:List Value} (h:Row w g e vs):g<w.heap.size:=(Array.getElem?_eq_some_iff.1 h).1
theorem Row.cell {w:World} {g:Nat} {e:TypeId} {vs:List Value} (h:Row w g e vs) (k:Nat):w.cell? ⟨g,k,none⟩=vs[k]?:=by
 rw [cell_of_row w g k _ e _ h];simp
theorem Row.froz {w:World} {g:Nat} {e:TypeId} {vs:List Value} (h:Row w g e vs) (k:Nat):w.frozen? ⟨g,k,none⟩=false:=frozen_of_row w g k _ e h
theorem Row.set {w:World} {g:Nat} {e:TypeId} {vs:List Value} (h:Row w g e vs) (k:Nat) (v:Value):Row (w.setCell ⟨g,k,none⟩ v) g e (vs.set k v):=by
 have:=heap_setCell_same w g k _ e v h
 rw [Row,this]
 simp
theorem Row.kp {S:Nat→Prop} {w w':World} {g:Nat} {e:TypeId} {vs:List Value} (h:Row w g e vs) (k:Kp S w w') (hs:¬S g):Row w' g e vs:=by
 rw [Row,k.block g h.lt hs];exact h
theorem Row.grown {w w':World} {g:Nat} {e:TypeId} {vs:List Value} {row:Option Nat} (h:Row w g e vs) (k:w.grownBy w' row) (hs:¬some g=row):Row w' g e vs:=by
 rw [Row,k.block g h.lt hs];exact h
theorem Row.alloc {w:World} {g:Nat} {e:TypeId} {vs:List Value} (h:Row w g e vs) (o:Obj):Row (w.alloc o) g e vs:=by
 rw [Row,Below.heap_alloc _ _ _ h.lt];exact h
theorem Row.new (w:World) (vs:List Value) (e:TypeId):Row (w.alloc (.cells vs.toArray e)) w.heap.size e vs:=by
 exact heap_alloc_new w _
theorem Row.of_full {w:World} {base g n:Nat} {e:TypeId} {xs:List Value} (h:w.ownsRow base e 1 (.slice (some ⟨g,0,none⟩) n n) n xs):Row w g e xs:=by
 obtain ⟨h1,h2⟩:=h
 rcases h2 with ⟨h2,_⟩ | ⟨g',cap,cur,h2,_,h3,_,_,h4,h5⟩
 ·simp at h2
 ·simp at h2
  obtain ⟨rfl,rfl⟩:=h2
  rw [Row,h3]
  have:cur.toList=xs:=by
   rw [←h5,List.take_of_length_le]
   simp [h4]
  rw [←this]
theorem owns_new (w:World) {base:Nat} (hb:base≤w.heap.size) (e:TypeId) (vs:Array Value) (n size:Nat) (hn:vs.size=n*size) (hm:n≤maxLen):(w.alloc (.cells vs e)).ownsRow base e size (.slice (some ⟨w.heap.size,0,none⟩) n n) n vs.toList:=by
 refine ⟨by simpa using hn,Or.inr ⟨w.heap.size,n,vs,rfl,hb,heap_alloc_new w _,Nat.le_refl _,hm,hn,?_⟩⟩
 rw [List.take_of_length_le]
 simp [hn]
theorem owns_cell {w:World} {base g n cap size:Nat} {e:TypeId} {xs:List Value} (h:w.ownsRow base e size (.slice (some ⟨g,0,none⟩) n cap) n xs) (k:Nat) {v:Value} (hk:xs[k]? = some v):w.cell? ⟨g,k,none⟩=some v:=by
 obtain ⟨h1,h2⟩:=h
 rcases h2 with ⟨h2,_⟩ | ⟨g',cap',cur,h2,_,h3,_,_,h4,h5⟩
 ·simp at h2
 ·simp at h2
  obtain ⟨rfl,rfl⟩:=h2
  rw [cell_of_row w g k _ e _ h3,←Array.getElem?_toList]
  have hlt:k<n*size:=by rw [←h1];exact (List.getElem?_eq_some_iff.1 hk).1
  have:(cur.toList.take (n*size))[k]? = some v:=by rw [h5];exact hk
  rwa [List.getElem?_take_of_lt hlt] at this
theorem owns_row_ne {w:World} {base n size g:Nat} {e e2:TypeId} {v:Value} {xs vs:List Value} (h:w.ownsRow base e size v n xs) (h2:Row w g e2 vs) (hne:¬e=e2):¬some g=v.ownBlock:=by
 intro hg
 rcases h.2 with ⟨rfl,_⟩ | ⟨g',cap,cur,rfl,_,h3,_⟩
 ·simp [Value.ownBlock] at hg
 ·simp [Value.ownBlock] at hg
  subst hg
  rw [Row,h3] at h2
  simp only [Option.some.injEq,Obj.cells.injEq] at h2
  exact hne h2.2.1
theorem owns_kp {S:Nat→Prop} {w w':World} {base n size:Nat} {e:TypeId} {v:Value} {xs:List Value} (h:w.ownsRow base e size v n xs) (k:Kp S w w') (hs:∀g,v.ownBlock=some g→¬S g):w'.ownsRow base e size v n xs:=by
 refine ⟨h.1,?_⟩
 rcases h.2 with hn|⟨g,cap,cur,rfl,hb,hg,rest⟩
 ·exact .inl hn
 ·refine .inr ⟨g,cap,cur,rfl,hb,?_,rest⟩
  rw [k.block g (Array.getElem?_eq_some_iff.1 hg).1 (hs g rfl)]
  exact hg
theorem made_bools (n:Nat):(madeCells #[bool false] n).toList=(List.replicate n false).map bool:=by
 have hx:∀x:Nat,(#[bool false]:Array Value)[x % (#[bool false]:Array Value).size]! = bool false:=by
  intro x
  have:x % (#[bool false]:Array Value).size=0:=by simp;omega
  rw [this];rfl
 simp only [madeCells,hx]
 apply List.ext_getElem?
 intro k
 simp [List.getElem?_replicate]
 by_cases h:k<n
 ·simp [h]
 ·simp [h]
def intsV (ns:List Nat):List Value:=ns.map (fun (n:Nat)=>int .i64 (n:Int))
theorem intsV_one (ns:List Nat):∀u∈intsV ns,u.oneCell'=true:=by
 intro u hu
 simp [intsV] at hu
 obtain ⟨n,_,rfl⟩:=hu
 rfl
theorem Row.setCells {g:Nat} {e:TypeId}:∀(vs:List Value) (w:World) (o:Nat) (xs ys zs:List Value),Row w g e (xs++(ys++zs))→xs.length=o→ys.length=vs.length→Row (w.setCells g o vs) g e (xs++(vs++zs)):=by
 intro vs
 induction vs with
 | nil =>
  intro w o xs ys zs h _ hl
  have:ys=[]:=List.eq_nil_of_length_eq_zero (by simpa using hl)
  subst this
  simpa [World.setCells] using h
 | cons v r ih =>
  intro w o xs ys zs h ho hl
  cases ys with
  | nil=>simp at hl
  | cons y ys =>
   have h1:=h.set o v
   have e1:(xs++(y::ys++zs)).set o v=(xs++[v])++(ys++zs):=by
    rw [List.set_append_right _ _ (by omega),ho,Nat.sub_self]
    simp
   rw [e1] at h1
   have h2:=ih (w.setCell ⟨g,o,none⟩ v) (o+1) (xs++[v]) ys zs h1 (by simp [ho]) (by simpa using hl)
   simp only [World.setCells]
   simpa using h2
theorem Kp.setCells {S:Nat→Prop} {a:World} {g:Nat} (hg:a.heap.size≤g∨S g):∀(vs:List Value) (w:World) (o:Nat),Kp S a w→Kp S a (w.setCells g o vs):=by
 intro vs
 induction vs with
 | nil=>intro w o h;exact h
 | cons v r ih=>intro w o h;exact ih _ _ (h.setCell (p:=⟨g,o,none⟩) hg v)
theorem wpList_store_Row {P:Program} {ops:Array Oper} {rest:List Oper} {op:Oper} {a:Act} {w:World} {Q:Exit→Act→World→Prop} (hgd:op.guard=none) (ty:TypeId) (x y:Operand) (ho:op.op=.store ty x y)
  (b o:Nat) (cs:List Value) (hx:a.eval x=.pointer (some ⟨b,o,none⟩)) (hy:a.eval y=.agg cs.toArray) (e:TypeId) (xs ys zs:List Value) (hr:Row w b e (xs++(ys++zs))) (hxo:xs.length=o) (hl:ys.length=cs.length)
  (hi:(P.info? ty).map (·.size)=some cs.length) (h1:∀v∈cs,v.oneCell'=true)
  (h:∀w',Row w' b e (xs++(cs++zs))→Kp (fun k=>k=b) w w'→wpList P ops Q rest (a.put op.dst undef) w'):wpList P ops Q (op::rest) a w:=by
 refine wpList_store_mid hgd ty x y ho b o cs.toArray hx hy ?_ (by simpa using hi) (all_oneCell_toArray h1) ?_
 ·intro j hj
  have hj':j<cs.length:=by simpa using hj
  refine ⟨?_,hr.froz _⟩
  rw [hr.cell,List.getElem?_append_right (by omega),List.getElem?_append_left (by omega)]
  have:o+j - xs.length<ys.length:=by omega
  simp [this]
 ·exact h _ (by simpa using Row.setCells cs w o xs ys zs hr hxo hl) (by simpa using Kp.setCells (S:=fun k=>k=b) (Or.inr rfl) cs w o (Kp.refl _ _))
def insC (x:In):List Value:=[.int .i64 x.op,.int .i64 x.a,.int .i64 x.b,.int .i64 x.test.left.of,.int .i64 x.test.left.field,.int .i64 x.test.left.num,.int .i64 x.test.rel,.int .i64 x.test.right.of,.int .i64 x.test.right.field,.int .i64 x.test.right.num,.int .i64 x.test.arith,.int .i64 x.test.more.of,.int .i64 x.test.more.field,.int .i64 x.test.more.num]
def insV (x:In):Value:=.agg #[.int .i64 x.op,.int .i64 x.a,.int .i64 x.b,.int .i64 x.test.left.of,.int .i64 x.test.left.field,.int .i64 x.test.left.num,.int .i64 x.test.rel,.int .i64 x.test.right.of,.int .i64 x.test.right.field,.int .i64 x.test.right.num,.int .i64 x.test.arith,.int .i64 x.test.more.of,.int .i64 x.test.more.field,.int .i64 x.test.more.num]
def InsAt (w:World) (b o:Nat) (x:In):Prop:=∀k v,(insC x)[k]? = some v→w.cell? ⟨b,o+k,none⟩=some v
theorem InsAt.cells {w:World} {b o:Nat} {x:In} (h:InsAt w b o x) :
  w.cell? ⟨b,o,none⟩=some (.int .i64 x.op)∧w.cell? ⟨b,o+1,none⟩=some (.int .i64 x.a)∧w.cell? ⟨b,o+2,none⟩=some (.int .i64 x.b) ∧
  w.cell? ⟨b,o+3,none⟩=some (.int .i64 x.test.left.of)∧w.cell? ⟨b,o+4,none⟩=some (.int .i64 x.test.left.field)∧w.cell? ⟨b,o+5,none⟩=some (.int .i64 x.test.left.num) ∧
  w.cell? ⟨b,o+6,none⟩=some (.int .i64 x.test.rel)∧w.cell? ⟨b,o+7,none⟩=some (.int .i64 x.test.right.of)∧w.cell? ⟨b,o+8,none⟩=some (.int .i64 x.test.right.field)∧w.cell? ⟨b,o+9,none⟩=some (.int .i64 x.test.right.num) ∧
  w.cell? ⟨b,o+10,none⟩=some (.int .i64 x.test.arith)∧w.cell? ⟨b,o+11,none⟩=some (.int .i64 x.test.more.of)∧w.cell? ⟨b,o+12,none⟩=some (.int .i64 x.test.more.field)∧w.cell? ⟨b,o+13,none⟩=some (.int .i64 x.test.more.num) :=
 ⟨h 0 _ rfl,h 1 _ rfl,h 2 _ rfl,h 3 _ rfl,h 4 _ rfl,h 5 _ rfl,h 6 _ rfl,h 7 _ rfl,h 8 _ rfl,h 9 _ rfl,h 10 _ rfl,h 11 _ rfl,h 12 _ rfl,h 13 _ rfl⟩
structure Code' (w:World) (g:Nat) (l:List In):Prop where
 lt:g<w.heap.size
 ins:∀(i:Nat) x,l[i]? = some x→InsAt w g (i*14) x
theorem Code'.kp {S:Nat→Prop} {w w':World} {g:Nat} {l:List In} (h:Code' w g l) (k:Kp S w w') (hs:¬S g):Code' w' g l :=
 ⟨Nat.lt_of_lt_of_le h.lt k.size,fun i x hx j v hv=>(k.cell (p:=⟨g,i*14+j,none⟩) h.lt hs).trans (h.ins i x hx j v hv)⟩
theorem Tryz.info4:(Tryz.prog.info? 4).map (fun i=>(i.zero,i.size,i.bytes))=some (some (.bool false),1,1):=by kernel_rfl
theorem Tryz.info3:(Tryz.prog.info? 3).map (fun i=>(i.zero,i.size,i.bytes))=some (some (.int .i64 0),1,8):=by kernel_rfl
theorem news_one (w2:World) {B:Nat} (hB:B=w2.heap.size) (cs:Array Value) (t:TypeId):∀j u,cs.toList[j]? = some u→(w2.alloc (.cells cs t)).cell? ((⟨B,0,none⟩:Addr).add j)=some u:=by
 subst hB
 exact World.news_of_block (heap_alloc_new w2 (.cells cs t))
structure Wk (w:World) (R:Nat) (cv rv ov:Value):Prop where
 c0:w.cell? ⟨R,0,none⟩=some cv
 c1:w.cell? ⟨R,1,none⟩=some rv
 c2:w.cell? ⟨R,2,none⟩=some ov
 fz:∀o,w.frozen? ⟨R,o,none⟩=false
theorem Wk.lt {w:World} {R:Nat} {cv rv ov:Value} (h:Wk w R cv rv ov):R<w.heap.size:=World.block_lt_of_cell? w ⟨R,0,none⟩ h.c0
theorem Wk.sm {w w':World} {R:Nat} {cv rv ov:Value} (h:Wk w R cv rv ov) (s:Sm w w' R):Wk w' R cv rv ov :=
 ⟨(s.cell 0).trans h.c0,(s.cell 1).trans h.c1,(s.cell 2).trans h.c2,fun o=>(s.froz o).trans (h.fz o)⟩
theorem Wk.set2 {w:World} {R:Nat} {cv rv ov:Value} (h:Wk w R cv rv ov) (v:Value):Wk (w.setCell ⟨R,2,none⟩ v) R cv rv v:=by
 obtain ⟨c0,c1,c2,fz⟩:=h
 constructor <;> simp [go_sem,c0,c1,c2,fz]
structure WS (w:World) (R g cap gb:Nat) (l:List In) (ov:Value) (bs:List Bool) (q:List Nat):Prop where
 wk:Wk w R (.slice (some ⟨g,0,none⟩) l.length cap) (.slice (some ⟨gb,0,none⟩) l.length l.length) ov
 code:Code' w g l
 row:Row w gb 4 (bs.map bool)
 own:w.ownsRow gb 3 1 ov q.length (intsV q)
 len:bs.length=l.length
 cnt:q.length+bs.count false≤l.length+1
 hg:g<gb
 hR:gb<R
 ne:¬ov.ownBlock=some R
abbrev KW (R gb:Nat) (ov:Value) (w w':World):Prop:=Kp (fun b=>b=R∨b=gb∨ov.ownBlock=some b) w w'
def ReachPostV (w:World) (R g cap gb:Nat) (l:List In) (ov:Value) (bs:List Bool) (q:List Nat) (j:Nat) (e:Ending) (w':World):Prop :=
 e=.returned (.tuple #[])∧((bs[j]? = some true∧w'=w)∨(bs[j]? = some false∧∃ov',WS w' R g cap gb l ov' (bs.set j true) (q++[j])∧Kp (fun b=>gb≤b) w w'))
theorem reach_any (R g cap gb j:Nat) (l:List In) (ov:Value) (bs:List Bool) (q:List Nat) (w:World) (h:WS w R g cap gb l ov bs q) (hj:j<l.length) (hn:l.length≤1000) :
  Calls Tryz.prog 75 #[.pointer (some ⟨R,0,none⟩),.int .i64 j] w (ReachPostV w R g cap gb l ov bs q j):=by
 have H:Hid (WS w R g cap gb l ov bs q):=h
 obtain ⟨⟨c0,c1,c2,fz⟩,hcode,hrow,hown,hlen,hcnt,hg,hR,hne⟩:=h
 have hl:R<w.heap.size:=H.out.wk.lt
 obtain ⟨i1,hi1,hy0,hy1,hy2⟩:=info_parts Tryz.info3
 obtain ⟨b,hb⟩:∃b,bs[j]? = some b:=⟨bs[j]'(by rw [hlen];exact hj),by simp [hlen,hj]⟩
 have cb:w.cell? ⟨gb,j,none⟩=some (.bool b):=by rw [hrow.cell];simp [hb]
 have fb:∀o,w.frozen? ⟨gb,o,none⟩=false:=hrow.froz
 have hRg:¬R=gb:=by omega
 have hRg':¬gb=R:=by omega
 have HB:Hid (bs[j]? = some b):=hb
 clear hb hcode hrow
 cases b with
 | true =>
  go_enter Tryz.func75,Tryz.ntmps75
  go_wp2
  go_end0
  exact ⟨rfl,Or.inl ⟨HB.out,rfl⟩⟩
 | false =>
  have ks:Kp (fun b=>b=gb) w (w.setCell ⟨gb,j,none⟩ (.bool true)):=(Kp.refl (fun b=>b=gb) w).setCell (p:=⟨gb,j,none⟩) (Or.inr rfl) _
  have hrow':=owns_row_ne hown H.out.row (by decide)
  have O1:Hid ((w.setCell ⟨gb,j,none⟩ (.bool true)).ownsRow gb 3 1 ov q.length (intsV q)):=owns_kp hown ks (by intro b hb e;subst e;exact hrow' hb.symm)
  have KS:Hid (Kp (fun b=>b=gb) w (w.setCell ⟨gb,j,none⟩ (.bool true))):=ks
  have HRW:Hid (¬some gb=ov.ownBlock):=hrow'
  clear ks hown hrow'
  go_enter Tryz.func75,Tryz.ntmps75
  go_wp2_with (at_builtin;refine wpList_append_lies _ rfl _ _ 22 rfl gb 3 i1 (.int .i64 0) 1 8 Tryz.underlying22 hi1 hy0 hy1 hy2 rfl (by decide) _ _ _ rfl (O1.out.alloc _) ⟨w.heap.size,0,none⟩ 1 1 [.int .i64 (j:Int)] rfl rfl ?c1 ?c2 (by decide) ?c3 ?c4 ?c5 _ rfl ?_)
  case c1=>exact news_one _ (by simp) _ _
  case c2=>exact intsV_one [j]
  case c3=>unfold maxLen;omega
  case c4=>omega
  case c5=>simp;omega
  intro g3 cap3 w3 hown3 hgrow hat hlt
  have kg:Kp (fun b=>b=gb∨ov.ownBlock=some b) w w3:=((KS.out.mono (fun _ _ e=>Or.inl e)).alloc _).grown hgrow (by intro b hb;exact Or.inr (Or.inr hb))
  have hnS:¬(R=gb∨ov.ownBlock=some R):=by
   rintro (e|e)
   ·exact hRg e
   ·exact hne e
  have wk3:Wk w3 R (.slice (some ⟨g,0,none⟩) l.length cap) (.slice (some ⟨gb,0,none⟩) l.length l.length) ov:=H.out.wk.sm (kg.sm hl hnS)
  have hg3:¬g3=R:=by
   rcases hat with e|e
   ·intro e2;subst e2;exact hne e
   ·have:w.heap.size≤g3:=by rw [e];simp
    omega
  have hge:∀b,ov.ownBlock=some b→gb≤b:=by
   intro b hb
   rcases H.out.own.2 with ⟨e1,_⟩ | ⟨g',cap',cur,e1,e2,_⟩
   ·rw [e1] at hb;simp [Value.ownBlock] at hb
   ·rw [e1] at hb;simp [Value.ownBlock] at hb;omega
  have R3:Hid (Row w3 gb 4 ((bs.set j true).map bool)):=by
   have:=((H.out.row.set j (.bool true)).alloc (.cells #[.int .i64 (j:Int)] 3)).grown hgrow HRW.out
   show Row _ _ _ _
   rw [List.map_set];exact this
  have C3:Hid (Code' w3 g l):=H.out.code.kp kg (by
   rintro (e|e)
   ·omega
   ·have:=hge g e;omega)
  have O3:Hid (w3.ownsRow gb 3 1 (.slice (some ⟨g3,0,none⟩) (q.length+1) cap3) (q++[j]).length (intsV (q++[j]))):=by
   have e1:(q++[j]).length=q.length+1:=by simp
   have e2:intsV (q++[j])=intsV q++[.int .i64 (j:Int)]:=by simp [intsV]
   show w3.ownsRow _ _ _ _ _ _
   rw [e1,e2];exact hown3
  have K3:Hid (Kp (fun b=>gb≤b) w w3):=kg.mono (by
   rintro b _ (e|e)
   ·omega
   ·exact hge b e)
  have W3:Hid (Wk w3 R (.slice (some ⟨g,0,none⟩) l.length cap) (.slice (some ⟨gb,0,none⟩) l.length l.length) ov):=wk3
  obtain ⟨c0',c1',c2',fz'⟩:=wk3
  clear kg hown3 hgrow hat c0 c1 c2 fz cb fb
  go_wp2
  go_end0
  have kR:Kp (fun b=>b=R) w3 (w3.setCell ⟨R,2,none⟩ (.slice (some ⟨g3,0,none⟩) (q.length+1) cap3)):=(Kp.refl (fun b=>b=R) w3).setCell (p:=⟨R,2,none⟩) (Or.inr rfl) _
  refine ⟨rfl,Or.inr ⟨HB.out,.slice (some ⟨g3,0,none⟩) (q.length+1) cap3,?_,?_⟩⟩
  ·refine ⟨W3.out.set2 _,C3.out.kp kR (by intro e;omega),R3.out.kp kR (fun e=>hRg e.symm),owns_kp O3.out kR (by intro b hb e;simp [Value.ownBlock] at hb;exact hg3 (by omega)),by simp [hlen],?_,hg,hR,by simpa [Value.ownBlock] using hg3⟩
   have:=count_set HB.out
   simp;omega
  ·exact K3.out.setCell (p:=⟨R,2,none⟩) (Or.inr (by show gb≤R;omega)) _
def codeC (l:List In):List Value:=(l.map insC).flatten
theorem codeC_get:∀(l:List In) (i k:Nat) (x:In),l[i]? = some x→k<14→(codeC l)[i*14+k]? = (insC x)[k]?:=by
 intro l
 induction l with
 | nil=>intro i k x h;simp at h
 | cons y r ih =>
  intro i k x h hk
  have e:codeC (y::r)=insC y++codeC r:=by simp [codeC]
  have hl:(insC y).length=14:=rfl
  rw [e]
  cases i with
  | zero =>
   simp at h;subst h
   rw [List.getElem?_append_left (by omega)]
   simp
  | succ i =>
   simp at h
   rw [List.getElem?_append_right (by omega),hl]
   have:(i+1)*14+k - 14=i*14+k:=by omega
   rw [this];exact ih i k x h hk
theorem Code'.of_cells {w:World} {g:Nat} {l:List In} (hl:g<w.heap.size) (h:∀j v,(codeC l)[j]? = some v→w.cell? ⟨g,j,none⟩=some v):Code' w g l:=by
 refine ⟨hl,fun i x hx k v hv => ?_⟩
 have hk:k<14:=(List.getElem?_eq_some_iff.1 hv).1
 exact h (i*14+k) v (by rw [codeC_get l i k x hx hk];exact hv)
theorem codeC_one (l:List In):∀v∈codeC l,v.oneCell'=true:=by
 intro v hv
 obtain ⟨y,hy,hv⟩:=List.mem_flatten.1 hv
 obtain ⟨x,_,rfl⟩:=List.mem_map.1 hy
 simp only [insC,List.mem_cons,List.not_mem_nil,or_false] at hv
 rcases hv with h|h|h|h|h|h|h|h|h|h|h|h|h|h <;> subst h <;> rfl
theorem Tryz.info109:(Tryz.prog.info? 109).map (fun i=>(i.zero,i.size,i.bytes))=some (some (.agg #[.int .i64 0,.int .i64 0,.int .i64 0,.int .i64 0,.int .i64 0,.int .i64 0,.int .i64 0,.int .i64 0,.int .i64 0,.int .i64 0,.int .i64 0,.int .i64 0,.int .i64 0,.int .i64 0]),14,112):=by kernel_rfl
theorem Row.of_fullS {w:World} {base g n size:Nat} {e:TypeId} {xs:List Value} (h:w.ownsRow base e size (.slice (some ⟨g,0,none⟩) n n) n xs):Row w g e xs:=by
 obtain ⟨h1,h2⟩:=h
 rcases h2 with ⟨h2,_⟩ | ⟨g',cap,cur,h2,_,h3,_,_,h4,h5⟩
 ·simp at h2
 ·simp at h2
  obtain ⟨rfl,rfl⟩:=h2
  rw [Row,h3]
  have:cur.toList=xs:=by
   rw [←h5,List.take_of_length_le]
   simp [h4]
  rw [←this]
def mk1:In:=⟨77,0,0,tst0⟩
structure CuP where
 C:Nat
 gs:Nat
 cs:Nat
 ga:Nat
 ca:Nat
 T:Nat
def tsC (t:Tst):List Value:=[.int .i64 t.left.of,.int .i64 t.left.field,.int .i64 t.left.num,.int .i64 t.rel,.int .i64 t.right.of,.int .i64 t.right.field,.int .i64 t.right.num,.int .i64 t.arith,.int .i64 t.more.of,.int .i64 t.more.field,.int .i64 t.more.num]
def tssC (l:List Tst):List Value:=(l.map tsC).flatten
theorem news_snd (w2:World) (o:Obj) (cs:Array Value) (t:TypeId):∀j u,cs.toList[j]? = some u→((w2.alloc o).alloc (.cells cs t)).cell? ((⟨w2.heap.size+1,0,none⟩:Addr).add j)=some u :=
 World.news_of_block (by have:=heap_alloc_new (w2.alloc o) (.cells cs t);simpa using this)
structure Ed where
 fr:Int
 to:Int
 st:Int
section
section
variable {α:Type} {pp:α→Nat→Nat→List Pt} {ss:α→List St} {ya:α→List Tok→Prop} {C:Nat}
end
def bg (ps:List Pt):Nat→Nat→Nat
 | 0,_=>0
 | f+1,i =>
  match ps[i]? with
  | none=>0
  | some x =>
   if x.op=0 then 1 else
   if x.op=3 then (if x.high = -1 then bg ps f x.left.toNat+5 else x.high.toNat*(bg ps f x.left.toNat+2)+1)
   else bg ps f x.left.toNat+bg ps f x.right.toNat+1
end
def wi (ps:List Pt):Nat→Nat→Int→Bool→Bool
 | 0,_,_,_=>false
 | f+1,i,k,deep =>
  match ps[i]? with
  | none=>false
  | some x =>
   if x.op=0 then (deep&&(x.step == k)) else
   if x.op=3 then wi ps f x.left.toNat k true
   else (wi ps f x.left.toNat k deep||wi ps f x.right.toNat k deep)
def hasF (l:List Int) (k:Int):Int:=if k=4 then 0 else if 0≤k∧k<l.length then l.getD k.toNat 0 - 48 else -1
def f0:Fm:=⟨0,0,0,0,0⟩
def isNew (ss:List (St×Value)) (i:Nat) (n:Int):Bool:=decide (0≤n)&&(ss.take i).all (fun y=>y.1.name != n)
def slotsTo (ss:List (St×Value)):Nat→List Int
 | 0=>[]
 | i+1=>match ss[i]? with
  | none=>slotsTo ss i
  | some x=>if isNew ss i x.1.name=true then slotsTo ss i++[x.1.name] else slotsTo ss i
theorem slotsTo_len (ss:List (St×Value)):∀i,(slotsTo ss i).length≤i:=by
 intro i
 induction i with
 | zero=>simp [slotsTo]
 | succ i ih =>
  simp only [slotsTo]
  split
  ·omega
  ·split
   ·simp;omega
   ·omega
theorem eqb_no {a b:Int} (h:¬a=b):(a == b)=false:=by simp [h]
def ReachZ (w:World) (R g cap gb:Nat) (l:List In) (bs:List Bool) (q:List Nat) (e:Ending) (w':World):Prop :=
 e=.returned (.tuple #[])∧∃ov',WS w' R g cap gb l ov' bs q∧Kp (fun b=>gb≤b) w w'
theorem reachZ_any (R g cap gb:Nat) (z:Int) (l:List In) (ov:Value) (bs:List Bool) (q:List Nat) (w:World) (h:WS w R g cap gb l ov bs q) (hz:z = -1∨∃j:Nat,z=j∧j<l.length) (hn:l.length≤1000) :
  Calls Tryz.prog 75 #[.pointer (some ⟨R,0,none⟩),.int .i64 z] w (ReachZ w R g cap gb l (mkB bs z) (mkQ bs q z)):=by
 rcases hz with rfl|⟨j,rfl,hj⟩
 ·have H:Hid (WS w R g cap gb l ov bs q):=h
  obtain ⟨⟨c0,c1,c2,fz⟩,hcode,hrow,hown,hlen,hcnt,hg,hR,hne⟩:=h
  rw [mkB_neg,mkQ_neg]
  go_enter Tryz.func75,Tryz.ntmps75
  go_wp2
  go_end0
  exact ⟨rfl,ov,H.out,Kp.refl _ _⟩
 ·refine (reach_any R g cap gb j l ov bs q w h hj hn).mono ?_
  rintro e w' ⟨rfl,h1⟩
  refine ⟨rfl,?_⟩
  rcases h1 with ⟨hb,rfl⟩ | ⟨hb,ov',hw,hk⟩
  ·refine ⟨ov,?_,Kp.refl _ _⟩
   have e1:mkB bs (j:Int)=bs:=by simp [mkB,hb]
   have e2:mkQ bs q (j:Int)=q:=by simp [mkQ,hb]
   rw [e1,e2];exact h
  ·refine ⟨ov',?_,hk⟩
   have e1:mkB bs (j:Int)=bs.set j true:=by simp [mkB,hb]
   have e2:mkQ bs q (j:Int)=q++[j]:=by simp [mkQ,hb]
   rw [e1,e2];exact hw
theorem nextOf_any (x:In) (i:Nat) (w:World) (hi:i≤1000) :
  Calls Tryz.prog 100 #[insV x,.int .i64 i] w fun e w'=>e=.returned (.tuple #[.int .i64 (nx1 x i),.int .i64 (nx2 x i)])∧Nw w w':=by
 obtain ⟨o,a,b,⟨⟨t1,t2,t3⟩,t4,⟨t5,t6,t7⟩,t8,⟨t9,t10,t11⟩⟩⟩:=x
 simp only [insV,nx1,nx2]
 by_cases h4:o=4
 ·subst h4
  go_enter Tryz.func100,Tryz.ntmps100
  go_wp2
  go_quiet (fail)
  go_wp2
  go_ret2
  exact ⟨rfl,((Kp.refl _ _).alloc _).drewN _⟩
 by_cases h5:o=5
 ·subst h5
  go_enter Tryz.func100,Tryz.ntmps100
  go_wp2
  go_quiet (fail)
  go_wp2
  go_ret2
  exact ⟨rfl,((Kp.refl _ _).alloc _).drewN _⟩
 by_cases h6:o=6
 ·subst h6
  go_enter Tryz.func100,Tryz.ntmps100
  go_wp2
  go_ret2
  exact ⟨rfl,(Kp.refl _ _).alloc _⟩
 ·simp only [if_neg h4,if_neg h5,if_neg h6]
  have n4:=eqb_no h4
  have n5:=eqb_no h5
  have n6:=eqb_no h6
  clear h4 h5 h6
  go_enter Tryz.func100,Tryz.ntmps100
  go_wp2
  go_ret2
  exact ⟨rfl,(Kp.refl _ _).alloc _⟩
theorem nx_ok {l:List In} (hA:AllIns l) {i:Nat} {x:In} (hx:l[i]? = some x):(nx1 x i = -1∨∃j:Nat,nx1 x i=j∧j<l.length)∧(nx2 x i = -1∨∃j:Nat,nx2 x i=j∧j<l.length):=by
 rcases nx_spec hA hx with ⟨h6,e1,e2,e3⟩ | ⟨h6,j1,j2,e1,e2,l1,l2,e3⟩
 ·exact ⟨Or.inl e1,Or.inl e2⟩
 ·exact ⟨Or.inr ⟨j1,e1,l1⟩,Or.inr ⟨j2,e2,l2⟩⟩
theorem WS.nw {w w':World} {R g cap gb:Nat} {l:List In} {ov:Value} {bs:List Bool} {q:List Nat} (h:WS w R g cap gb l ov bs q) (k:Nw w w'):WS w' R g cap gb l ov bs q :=
 ⟨h.wk.sm (k.sm h.wk.lt (fun h=>h)),h.code.kp k (fun h=>h),h.row.kp k (fun h=>h),owns_kp h.own k (fun _ _ h=>h),h.len,h.cnt,h.hg,h.hR,h.ne⟩
theorem leave_any (R g cap gb:Nat) (l:List In) (ov:Value) (bs:List Bool) (q:List Nat) (x:Nat) (v:In) (w:World) (h:WS w R g cap gb l ov bs q) (hv:l[x]? = some v) (hA:AllIns l) (hn:l.length≤1000) :
  Calls Tryz.prog 76 #[.pointer (some ⟨R,0,none⟩),.int .i64 x] w (ReachZ w R g cap gb l (mkB (mkB bs (nx1 v x)) (nx2 v x)) (mkQ (mkB bs (nx1 v x)) (mkQ bs q (nx1 v x)) (nx2 v x))):=by
 have hxl:x<l.length:=(List.getElem?_eq_some_iff.1 hv).1
 obtain ⟨z1,z2⟩:=nx_ok hA hv
 have H:Hid (WS w R g cap gb l ov bs q):=h
 have Z1:Hid (nx1 v x = -1∨∃j:Nat,nx1 v x=j∧j<l.length):=z1
 have Z2:Hid (nx2 v x = -1∨∃j:Nat,nx2 v x=j∧j<l.length):=z2
 obtain ⟨d0,d1,d2,d3,d4,d5,d6,d7,d8,d9,d10,d11,d12,d13⟩:=(h.code.ins x v hv).cells
 obtain ⟨⟨c0,c1,c2,fz⟩,_,_,_,hlen,hcnt,hg,hR,hne⟩:=h
 have hl:R<w.heap.size:=H.out.wk.lt
 have hRg:¬R=g:=by omega
 have hgR:¬g=R:=by omega
 have hx1:x≤1000:=by omega
 clear hv z1 z2
 go_enter Tryz.func76,Tryz.ntmps76
 go_wp2_with fail
 refine (nextOf_any v x _ hx1).mono ?_
 rintro e w1 ⟨rfl,k1⟩
 have H1:Hid (WS w1 R g cap gb l ov bs q):=H.out.nw k1
 have K1:Hid (Kp (fun b=>gb≤b) w w1):=k1.mono (fun _ _ h=>False.elim h)
 clear k1 d0 d1 d2 d3 d4 d5 d6 d7 d8 d9 d10 d11 d12 d13 c0 c1 c2 fz
 generalize nx1 v x=n1 at *
 generalize nx2 v x=n2 at *
 go_wp2_with fail
 refine (reachZ_any R g cap gb n1 l ov bs q w1 H1.out Z1.out hn).mono ?_
 rintro e w2 ⟨rfl,ov2,hw2,k2⟩
 have H2:Hid (WS w2 R g cap gb l ov2 (mkB bs n1) (mkQ bs q n1)):=hw2
 have K2:Hid (Kp (fun b=>gb≤b) w w2):=K1.out.trans k2
 clear hw2 k2
 go_wp2_with fail
 refine (reachZ_any R g cap gb n2 l ov2 _ _ w2 H2.out Z2.out hn).mono ?_
 rintro e w3 ⟨rfl,ov3,hw3,k3⟩
 go_wp2
 go_end0
 exact ⟨rfl,ov3,hw3,K2.out.trans k3⟩
end Go.Proofs.YtcboiapggnmpfabGreatDoor
