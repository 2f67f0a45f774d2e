import Derived.Test.YtcboiapggnmpfaaGreatQaf
import Derived.Laws.CopyOwn
import Derived.Test.YtcboiapggnmpfaaGreatQad
import Derived.Test.YtcboiapggnmpfaaGreatRows
import Derived.Test.YtcboiapggnmpfaaGreatQaa
import Derived.WalkKit
import Derived.WalkSpells
import Derived.WalkLawsBesides
import Derived.Deep.Light
import Derived.Deep.RegionLaw
import Derived.Deep.DrawnRows
namespace Go.Proofs.YtcboiapggnmpfaaGreat
set_option maxRecDepth 100000
set_option maxHeartbeats 1000000
set_option linter.unusedSimpArgs false
set_option linter.unusedVariables false
open Go.RowKit
open Value (bool)
structure Wk (w:World) (R:Nat) (cv rv ov:Value):Prop where
 c0:w.cell? ⟨R,0,none⟩=some cv
 c1:w.cell? ⟨R,1,none⟩=some rv
 c2:w.cell? ⟨R,2,none⟩=some ov
 fz:∀o,w.frozen? ⟨R,o,none⟩=false
theorem Wk.lt {w:World} {R:Nat} {cv rv ov:Value} (h:Wk w R cv rv ov):R<w.heap.size:=World.block_lt_of_cell? w ⟨R,0,none⟩ h.c0
theorem Wk.sm {w w':World} {R:Nat} {cv rv ov:Value} (h:Wk w R cv rv ov) (s:Sm w w' R):Wk w' R cv rv ov :=
 ⟨(s.cell 0).trans h.c0,(s.cell 1).trans h.c1,(s.cell 2).trans h.c2,fun o=>(s.froz o).trans (h.fz o)⟩
theorem Wk.set2 {w:World} {R:Nat} {cv rv ov:Value} (h:Wk w R cv rv ov) (v:Value):Wk (w.setCell ⟨R,2,none⟩ v) R cv rv v:=by
 obtain ⟨c0,c1,c2,fz⟩:=h
 constructor <;> simp [go_sem,c0,c1,c2,fz]
structure WS (w:World) (R g cap gb:Nat) (l:List In) (ov:Value) (bs:List Bool) (q:List Nat):Prop where
 wk:Wk w R (.slice (some ⟨g,0,none⟩) l.length cap) (.slice (some ⟨gb,0,none⟩) l.length l.length) ov
 code:Code' w g l
 row:Row w gb 4 (bs.map bool)
 own:w.ownsRow gb 3 1 ov q.length (intsV q)
 len:bs.length=l.length
 cnt:q.length+bs.count false≤l.length+1
 hg:g<gb
 hR:gb<R
 ne:¬ov.ownBlock=some R
abbrev KW (R gb:Nat) (ov:Value) (w w':World):Prop:=Kp (fun b=>b=R∨b=gb∨ov.ownBlock=some b) w w'
def ReachPostV (w:World) (R g cap gb:Nat) (l:List In) (ov:Value) (bs:List Bool) (q:List Nat) (j:Nat) (e:Ending) (w':World):Prop :=
 e=.returned (.tuple #[])∧((bs[j]? = some true∧w'=w)∨(bs[j]? = some false∧∃ov',WS w' R g cap gb l ov' (bs.set j true) (q++[j])∧Kp (fun b=>gb≤b) w w'))
theorem reach_any (R g cap gb j:Nat) (l:List In) (ov:Value) (bs:List Bool) (q:List Nat) (w:World) (h:WS w R g cap gb l ov bs q) (hj:j<l.length) (hn:l.length≤1000) :
  Calls Tryz.prog 182 #[.pointer (some ⟨R,0,none⟩),.int .i64 j] w (ReachPostV w R g cap gb l ov bs q j):=by
 have H:Hid (WS w R g cap gb l ov bs q):=h
 obtain ⟨⟨c0,c1,c2,fz⟩,hcode,hrow,hown,hlen,hcnt,hg,hR,hne⟩:=h
 have hl:R<w.heap.size:=H.out.wk.lt
 obtain ⟨i1,hi1,hy0,hy1,hy2⟩:=info_parts Tryz.info3
 obtain ⟨b,hb⟩:∃b,bs[j]? = some b:=⟨bs[j]'(by rw [hlen];exact hj),by simp [hlen,hj]⟩
 have cb:w.cell? ⟨gb,j,none⟩=some (.bool b):=by rw [hrow.cell];simp [hb]
 have fb:∀o,w.frozen? ⟨gb,o,none⟩=false:=hrow.froz
 have hRg:¬R=gb:=by omega
 have hRg':¬gb=R:=by omega
 have HB:Hid (bs[j]? = some b):=hb
 clear hb hcode hrow
 cases b with
 | true =>
  go_enter Tryz.func182,Tryz.ntmps182
  go_wp2
  go_end0
  exact ⟨rfl,Or.inl ⟨HB.out,rfl⟩⟩
 | false =>
  have ks:Kp (fun b=>b=gb) w (w.setCell ⟨gb,j,none⟩ (.bool true)):=(Kp.refl (fun b=>b=gb) w).setCell (p:=⟨gb,j,none⟩) (Or.inr rfl) _
  have hrow':=owns_row_ne hown H.out.row (by decide)
  have O1:Hid ((w.setCell ⟨gb,j,none⟩ (.bool true)).ownsRow gb 3 1 ov q.length (intsV q)):=owns_kp hown ks (by intro b hb e;subst e;exact hrow' hb.symm)
  have KS:Hid (Kp (fun b=>b=gb) w (w.setCell ⟨gb,j,none⟩ (.bool true))):=ks
  have HRW:Hid (¬some gb=ov.ownBlock):=hrow'
  clear ks hown hrow'
  go_enter Tryz.func182,Tryz.ntmps182
  go_wp2_with (at_builtin;refine wpList_append_lies _ rfl _ _ 73 rfl gb 3 i1 (.int .i64 0) 1 8 Tryz.underlying73 hi1 hy0 hy1 hy2 rfl (by decide) _ _ _ rfl (O1.out.alloc _) ⟨w.heap.size,0,none⟩ 1 1 [.int .i64 (j:Int)] rfl rfl ?c1 ?c2 (by decide) ?c3 ?c4 ?c5 _ rfl ?_)
  case c1=>exact news_one _ (by simp) _ _
  case c2=>exact intsV_one [j]
  case c3=>unfold maxLen;omega
  case c4=>omega
  case c5=>simp;omega
  intro g3 cap3 w3 hown3 hgrow hat hlt
  have kg:Kp (fun b=>b=gb∨ov.ownBlock=some b) w w3:=((KS.out.mono (fun _ _ e=>Or.inl e)).alloc _).grown hgrow (by intro b hb;exact Or.inr (Or.inr hb))
  have hnS:¬(R=gb∨ov.ownBlock=some R):=by
   rintro (e|e)
   ·exact hRg e
   ·exact hne e
  have wk3:Wk w3 R (.slice (some ⟨g,0,none⟩) l.length cap) (.slice (some ⟨gb,0,none⟩) l.length l.length) ov:=H.out.wk.sm (kg.sm hl hnS)
  have hg3:¬g3=R:=by
   rcases hat with e|e
   ·intro e2;subst e2;exact hne e
   ·have:w.heap.size≤g3:=by rw [e];simp
    omega
  have hge:∀b,ov.ownBlock=some b→gb≤b:=by
   intro b hb
   rcases H.out.own.2 with ⟨e1,_⟩ | ⟨g',cap',cur,e1,e2,_⟩
   ·rw [e1] at hb;simp [Value.ownBlock] at hb
   ·rw [e1] at hb;simp [Value.ownBlock] at hb;omega
  have R3:Hid (Row w3 gb 4 ((bs.set j true).map bool)):=by
   have:=((H.out.row.set j (.bool true)).alloc (.cells #[.int .i64 (j:Int)] 3)).grown hgrow HRW.out
   show Row _ _ _ _
   rw [List.map_set];exact this
  have C3:Hid (Code' w3 g l):=H.out.code.kp kg (by
   rintro (e|e)
   ·omega
   ·have:=hge g e;omega)
  have O3:Hid (w3.ownsRow gb 3 1 (.slice (some ⟨g3,0,none⟩) (q.length+1) cap3) (q++[j]).length (intsV (q++[j]))):=by
   have e1:(q++[j]).length=q.length+1:=by simp
   have e2:intsV (q++[j])=intsV q++[.int .i64 (j:Int)]:=by simp [intsV]
   show w3.ownsRow _ _ _ _ _ _
   rw [e1,e2];exact hown3
  have K3:Hid (Kp (fun b=>gb≤b) w w3):=kg.mono (by
   rintro b _ (e|e)
   ·omega
   ·exact hge b e)
  have W3:Hid (Wk w3 R (.slice (some ⟨g,0,none⟩) l.length cap) (.slice (some ⟨gb,0,none⟩) l.length l.length) ov):=wk3
  obtain ⟨c0',c1',c2',fz'⟩:=wk3
  clear kg hown3 hgrow hat c0 c1 c2 fz cb fb
  go_wp2
  go_end0
  have kR:Kp (fun b=>b=R) w3 (w3.setCell ⟨R,2,none⟩ (.slice (some ⟨g3,0,none⟩) (q.length+1) cap3)):=(Kp.refl (fun b=>b=R) w3).setCell (p:=⟨R,2,none⟩) (Or.inr rfl) _
  refine ⟨rfl,Or.inr ⟨HB.out,.slice (some ⟨g3,0,none⟩) (q.length+1) cap3,?_,?_⟩⟩
  ·refine ⟨W3.out.set2 _,C3.out.kp kR (by intro e;omega),R3.out.kp kR (fun e=>hRg e.symm),owns_kp O3.out kR (by intro b hb e;simp [Value.ownBlock] at hb;exact hg3 (by omega)),by simp [hlen],?_,hg,hR,by simpa [Value.ownBlock] using hg3⟩
   have:=count_set HB.out
   simp;omega
  ·exact K3.out.setCell (p:=⟨R,2,none⟩) (Or.inr (by show gb≤R;omega)) _
def codeC (l:List In):List Value:=(l.map insC).flatten
theorem codeC_length (l:List In):(codeC l).length=l.length*14:=by
 induction l with
 | nil=>rfl
 | cons x r ih =>
  have:codeC (x::r)=insC x++codeC r:=by simp [codeC]
  rw [this,List.length_append,ih,List.length_cons]
  simp [insC];omega
theorem codeC_get:∀(l:List In) (i k:Nat) (x:In),l[i]? = some x→k<14→(codeC l)[i*14+k]? = (insC x)[k]?:=by
 intro l
 induction l with
 | nil=>intro i k x h;simp at h
 | cons y r ih =>
  intro i k x h hk
  have e:codeC (y::r)=insC y++codeC r:=by simp [codeC]
  have hl:(insC y).length=14:=rfl
  rw [e]
  cases i with
  | zero =>
   simp at h;subst h
   rw [List.getElem?_append_left (by omega)]
   simp
  | succ i =>
   simp at h
   rw [List.getElem?_append_right (by omega),hl]
   have:(i+1)*14+k - 14=i*14+k:=by omega
   rw [this];exact ih i k x h hk
theorem codeC_find {l:List In} {j:Nat} {v:Value} (h:(codeC l)[j]? = some v):∃i k x,j=i*14+k∧k<14∧l[i]? = some x∧(insC x)[k]? = some v:=by
 have hj:j<l.length*14:=by rw [←codeC_length];exact (List.getElem?_eq_some_iff.1 h).1
 have hi:j / 14<l.length:=by omega
 refine ⟨j / 14,j % 14,l[j / 14],by omega,by omega,by simp [hi],?_⟩
 rw [←codeC_get l (j / 14) (j % 14) l[j / 14] (by simp [hi]) (by omega)]
 have:j / 14*14+j % 14=j:=by omega
 rw [this];exact h
theorem Code'.cells {w:World} {g:Nat} {l:List In} (h:Code' w g l):∀j v,(codeC l)[j]? = some v→w.cell? ⟨g,j,none⟩=some v:=by
 intro j v hv
 obtain ⟨i,k,x,e,hk,hx,hv'⟩:=codeC_find hv
 rw [e]
 exact h.ins i x hx k v hv'
theorem Code'.of_cells {w:World} {g:Nat} {l:List In} (hl:g<w.heap.size) (h:∀j v,(codeC l)[j]? = some v→w.cell? ⟨g,j,none⟩=some v):Code' w g l:=by
 refine ⟨hl,fun i x hx k v hv => ?_⟩
 have hk:k<14:=(List.getElem?_eq_some_iff.1 hv).1
 exact h (i*14+k) v (by rw [codeC_get l i k x hx hk];exact hv)
theorem codeC_one (l:List In):∀v∈codeC l,v.oneCell'=true:=by
 intro v hv
 obtain ⟨y,hy,hv⟩:=List.mem_flatten.1 hv
 obtain ⟨x,_,rfl⟩:=List.mem_map.1 hy
 simp only [insC,List.mem_cons,List.not_mem_nil,or_false] at hv
 rcases hv with h|h|h|h|h|h|h|h|h|h|h|h|h|h <;> subst h <;> rfl
theorem Tryz.info40:(Tryz.prog.info? 40).map (fun i=>(i.zero,i.size,i.bytes))=some (some (.agg #[.int .i64 0,.int .i64 0,.int .i64 0,.int .i64 0,.int .i64 0,.int .i64 0,.int .i64 0,.int .i64 0,.int .i64 0,.int .i64 0,.int .i64 0,.int .i64 0,.int .i64 0,.int .i64 0]),14,112):=by kernel_rfl
theorem Row.of_fullS {w:World} {base g n size:Nat} {e:TypeId} {xs:List Value} (h:w.ownsRow base e size (.slice (some ⟨g,0,none⟩) n n) n xs):Row w g e xs:=by
 obtain ⟨h1,h2⟩:=h
 rcases h2 with ⟨h2,_⟩ | ⟨g',cap,cur,h2,_,h3,_,_,h4,h5⟩
 ·simp at h2
 ·simp at h2
  obtain ⟨rfl,rfl⟩:=h2
  rw [Row,h3]
  have:cur.toList=xs:=by
   rw [←h5,List.take_of_length_le]
   simp [h4]
  rw [←this]
def mk1:In:=⟨77,0,0,tst0⟩
structure CuP where
 C:Nat
 gs:Nat
 cs:Nat
 ga:Nat
 ca:Nat
 T:Nat
structure Cu (w:World) (P:CuP) (L:List Tok):Prop where
 c0:w.cell? ⟨P.C,0,none⟩=some (.slice (some ⟨P.gs,0,none⟩) L.length P.cs)
 c1:w.cell? ⟨P.C,1,none⟩=some (.slice (some ⟨P.ga,0,none⟩) L.length P.ca)
 c2:w.cell? ⟨P.C,2,none⟩=some (.pointer (some ⟨P.T,0,none⟩))
 bs:∀(k:Nat) (x:Tok),L[k]? = some x→w.cell? ⟨P.gs,k,none⟩=some (.int .u8 x.1)
 pl:∀(k:Nat) (x:Tok),L[k]? = some x→w.cell? ⟨P.ga,k,none⟩=some (.int .i64 x.2)
 rg:∀x∈L,0≤x.1∧x.1≤255
 len:L.length≤1000
 ltC:P.C<w.heap.size
 lts:P.gs<w.heap.size
 lta:P.ga<w.heap.size
theorem Cu.kp {S : Nat → Prop} {w w' : World} {P : CuP} {L : List Tok} (h : Cu w P L) (k : Kp S w w') (h1 : ¬ S P.C) (h2 : ¬ S P.gs) (h3 : ¬ S P.ga) : Cu w' P L :=
  ⟨(k.cell (p := ⟨P.C, 0, none⟩) h.ltC h1).trans h.c0, (k.cell (p := ⟨P.C, 1, none⟩) h.ltC h1).trans h.c1, (k.cell (p := ⟨P.C, 2, none⟩) h.ltC h1).trans h.c2,
   fun j x hx => (k.cell (p := ⟨P.gs, j, none⟩) h.lts h2).trans (h.bs j x hx), fun j x hx => (k.cell (p := ⟨P.ga, j, none⟩) h.lta h3).trans (h.pl j x hx), h.rg, h.len,
   Nat.lt_of_lt_of_le h.ltC k.size, Nat.lt_of_lt_of_le h.lts k.size, Nat.lt_of_lt_of_le h.lta k.size⟩
theorem Cu.nw {w w':World} {P:CuP} {L:List Tok} (h:Cu w P L) (k:Nw w w'):Cu w' P L:=h.kp k (fun h=>h) (fun h=>h) (fun h=>h)
def Sub (L:List Tok) (lo:Nat) (u:List Tok):Prop:=∀(k:Nat) (x:Tok),u[k]? = some x→L[lo+k]? = some x
theorem Sub.left {L:List Tok} {lo:Nat} {u v:List Tok} (h:Sub L lo (u++v)):Sub L lo u:=fun k x hk=>h k x (by rw [List.getElem?_append_left (List.getElem?_eq_some_iff.1 hk).1];exact hk)
theorem Sub.right {L : List Tok} {lo m : Nat} {u v : List Tok} (h : Sub L lo (u ++ v)) (hm : m = lo + u.length) : Sub L m v := fun k x hk => by
  have := h (u.length + k) x (by rw [List.getElem?_append_right (by omega)]; have : u.length + k - u.length = k := by omega
                                 rw [this]; exact hk)
  rw [hm, Nat.add_assoc]; exact this
theorem Sub.tail {L:List Tok} {lo:Nat} {c:Tok} {v:List Tok} (h:Sub L lo (c::v)):Sub L (lo+1) v:=Sub.right (u:=[c]) h rfl
theorem Sub.head {L:List Tok} {lo:Nat} {c:Tok} {v:List Tok} (h:Sub L lo (c::v)):L[lo]? = some c:=h 0 c rfl
theorem Sub.le {L:List Tok} {lo:Nat} {u:List Tok} (h:Sub L lo u) (hu:0<u.length):lo+u.length≤L.length:=by
 have:=h (u.length - 1) (u[u.length - 1]) (by simp)
 have:=(List.getElem?_eq_some_iff.1 this).1
 omega
theorem dropT {L:List Tok} {i:Nat} {x:Tok} (h:L[i]? = some x):L.drop i=x::L.drop (i+1):=by
 obtain ⟨h1,h2⟩:=List.getElem?_eq_some_iff.1 h
 rw [List.drop_eq_getElem_cons h1,h2]
def ptC (x:Pt):List Value:=[.int .i64 x.op,.int .i64 x.left,.int .i64 x.right,.int .i64 x.low,.int .i64 x.high,.int .i64 x.step]
def ptsC (l:List Pt):List Value:=(l.map ptC).flatten
def tsC (t:Tst):List Value:=[.int .i64 t.left.of,.int .i64 t.left.field,.int .i64 t.left.num,.int .i64 t.rel,.int .i64 t.right.of,.int .i64 t.right.field,.int .i64 t.right.num,.int .i64 t.arith,.int .i64 t.more.of,.int .i64 t.more.field,.int .i64 t.more.num]
def tssC (l:List Tst):List Value:=(l.map tsC).flatten
def seC (x:St×Value):List Value:=[.int .i64 x.1.kind,.int .i64 x.1.name,.int .i64 x.1.pos,x.2]
def sesC (l:List (St×Value)):List Value:=(l.map seC).flatten
structure Tr (w:World) (T:Nat) (pv sv:Value) (root win:Int):Prop where
 c0:w.cell? ⟨T,0,none⟩=some pv
 c1:w.cell? ⟨T,1,none⟩=some sv
 c2:w.cell? ⟨T,2,none⟩=some (.int .i64 root)
 c3:w.cell? ⟨T,3,none⟩=some (.int .i64 win)
 fz:∀o,w.frozen? ⟨T,o,none⟩=false
theorem Tr.lt {w:World} {T:Nat} {pv sv:Value} {root win:Int} (h:Tr w T pv sv root win):T<w.heap.size:=World.block_lt_of_cell? w ⟨T,0,none⟩ h.c0
theorem Tr.sm {w w':World} {T:Nat} {pv sv:Value} {root win:Int} (h:Tr w T pv sv root win) (k:Sm w w' T):Tr w' T pv sv root win :=
 ⟨(k.cell 0).trans h.c0,(k.cell 1).trans h.c1,(k.cell 2).trans h.c2,(k.cell 3).trans h.c3,fun o=>(k.froz o).trans (h.fz o)⟩
theorem Tr.set0 {w:World} {T:Nat} {pv sv:Value} {root win:Int} (h:Tr w T pv sv root win) (v:Value):Tr (w.setCell ⟨T,0,none⟩ v) T v sv root win:=by
 obtain ⟨c0,c1,c2,c3,fz⟩:=h
 constructor <;> simp [go_sem,c0,c1,c2,c3,fz]
structure TS (w:World) (P:CuP) (B:Nat) (L:List Tok) (pv sv:Value) (root win:Int) (ps:List Pt) (ss:List (St×Value)):Prop where
 cu:Cu w P L
 tr:Tr w P.T pv sv root win
 parts:w.ownsRow B 303 6 pv ps.length (ptsC ps)
 steps:w.ownsRow B 173 4 sv ss.length (sesC ss)
 tests:∀x∈ss,w.ownsRow B 38 11 x.2 x.1.tests.length (tssC x.1.tests)
 hC:P.C<B
 hT:P.T<B
 hs:P.gs<B
 ha:P.ga<B
 neC:¬P.T=P.C
 nes:¬P.T=P.gs
 nea:¬P.T=P.ga
 hB:B≤w.heap.size
theorem owns_apart {w w':World} {T base size n:Nat} {e e2:TypeId} {v v2:Value} {xs xs2:List Value} {n2 size2 base2:Nat} (h:w.ownsRow base e size v n xs) (h2:w.ownsRow base2 e2 size2 v2 n2 xs2) (hne:¬e=e2) (hT:T<base)
  (hk:Kp (fun k=>k=T∨v2.ownBlock=some k) w w'):w'.ownsRow base e size v n xs:=by
 refine owns_kp h hk ?_
 rintro g hg (e1|e1)
 ·rcases h.2 with ⟨rfl,_⟩ | ⟨g',cap,cur,rfl,hb,_⟩
  ·simp [Value.ownBlock] at hg
  ·simp [Value.ownBlock] at hg;omega
 ·rcases h.2 with ⟨rfl,_⟩ | ⟨g',cap,cur,rfl,hb,h3,_⟩
  ·simp [Value.ownBlock] at hg
  ·rcases h2.2 with ⟨rfl,_⟩ | ⟨g2,cap2,cur2,rfl,_,hg2,_⟩
   ·simp [Value.ownBlock] at e1
   ·simp only [Value.ownBlock,Option.some.injEq] at e1 hg
    subst e1
    subst hg
    rw [h3] at hg2
    simp only [Option.some.injEq,Obj.cells.injEq] at hg2
    exact hne hg2.2.1
theorem TS.nw {w w':World} {P:CuP} {B:Nat} {L:List Tok} {pv sv:Value} {root win:Int} {ps:List Pt} {ss:List (St×Value)} (h:TS w P B L pv sv root win ps ss) (k:Nw w w'):TS w' P B L pv sv root win ps ss :=
 ⟨h.cu.nw k,h.tr.sm (k.sm h.tr.lt (fun h=>h)),owns_kp h.parts k (fun _ _ h=>h),owns_kp h.steps k (fun _ _ h=>h),fun x hx=>owns_kp (h.tests x hx) k (fun _ _ h=>h),h.hC,h.hT,h.hs,h.ha,h.neC,h.nes,h.nea,Nat.le_trans h.hB k.size⟩
theorem news_snd (w2:World) (o:Obj) (cs:Array Value) (t:TypeId):∀j u,cs.toList[j]? = some u→((w2.alloc o).alloc (.cells cs t)).cell? ((⟨w2.heap.size+1,0,none⟩:Addr).add j)=some u :=
 World.news_of_block (by have:=heap_alloc_new (w2.alloc o) (.cells cs t);simpa using this)
abbrev KT (T B:Nat) (w w':World):Prop:=Kp (fun b=>b=T∨B≤b) w w'
structure TP where
 T:Nat
 gp:Nat
 cp:Nat
 gt:Nat
 ct:Nat
structure TreeR (w:World) (Q:TP) (ps:List Pt) (ss:List (St×Value)) (root win:Int):Prop where
 c0:w.cell? ⟨Q.T,0,none⟩=some (.slice (some ⟨Q.gp,0,none⟩) ps.length Q.cp)
 c1:w.cell? ⟨Q.T,1,none⟩=some (.slice (some ⟨Q.gt,0,none⟩) ss.length Q.ct)
 c2:w.cell? ⟨Q.T,2,none⟩=some (.int .i64 root)
 c3:w.cell? ⟨Q.T,3,none⟩=some (.int .i64 win)
 part:∀(i:Nat) (x:Pt),ps[i]? = some x→w.cell? ⟨Q.gp,i*6,none⟩=some (.int .i64 x.op)∧w.cell? ⟨Q.gp,i*6+1,none⟩=some (.int .i64 x.left)∧w.cell? ⟨Q.gp,i*6+2,none⟩=some (.int .i64 x.right)∧w.cell? ⟨Q.gp,i*6+3,none⟩=some (.int .i64 x.low)∧w.cell? ⟨Q.gp,i*6+4,none⟩=some (.int .i64 x.high)∧w.cell? ⟨Q.gp,i*6+5,none⟩=some (.int .i64 x.step)
 step:∀(i:Nat) (x:St×Value),ss[i]? = some x→w.cell? ⟨Q.gt,i*4,none⟩=some (.int .i64 x.1.kind)∧w.cell? ⟨Q.gt,i*4+1,none⟩=some (.int .i64 x.1.name)∧w.cell? ⟨Q.gt,i*4+2,none⟩=some (.int .i64 x.1.pos)∧w.cell? ⟨Q.gt,i*4+3,none⟩=some x.2
 ltT:Q.T<w.heap.size
 ltp:Q.gp<w.heap.size
 ltt:Q.gt<w.heap.size
 np:ps.length≤100000
 ns:ss.length≤100000
theorem TreeR.kp {S:Nat→Prop} {w w':World} {Q:TP} {ps:List Pt} {ss:List (St×Value)} {root win:Int} (h:TreeR w Q ps ss root win) (k:Kp S w w') (h1:¬S Q.T) (h2:¬S Q.gp) (h3:¬S Q.gt):TreeR w' Q ps ss root win:=by
 have cT:∀o,w'.cell? ⟨Q.T,o,none⟩=w.cell? ⟨Q.T,o,none⟩:=fun o=>k.cell (p:=⟨Q.T,o,none⟩) h.ltT h1
 have cp:∀o,w'.cell? ⟨Q.gp,o,none⟩=w.cell? ⟨Q.gp,o,none⟩:=fun o=>k.cell (p:=⟨Q.gp,o,none⟩) h.ltp h2
 have ct:∀o,w'.cell? ⟨Q.gt,o,none⟩=w.cell? ⟨Q.gt,o,none⟩:=fun o=>k.cell (p:=⟨Q.gt,o,none⟩) h.ltt h3
 refine ⟨by rw [cT];exact h.c0,by rw [cT];exact h.c1,by rw [cT];exact h.c2,by rw [cT];exact h.c3,?_,?_,Nat.lt_of_lt_of_le h.ltT k.size,Nat.lt_of_lt_of_le h.ltp k.size,Nat.lt_of_lt_of_le h.ltt k.size,h.np,h.ns⟩
 ·intro i x hx;simp only [cp];exact h.part i x hx
 ·intro i x hx;simp only [ct];exact h.step i x hx
theorem TreeR.nw {w w':World} {Q:TP} {ps:List Pt} {ss:List (St×Value)} {root win:Int} (h:TreeR w Q ps ss root win) (k:Nw w w'):TreeR w' Q ps ss root win:=h.kp k (fun h=>h) (fun h=>h) (fun h=>h)
def kOf (name:Int):List (St×Value)→Int
 | [] => -1
 | x::r=>if x.1.name=name then x.1.kind else kOf name r
structure Ed where
 fr:Int
 to:Int
 st:Int
def edC (e:Ed):List Value:=[.int .i64 e.fr,.int .i64 e.to,.int .i64 e.st]
def edsC (l:List Ed):List Value:=(l.map edC).flatten
structure Gr (w:World) (G:Nat) (n:Nat) (ev sv:Value) (i o:Int):Prop where
 c0:w.cell? ⟨G,0,none⟩=some (.int .i64 n)
 c1:w.cell? ⟨G,1,none⟩=some ev
 c2:w.cell? ⟨G,2,none⟩=some sv
 c3:w.cell? ⟨G,3,none⟩=some (.int .i64 i)
 c4:w.cell? ⟨G,4,none⟩=some (.int .i64 o)
 fz:∀q,w.frozen? ⟨G,q,none⟩=false
theorem Gr.lt {w:World} {G n:Nat} {ev sv:Value} {i o:Int} (h:Gr w G n ev sv i o):G<w.heap.size:=World.block_lt_of_cell? w ⟨G,0,none⟩ h.c0
theorem Gr.sm {w w':World} {G n:Nat} {ev sv:Value} {i o:Int} (h:Gr w G n ev sv i o) (k:Sm w w' G):Gr w' G n ev sv i o :=
 ⟨(k.cell 0).trans h.c0,(k.cell 1).trans h.c1,(k.cell 2).trans h.c2,(k.cell 3).trans h.c3,(k.cell 4).trans h.c4,fun q=>(k.froz q).trans (h.fz q)⟩
theorem Gr.set0 {w:World} {G n:Nat} {ev sv:Value} {i o:Int} (h:Gr w G n ev sv i o) (m:Nat):Gr (w.setCell ⟨G,0,none⟩ (.int .i64 m)) G m ev sv i o:=by
 obtain ⟨c0,c1,c2,c3,c4,fz⟩:=h
 constructor <;> simp [go_sem,c0,c1,c2,c3,c4,fz]
theorem edsC_get:∀(l:List Ed) (i k:Nat) (x:Ed),l[i]? = some x→k<3→(edsC l)[i*3+k]? = (edC x)[k]?:=by
 intro l
 induction l with
 | nil=>intro i k x h;simp at h
 | cons y r ih =>
  intro i k x h hk
  have e:edsC (y::r)=edC y++edsC r:=by simp [edsC]
  have hl:(edC y).length=3:=rfl
  rw [e]
  cases i with
  | zero =>
   simp at h;subst h
   rw [List.getElem?_append_left (by omega)]
   simp
  | succ i =>
   simp at h
   rw [List.getElem?_append_right (by omega),hl]
   have:(i+1)*3+k - 3=i*3+k:=by omega
   rw [this];exact ih i k x h hk
structure GS (w:World) (G B n:Nat) (ev sv:Value) (i o:Int) (es:List Ed):Prop where
 gr:Gr w G n ev sv i o
 own:w.ownsRow B 179 3 ev es.length (edsC es)
 hG:G<B
 hB:B≤w.heap.size
 ne:es.length≤100000
 ok:∀e∈es,0≤e.fr∧e.fr<n∧0≤e.to∧e.to<n
def Own (w:World) (v v':Value):Prop:=∀b,v'.ownBlock=some b→v.ownBlock=some b∨w.heap.size≤b
abbrev KG (G:Nat) (ev:Value) (w w':World):Prop:=Kp (fun b=>b=G∨ev.ownBlock=some b) w w'
theorem Own.refl (w:World) (v:Value):Own w v v:=fun _ h=>Or.inl h
theorem Own.trans {w w1:World} {v v1 v2:Value} (h:Own w v v1) (hs:w.heap.size≤w1.heap.size) (h2:Own w1 v1 v2):Own w v v2:=by
 intro b hb
 rcases h2 b hb with e|e
 ·exact h b e
 ·exact Or.inr (by omega)
theorem KG.trans {G:Nat} {ev ev1:Value} {w w1 w2:World} (k:KG G ev w w1) (o:Own w ev ev1) (k2:KG G ev1 w1 w2):KG G ev w w2:=by
 refine Kp.trans' k k2 ?_
 rintro i hi (e|e)
 ·exact Or.inl e
 ·rcases o i e with e|e
  ·exact Or.inr e
  ·omega
def WfP (ps:List Pt) (ns:Nat):Prop:=∀(i:Nat) (x:Pt),ps[i]? = some x →
 (x.op=0∧0≤x.step∧x.step<ns)∨(x.op=3∧0≤x.left∧x.left<i∧0≤x.low∧x.low≤9∧(x.high = -1∨(1≤x.high∧x.high≤9)))∨((x.op=1∨x.op=2)∧0≤x.left∧x.left<i∧0≤x.right∧x.right<i)
def lg (ps:List Pt):Nat→Nat→Int
 | 0,_=>0
 | f+1,i =>
  match ps[i]? with
  | none=>0
  | some x =>
   if x.op=0 then 1 else
   if x.op=3 then (if x.high = -1 then lg ps f x.left.toNat else lg ps f x.left.toNat*x.high)
   else lg ps f x.left.toNat+lg ps f x.right.toNat
section
def PtOk (k m ns:Nat) (b d:Nat→Nat) (j:Nat) (x:Pt):Prop :=
 (x.op=0∧(m:Int)≤x.step∧x.step<m+ns∧1≤b j∧5≤d j) ∨
 (x.op=3∧(k:Int)≤x.left∧x.left<j∧0≤x.low∧x.low≤9∧(x.high = -1∨(1≤x.high∧x.high≤9))∧9*b x.left.toNat≤b j∧d x.left.toNat+5≤d j) ∨
 ((x.op=1∨x.op=2)∧(k:Int)≤x.left∧x.left<j∧(k:Int)≤x.right∧x.right<j∧b x.left.toNat+b x.right.toNat≤b j∧d x.left.toNat+d x.right.toNat+5≤d j)
def Seg (k m:Nat) (l:List Pt) (ns c:Nat):Prop :=
 0<l.length∧∃b d:Nat→Nat,(∀i x,l[i]? = some x→PtOk k m ns b d (k+i) x)∧∀i,i<l.length→b (k+i)≤c∧d (k+i)≤5*l.length
theorem PtOk.congr {k m ns j:Nat} {x:Pt} {b d b' d':Nat→Nat} (h:PtOk k m ns b d j x) (hj:k≤j) (hb:∀i,k≤i→i≤j→b' i=b i∧d' i=d i):PtOk k m ns b' d' j x:=by
 obtain ⟨ej,fj⟩:=hb j hj (Nat.le_refl _)
 rcases h with ⟨h1,h2,h3,h4,h5⟩ | ⟨h1,h2,h3,h4,h5,h6,h7,h8⟩ | ⟨h1,h2,h3,h4,h5,h6,h7⟩
 ·exact Or.inl ⟨h1,h2,h3,by rw [ej];exact h4,by rw [fj];exact h5⟩
 ·obtain ⟨el,fl⟩:=hb x.left.toNat (by omega) (by omega)
  exact Or.inr (Or.inl ⟨h1,h2,h3,h4,h5,h6,by rw [ej,el];exact h7,by rw [fj,fl];exact h8⟩)
 ·obtain ⟨el,fl⟩:=hb x.left.toNat (by omega) (by omega)
  obtain ⟨er,fr⟩:=hb x.right.toNat (by omega) (by omega)
  exact Or.inr (Or.inr ⟨h1,h2,h3,h4,h5,by rw [ej,el,er];exact h6,by rw [fj,fl,fr];exact h7⟩)
theorem PtOk.wide {k m ns k' m' ns' j:Nat} {x:Pt} {b d:Nat→Nat} (h:PtOk k m ns b d j x) (hk:k'≤k) (hm:m'≤m) (hn:m+ns≤m'+ns'):PtOk k' m' ns' b d j x:=by
 rcases h with ⟨h1,h2,h3,h4,h5⟩ | ⟨h1,h2,h3,h4,h5,h6,h7,h8⟩ | ⟨h1,h2,h3,h4,h5,h6,h7⟩
 ·exact Or.inl ⟨h1,by omega,by omega,h4,h5⟩
 ·exact Or.inr (Or.inl ⟨h1,by omega,h3,h4,h5,h6,h7,h8⟩)
 ·exact Or.inr (Or.inr ⟨h1,by omega,h3,by omega,h5,h6,h7⟩)
theorem Seg.mono {k m ns c c':Nat} {l:List Pt} (h:Seg k m l ns c) (hc:c≤c'):Seg k m l ns c':=by
 obtain ⟨h0,b,d,h1,h2⟩:=h
 exact ⟨h0,b,d,h1,fun i hi=>⟨Nat.le_trans (h2 i hi).1 hc,(h2 i hi).2⟩⟩
theorem Seg.one (k m:Nat):Seg k m [⟨0,0,0,0,0,m⟩] 1 1:=by
 refine ⟨by simp,fun _=>1,fun _=>5,?_,by intro i _;simp⟩
 intro i x hx
 have:i=0:=by have:=(List.getElem?_eq_some_iff.1 hx).1;simp at this;omega
 subst this
 simp at hx;subst hx
 exact Or.inl ⟨rfl,by simp,by simp;omega,by simp,by simp⟩
theorem Seg.rep {k m ns c:Nat} {l:List Pt} {lo hi:Int} (h:Seg k m l ns c) (hlo:0≤lo∧lo≤9) (hhi:hi = -1∨(1≤hi∧hi≤9)):Seg k m (l++[⟨3,(k:Int)+l.length - 1,0,lo,hi,0⟩]) ns (9*c):=by
 obtain ⟨h0,b,d,h1,h2⟩:=h
 refine ⟨by simp,fun j=>if j<k+l.length then b j else 9*c,fun j=>if j<k+l.length then d j else 5*(l.length+1),?_,?_⟩
 ·intro i x hx
  by_cases hi':i<l.length
  ·rw [List.getElem?_append_left hi'] at hx
   refine (h1 i x hx).congr (by omega) ?_
   intro q _ hq
   exact ⟨if_pos (by omega),if_pos (by omega)⟩
  ·have:i=l.length:=by have:=(List.getElem?_eq_some_iff.1 hx).1;simp at this;omega
   subst this
   simp at hx;subst hx
   have e:((k:Int)+l.length - 1).toNat=k+(l.length - 1):=by omega
   obtain ⟨g1,g2⟩:=h2 (l.length - 1) (by omega)
   refine Or.inr (Or.inl ⟨rfl,by simp;omega,by simp;omega,hlo.1,hlo.2,hhi,?_,?_⟩)
   ·simp only [e];rw [if_pos (by omega),if_neg (by omega)];omega
   ·simp only [e];rw [if_pos (by omega),if_neg (by omega)];omega
 ·intro i hi'
  simp at hi'
  simp only [List.length_append,List.length_cons,List.length_nil]
  by_cases hi2:i<l.length
  ·obtain ⟨g1,g2⟩:=h2 i hi2
   rw [if_pos (by omega),if_pos (by omega)];omega
  ·rw [if_neg (by omega),if_neg (by omega)];omega
theorem Seg.two {k m n1 n2 c1 c2:Nat} {l1 l2:List Pt} {op:Int} (h:Seg k m l1 n1 c1) (h':Seg (k+l1.length) (m+n1) l2 n2 c2) (hop:op=1∨op=2) :
  Seg k m (l1++(l2++[⟨op,(k:Int)+l1.length - 1,(k:Int)+l1.length+l2.length - 1,0,0,0⟩])) (n1+n2) (c1+c2):=by
 obtain ⟨h0,b,d,h1,h2⟩:=h
 obtain ⟨h0',b',d',h1',h2'⟩:=h'
 refine ⟨by simp;omega,fun j=>if j<k+l1.length then b j else if j<k+l1.length+l2.length then b' j else c1+c2,fun j=>if j<k+l1.length then d j else if j<k+l1.length+l2.length then d' j else 5*(l1.length+l2.length+1),?_,?_⟩
 ·intro i x hx
  by_cases hi1:i<l1.length
  ·rw [List.getElem?_append_left hi1] at hx
   refine ((h1 i x hx).congr (by omega) ?_).wide (Nat.le_refl _) (Nat.le_refl _) (by omega)
   intro q _ hq
   exact ⟨if_pos (by omega),if_pos (by omega)⟩
  ·rw [List.getElem?_append_right (by omega)] at hx
   by_cases hi2:i - l1.length<l2.length
   ·rw [List.getElem?_append_left hi2] at hx
    have e:k+i=k+l1.length+(i - l1.length):=by omega
    rw [e]
    refine ((h1' _ x hx).congr (by omega) ?_).wide (by omega) (by omega) (by omega)
    intro q hq0 hq
    refine ⟨?_,?_⟩
    ·show (if q<k+l1.length then b q else if q<k+l1.length+l2.length then b' q else c1+c2)=b' q
     rw [if_neg (by omega),if_pos (by omega)]
    ·show (if q<k+l1.length then d q else if q<k+l1.length+l2.length then d' q else 5*(l1.length+l2.length+1))=d' q
     rw [if_neg (by omega),if_pos (by omega)]
   ·have:i=l1.length+l2.length:=by
     rw [List.getElem?_append_right (by omega)] at hx
     have:=(List.getElem?_eq_some_iff.1 hx).1;simp at this;omega
    subst this
    rw [List.getElem?_append_right (by omega)] at hx
    have e0:l1.length+l2.length - l1.length - l2.length=0:=by omega
    rw [e0] at hx
    simp at hx;subst hx
    have e:((k:Int)+l1.length - 1).toNat=k+(l1.length - 1):=by omega
    have e':((k:Int)+l1.length+l2.length - 1).toNat=k+l1.length+(l2.length - 1):=by omega
    obtain ⟨g1,g2⟩:=h2 (l1.length - 1) (by omega)
    obtain ⟨g3,g4⟩:=h2' (l2.length - 1) (by omega)
    refine Or.inr (Or.inr ⟨hop,by simp;omega,by simp;omega,by simp;omega,by simp;omega,?_,?_⟩)
    ·simp only [e,e']
     rw [if_pos (by omega),if_neg (by omega),if_pos (by omega),if_neg (by omega),if_neg (by omega)];omega
    ·simp only [e,e']
     rw [if_pos (by omega),if_neg (by omega),if_pos (by omega),if_neg (by omega),if_neg (by omega)];omega
 ·intro i hi
  simp only [List.length_append,List.length_cons,List.length_nil] at hi ⊢
  by_cases hi1:i<l1.length
  ·obtain ⟨g1,g2⟩:=h2 i hi1
   rw [if_pos (by omega),if_pos (by omega)];omega
  ·by_cases hi2:i<l1.length+l2.length
   ·obtain ⟨g1,g2⟩:=h2' (i - l1.length) (by omega)
    have e:k+l1.length+(i - l1.length)=k+i:=by omega
    rw [e] at g1 g2
    rw [if_neg (by omega),if_pos (by omega),if_neg (by omega),if_pos (by omega)];omega
   ·rw [if_neg (by omega),if_neg (by omega),if_neg (by omega),if_neg (by omega)];omega
section
variable {α:Type} {pp:α→Nat→Nat→List Pt} {ss:α→List St} {ya:α→List Tok→Prop} {C:Nat}
end
theorem Seg.wf {l:List Pt} {ns c:Nat} (h:Seg 0 0 l ns c):WfP l ns:=by
 obtain ⟨h0,b,d,h1,h2⟩:=h
 intro i x hx
 have:=h1 i x hx
 rw [Nat.zero_add] at this
 rcases this with ⟨h1,h2,h3,h4,h5⟩ | ⟨h1,h2,h3,h4,h5,h6,h7,h8⟩ | ⟨h1,h2,h3,h4,h5,h6,h7⟩
 ·exact Or.inl ⟨h1,by omega,by omega⟩
 ·exact Or.inr (Or.inl ⟨h1,by omega,h3,h4,h5,h6⟩)
 ·exact Or.inr (Or.inr ⟨h1,by omega,h3,by omega,h5⟩)
def bg (ps:List Pt):Nat→Nat→Nat
 | 0,_=>0
 | f+1,i =>
  match ps[i]? with
  | none=>0
  | some x =>
   if x.op=0 then 1 else
   if x.op=3 then (if x.high = -1 then bg ps f x.left.toNat+5 else x.high.toNat*(bg ps f x.left.toNat+2)+1)
   else bg ps f x.left.toNat+bg ps f x.right.toNat+1
end
end Go.Proofs.YtcboiapggnmpfaaGreat
