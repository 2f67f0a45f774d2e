import Derived.Test.YtcboiapggnmpfaaGreatDoorQad
import Derived.Laws.CopyOwn
import Derived.Test.YtcboiapggnmpfaaGreatDoorQab
import Derived.Test.YtcboiapggnmpfaaGreatDoorRows
import Derived.Test.YtcboiapggnmpfaaGreatDoorQaa
import Derived.WalkKit
import Derived.WalkSpells
import Derived.WalkLawsBesides
import Derived.Deep.Light
import Derived.Deep.RegionLaw
import Derived.Deep.DrawnRows
import Derived.Deep.RegionWith
import Derived.Deep.RegionHeld3
import Derived.Test.YtcboiapggnmpfaaGreatDoorQac
import Derived.Deep.QuietTactic
namespace Go.Proofs.YtcboiapggnmpfaaGreatDoor
set_option maxRecDepth 100000
set_option maxHeartbeats 1000000
set_option linter.unusedSimpArgs false
set_option linter.unusedVariables false
open Go.RowKit
def codeC (l:List In):List Value:=(l.map insC).flatten
theorem codeC_get:∀(l:List In) (i k:Nat) (x:In),l[i]? = some x→k<14→(codeC l)[i*14+k]? = (insC x)[k]?:=by
 intro l
 induction l with
 | nil=>intro i k x h;simp at h
 | cons y r ih =>
  intro i k x h hk
  have e:codeC (y::r)=insC y++codeC r:=by simp [codeC]
  have hl:(insC y).length=14:=rfl
  rw [e]
  cases i with
  | zero =>
   simp at h;subst h
   rw [List.getElem?_append_left (by omega)]
   simp
  | succ i =>
   simp at h
   rw [List.getElem?_append_right (by omega),hl]
   have:(i+1)*14+k - 14=i*14+k:=by omega
   rw [this];exact ih i k x h hk
theorem Code'.of_cells {w:World} {g:Nat} {l:List In} (hl:g<w.heap.size) (h:∀j v,(codeC l)[j]? = some v→w.cell? ⟨g,j,none⟩=some v):Code' w g l:=by
 refine ⟨hl,fun i x hx k v hv => ?_⟩
 have hk:k<14:=(List.getElem?_eq_some_iff.1 hv).1
 exact h (i*14+k) v (by rw [codeC_get l i k x hx hk];exact hv)
theorem codeC_one (l:List In):∀v∈codeC l,v.oneCell'=true:=by
 intro v hv
 obtain ⟨y,hy,hv⟩:=List.mem_flatten.1 hv
 obtain ⟨x,_,rfl⟩:=List.mem_map.1 hy
 simp only [insC,List.mem_cons,List.not_mem_nil,or_false] at hv
 rcases hv with h|h|h|h|h|h|h|h|h|h|h|h|h|h <;> subst h <;> rfl
theorem Tryz.info120:(Tryz.prog.info? 120).map (fun i=>(i.zero,i.size,i.bytes))=some (some (.agg #[.int .i64 0,.int .i64 0,.int .i64 0,.int .i64 0,.int .i64 0,.int .i64 0,.int .i64 0,.int .i64 0,.int .i64 0,.int .i64 0,.int .i64 0,.int .i64 0,.int .i64 0,.int .i64 0]),14,112):=by kernel_rfl
theorem Row.of_fullS {w:World} {base g n size:Nat} {e:TypeId} {xs:List Value} (h:w.ownsRow base e size (.slice (some ⟨g,0,none⟩) n n) n xs):Row w g e xs:=by
 obtain ⟨h1,h2⟩:=h
 rcases h2 with ⟨h2,_⟩ | ⟨g',cap,cur,h2,_,h3,_,_,h4,h5⟩
 ·simp at h2
 ·simp at h2
  obtain ⟨rfl,rfl⟩:=h2
  rw [Row,h3]
  have:cur.toList=xs:=by
   rw [←h5,List.take_of_length_le]
   simp [h4]
  rw [←this]
def mk1:In:=⟨77,0,0,tst0⟩
structure CuP where
 C:Nat
 gs:Nat
 cs:Nat
 ga:Nat
 ca:Nat
 T:Nat
def tsC (t:Tst):List Value:=[.int .i64 t.left.of,.int .i64 t.left.field,.int .i64 t.left.num,.int .i64 t.rel,.int .i64 t.right.of,.int .i64 t.right.field,.int .i64 t.right.num,.int .i64 t.arith,.int .i64 t.more.of,.int .i64 t.more.field,.int .i64 t.more.num]
def tssC (l:List Tst):List Value:=(l.map tsC).flatten
theorem news_snd (w2:World) (o:Obj) (cs:Array Value) (t:TypeId):∀j u,cs.toList[j]? = some u→((w2.alloc o).alloc (.cells cs t)).cell? ((⟨w2.heap.size+1,0,none⟩:Addr).add j)=some u :=
 World.news_of_block (by have:=heap_alloc_new (w2.alloc o) (.cells cs t);simpa using this)
structure Ed where
 fr:Int
 to:Int
 st:Int
section
section
variable {α:Type} {pp:α→Nat→Nat→List Pt} {ss:α→List St} {ya:α→List Tok→Prop} {C:Nat}
end
def bg (ps:List Pt):Nat→Nat→Nat
 | 0,_=>0
 | f+1,i =>
  match ps[i]? with
  | none=>0
  | some x =>
   if x.op=0 then 1 else
   if x.op=3 then (if x.high = -1 then bg ps f x.left.toNat+5 else x.high.toNat*(bg ps f x.left.toNat+2)+1)
   else bg ps f x.left.toNat+bg ps f x.right.toNat+1
end
structure PC (w:World) (X:Nat) (x:Pt):Prop where
 c0:w.cell? ⟨X,0,none⟩=some (.int .i64 x.op)
 c1:w.cell? ⟨X,1,none⟩=some (.int .i64 x.left)
 c2:w.cell? ⟨X,2,none⟩=some (.int .i64 x.right)
 c3:w.cell? ⟨X,3,none⟩=some (.int .i64 x.low)
 c4:w.cell? ⟨X,4,none⟩=some (.int .i64 x.high)
 c5:w.cell? ⟨X,5,none⟩=some (.int .i64 x.step)
 lt:X<w.heap.size
def wi (ps:List Pt):Nat→Nat→Int→Bool→Bool
 | 0,_,_,_=>false
 | f+1,i,k,deep =>
  match ps[i]? with
  | none=>false
  | some x =>
   if x.op=0 then (deep&&(x.step == k)) else
   if x.op=3 then wi ps f x.left.toNat k true
   else (wi ps f x.left.toNat k deep||wi ps f x.right.toNat k deep)
def hasF (l:List Int) (k:Int):Int:=if k=4 then 0 else if 0≤k∧k<l.length then l.getD k.toNat 0 - 48 else -1
def f0:Fm:=⟨0,0,0,0,0⟩
def isNew (ss:List (St×Value)) (i:Nat) (n:Int):Bool:=decide (0≤n)&&(ss.take i).all (fun y=>y.1.name != n)
def slotsTo (ss:List (St×Value)):Nat→List Int
 | 0=>[]
 | i+1=>match ss[i]? with
  | none=>slotsTo ss i
  | some x=>if isNew ss i x.1.name=true then slotsTo ss i++[x.1.name] else slotsTo ss i
theorem slotsTo_len (ss:List (St×Value)):∀i,(slotsTo ss i).length≤i:=by
 intro i
 induction i with
 | zero=>simp [slotsTo]
 | succ i ih =>
  simp only [slotsTo]
  split
  ·omega
  ·split
   ·simp;omega
   ·omega
theorem eqb_no {a b:Int} (h:¬a=b):(a == b)=false:=by simp [h]
def ReachZ (w:World) (R g cap gb:Nat) (l:List In) (bs:List Bool) (q:List Nat) (e:Ending) (w':World):Prop :=
 e=.returned (.tuple #[])∧∃ov',WS w' R g cap gb l ov' bs q∧Kp (fun b=>gb≤b) w w'
theorem reachZ_any (R g cap gb:Nat) (z:Int) (l:List In) (ov:Value) (bs:List Bool) (q:List Nat) (w:World) (h:WS w R g cap gb l ov bs q) (hz:z = -1∨∃j:Nat,z=j∧j<l.length) (hn:l.length≤1000) :
  Calls Tryz.prog 80 #[.pointer (some ⟨R,0,none⟩),.int .i64 z] w (ReachZ w R g cap gb l (mkB bs z) (mkQ bs q z)):=by
 rcases hz with rfl|⟨j,rfl,hj⟩
 ·have H:Hid (WS w R g cap gb l ov bs q):=h
  obtain ⟨⟨c0,c1,c2,fz⟩,hcode,hrow,hown,hlen,hcnt,hg,hR,hne⟩:=h
  rw [mkB_neg,mkQ_neg]
  go_enter Tryz.func80,Tryz.ntmps80
  go_wp2
  go_end0
  exact ⟨rfl,ov,H.out,Kp.refl _ _⟩
 ·refine (reach_any R g cap gb j l ov bs q w h hj hn).mono ?_
  rintro e w' ⟨rfl,h1⟩
  refine ⟨rfl,?_⟩
  rcases h1 with ⟨hb,rfl⟩ | ⟨hb,ov',hw,hk⟩
  ·refine ⟨ov,?_,Kp.refl _ _⟩
   have e1:mkB bs (j:Int)=bs:=by simp [mkB,hb]
   have e2:mkQ bs q (j:Int)=q:=by simp [mkQ,hb]
   rw [e1,e2];exact h
  ·refine ⟨ov',?_,hk⟩
   have e1:mkB bs (j:Int)=bs.set j true:=by simp [mkB,hb]
   have e2:mkQ bs q (j:Int)=q++[j]:=by simp [mkQ,hb]
   rw [e1,e2];exact hw
theorem nextOf_any (x:In) (i:Nat) (w:World) (hi:i≤1000) :
  Calls Tryz.prog 103 #[insV x,.int .i64 i] w fun e w'=>e=.returned (.tuple #[.int .i64 (nx1 x i),.int .i64 (nx2 x i)])∧Nw w w':=by
 obtain ⟨o,a,b,⟨⟨t1,t2,t3⟩,t4,⟨t5,t6,t7⟩,t8,⟨t9,t10,t11⟩⟩⟩:=x
 simp only [insV,nx1,nx2]
 by_cases h4:o=4
 ·subst h4
  go_enter Tryz.func103,Tryz.ntmps103
  go_wp2
  go_quiet (fail)
  go_wp2
  go_ret2
  exact ⟨rfl,((Kp.refl _ _).alloc _).drewN _⟩
 by_cases h5:o=5
 ·subst h5
  go_enter Tryz.func103,Tryz.ntmps103
  go_wp2
  go_quiet (fail)
  go_wp2
  go_ret2
  exact ⟨rfl,((Kp.refl _ _).alloc _).drewN _⟩
 by_cases h6:o=6
 ·subst h6
  go_enter Tryz.func103,Tryz.ntmps103
  go_wp2
  go_ret2
  exact ⟨rfl,(Kp.refl _ _).alloc _⟩
 ·simp only [if_neg h4,if_neg h5,if_neg h6]
  have n4:=eqb_no h4
  have n5:=eqb_no h5
  have n6:=eqb_no h6
  clear h4 h5 h6
  go_enter Tryz.func103,Tryz.ntmps103
  go_wp2
  go_ret2
  exact ⟨rfl,(Kp.refl _ _).alloc _⟩
theorem nx_ok {l:List In} (hA:AllIns l) {i:Nat} {x:In} (hx:l[i]? = some x):(nx1 x i = -1∨∃j:Nat,nx1 x i=j∧j<l.length)∧(nx2 x i = -1∨∃j:Nat,nx2 x i=j∧j<l.length):=by
 rcases nx_spec hA hx with ⟨h6,e1,e2,e3⟩ | ⟨h6,j1,j2,e1,e2,l1,l2,e3⟩
 ·exact ⟨Or.inl e1,Or.inl e2⟩
 ·exact ⟨Or.inr ⟨j1,e1,l1⟩,Or.inr ⟨j2,e2,l2⟩⟩
theorem WS.nw {w w':World} {R g cap gb:Nat} {l:List In} {ov:Value} {bs:List Bool} {q:List Nat} (h:WS w R g cap gb l ov bs q) (k:Nw w w'):WS w' R g cap gb l ov bs q :=
 ⟨h.wk.sm (k.sm h.wk.lt (fun h=>h)),h.code.kp k (fun h=>h),h.row.kp k (fun h=>h),owns_kp h.own k (fun _ _ h=>h),h.len,h.cnt,h.hg,h.hR,h.ne⟩
theorem leave_any (R g cap gb:Nat) (l:List In) (ov:Value) (bs:List Bool) (q:List Nat) (x:Nat) (v:In) (w:World) (h:WS w R g cap gb l ov bs q) (hv:l[x]? = some v) (hA:AllIns l) (hn:l.length≤1000) :
  Calls Tryz.prog 81 #[.pointer (some ⟨R,0,none⟩),.int .i64 x] w (ReachZ w R g cap gb l (mkB (mkB bs (nx1 v x)) (nx2 v x)) (mkQ (mkB bs (nx1 v x)) (mkQ bs q (nx1 v x)) (nx2 v x))):=by
 have hxl:x<l.length:=(List.getElem?_eq_some_iff.1 hv).1
 obtain ⟨z1,z2⟩:=nx_ok hA hv
 have H:Hid (WS w R g cap gb l ov bs q):=h
 have Z1:Hid (nx1 v x = -1∨∃j:Nat,nx1 v x=j∧j<l.length):=z1
 have Z2:Hid (nx2 v x = -1∨∃j:Nat,nx2 v x=j∧j<l.length):=z2
 obtain ⟨d0,d1,d2,d3,d4,d5,d6,d7,d8,d9,d10,d11,d12,d13⟩:=(h.code.ins x v hv).cells
 obtain ⟨⟨c0,c1,c2,fz⟩,_,_,_,hlen,hcnt,hg,hR,hne⟩:=h
 have hl:R<w.heap.size:=H.out.wk.lt
 have hRg:¬R=g:=by omega
 have hgR:¬g=R:=by omega
 have hx1:x≤1000:=by omega
 clear hv z1 z2
 go_enter Tryz.func81,Tryz.ntmps81
 go_wp2_with fail
 refine (nextOf_any v x _ hx1).mono ?_
 rintro e w1 ⟨rfl,k1⟩
 have H1:Hid (WS w1 R g cap gb l ov bs q):=H.out.nw k1
 have K1:Hid (Kp (fun b=>gb≤b) w w1):=k1.mono (fun _ _ h=>False.elim h)
 clear k1 d0 d1 d2 d3 d4 d5 d6 d7 d8 d9 d10 d11 d12 d13 c0 c1 c2 fz
 generalize nx1 v x=n1 at *
 generalize nx2 v x=n2 at *
 go_wp2_with fail
 refine (reachZ_any R g cap gb n1 l ov bs q w1 H1.out Z1.out hn).mono ?_
 rintro e w2 ⟨rfl,ov2,hw2,k2⟩
 have H2:Hid (WS w2 R g cap gb l ov2 (mkB bs n1) (mkQ bs q n1)):=hw2
 have K2:Hid (Kp (fun b=>gb≤b) w w2):=K1.out.trans k2
 clear hw2 k2
 go_wp2_with fail
 refine (reachZ_any R g cap gb n2 l ov2 _ _ w2 H2.out Z2.out hn).mono ?_
 rintro e w3 ⟨rfl,ov3,hw3,k3⟩
 go_wp2
 go_end0
 exact ⟨rfl,ov3,hw3,K2.out.trans k3⟩
open Value (bool)
theorem owns_pop {w:World} {base g cap n:Nat} {e:TypeId} {xs:List Value} {x:Value} (h:w.ownsRow base e 1 (.slice (some ⟨g,0,none⟩) (n+1) cap) (n+1) (xs++[x])):w.ownsRow base e 1 (.slice (some ⟨g,0,none⟩) n cap) n xs:=by
 obtain ⟨h1,h2⟩:=h
 have hx:xs.length=n:=by simpa using h1
 refine ⟨by omega,?_⟩
 rcases h2 with ⟨h2,_⟩ | ⟨g',cap',cur,h2,hb,h3,h4,h5,h6,h7⟩
 ·simp at h2
 ·simp at h2
  obtain ⟨rfl,rfl⟩:=h2
  refine Or.inr ⟨g,cap,cur,rfl,hb,h3,by omega,h5,h6,?_⟩
  have:(cur.toList.take ((n+1)*1)).take n=xs:=by rw [h7,List.take_append_of_le_length (by omega),List.take_of_length_le (by omega)]
  rw [List.take_take] at this
  have e1:min n ((n+1)*1)=n*1:=by omega
  rw [e1] at this;exact this
theorem owns_cap {w:World} {base g cap n size:Nat} {e:TypeId} {xs:List Value} (h:w.ownsRow base e size (.slice (some ⟨g,0,none⟩) n cap) n xs):n≤cap:=by
 rcases h.2 with ⟨h2,_⟩ | ⟨g',cap',cur,h2,hb,h3,h4,h5,h6,h7⟩
 ·simp at h2
 ·simp at h2
  obtain ⟨rfl,rfl⟩:=h2
  exact h4
theorem snoc_of {q:List Nat} (h:¬q=[]):∃q' x,q=q'++[x]:=⟨q.dropLast,q.getLast h,(List.dropLast_concat_getLast h).symm⟩
theorem comesBack_any (g cap i:Nat) (l:List In) (w:World) (hc:Code' w g l) (hA:AllIns l) (hi:i<l.length) (hn:l.length≤1000) :
  Calls Tryz.prog 79 #[.slice (some ⟨g,0,none⟩) l.length cap,.int .i64 i] w fun e w' =>
   ∃b,e=.returned (.bool b)∧(b=true↔Rch l false i i)∧Nw w w':=by
 have hl:=hc.lt
 obtain ⟨i0,hi0,hz0,hz1,hz2⟩:=info_parts Tryz.info4
 go_enter Tryz.func79,Tryz.ntmps79
 go_wp2_with (first|(at_make;refine wpList_make_full _ rfl _ _ 170 rfl w.heap.size 4 i0 (.bool false) 1 Tryz.underlying170 hi0 hz0 hz1 _ _ _ _ l.length rfl rfl rfl rfl ?b1 ?b2 ?b3 ?_)|fail)
 case b1=>rw [hz2];omega
 case b2=>unfold maxLen;omega
 case b3=>exact Nat.le_refl _
 intro w1 hown1 hgrow1
 have R1:Hid (Row w1 w.heap.size 4 ((List.replicate l.length false).map bool)):=by
  have:=Row.of_full hown1
  rw [made_bools] at this
  exact this
 have K1:Hid (Nw w w1):=(Kp.refl _ w).grown hgrow1 (by intro k hk;cases hk)
 have hs1:=R1.out.lt
 have C1:Hid (Code' w1 g l):=hc.kp K1.out (fun h=>h)
 clear hown1 hgrow1
 go_wp2
 go_loopg [] (1+l.length) (fun m wr=>∃(ov:Value) (bs:List Bool) (q:List Nat) (done:Nat→Prop),m=q.length+bs.count false∧WS wr (w1.heap.size+1) g cap w.heap.size l ov bs q∧Srch l false i bs done q∧Nw w wr)
 case atStart =>
  refine ⟨.slice (some ⟨w1.heap.size,0,none⟩) 1 1,List.replicate l.length false,[i],fun _=>False,by simp,?_,Srch.start l false i hi,(K1.out.alloc _).alloc _⟩
  refine ⟨?_,(C1.out.kp ((Kp.refl (fun _=>False) w1).alloc _) (fun h=>h)).kp ((Kp.refl (fun _=>False) _).alloc _) (fun h=>h),(R1.out.alloc _).alloc _,(owns_new w1 (Nat.le_of_lt hs1) _ _ 1 1 rfl (by unfold maxLen;omega)).alloc _,by simp,by simp;omega,hl,by omega,by simp [Value.ownBlock]⟩
  constructor <;> simp [go_sem,World.cell?_alloc_at,World.frozen?_alloc_at]
 case round =>
  obtain ⟨ov,bs,q,done,hm,hW,hS,hK⟩:=hrel
  have H:Hid (WS wr (w1.heap.size+1) g cap w.heap.size l ov bs q):=hW
  have HS:Hid (Srch l false i bs done q):=hS
  have HK:Hid (Nw w wr):=hK
  have HM:Hid (gk=q.length+bs.count false):=hm
  obtain ⟨b,hb⟩:∃b,bs[i]? = some b:=⟨bs[i]'(by rw [hW.len];exact hi),by simp [hW.len,hi]⟩
  have cb:wr.cell? ⟨w.heap.size,i,none⟩=some (.bool b):=by rw [hW.row.cell];simp [hb]
  have HB:Hid (bs[i]? = some b):=hb
  obtain ⟨⟨c0,c1,c2,fz⟩,hcode,hrow,hown,hlen,hcnt,hg,hR,hne⟩:=hW
  have hRl:w1.heap.size+1<wr.heap.size:=H.out.wk.lt
  clear hS hK hm hb hrow R1 K1 C1
  by_cases hq:q=[]
  ·subst hq
   have hv:=hown.2
   have hlen0:∃p cc,ov=.slice p 0 cc:=by
    rcases hv with ⟨e,_⟩ | ⟨g',cap',cur,e,_⟩
    ·exact ⟨none,0,e⟩
    ·exact ⟨_,_,e⟩
   obtain ⟨p,cc,rfl⟩:=hlen0
   go_wp2
   go_ret
   refine ⟨b,rfl,?_,HK.out⟩
   rw [←HS.out.over i,HB.out]
   simp
  ·obtain ⟨q',x,rfl⟩:=snoc_of hq
   obtain ⟨go,cpo,rfl,hgo1,hgo2⟩:=hown.form (by simp)
   cases b with
   | true =>
    go_wp2
    go_ret
    exact ⟨true,rfl,⟨fun _=>HS.out.sound i HB.out,fun _=>rfl⟩,HK.out⟩
   | false =>
    have hxl:x<l.length:=HS.out.lt x (by simp)
    obtain ⟨v,hv⟩:∃v,l[x]? = some v:=⟨l[x],by simp [hxl]⟩
    have cat:wr.cell? ⟨go,q'.length,none⟩=some (.int .i64 x):=owns_cell hown q'.length (by simp [intsV])
    have cop:wr.cell? ⟨g,x*14,none⟩=some (.int .i64 v.op):=(hcode.ins x v hv).cells.1
    have hRgo:¬go=w1.heap.size+1:=by simpa [Value.ownBlock] using hne
    have hRg:¬g=w1.heap.size+1:=by omega
    have hRg':¬w1.heap.size+1=g:=by omega
    have HV:Hid (l[x]? = some v):=hv
    have hql:q'.length≤1001:=by simp at hcnt;omega
    have hpo:¬cpo<q'.length:=by have:=owns_cap hown;simp at this;omega
    simp only [List.length_append,List.length_cons,List.length_nil] at c2
    clear hown hcode hv hne
    have kp:Kp (fun b=>b=w1.heap.size+1) wr (wr.setCell ⟨w1.heap.size+1,2,none⟩ (.slice (some ⟨go,0,none⟩) q'.length cpo)):=(Kp.refl (fun b=>b=w1.heap.size+1) wr).setCell (p:=⟨w1.heap.size+1,2,none⟩) (Or.inr rfl) _
    have HW2:Hid (WS (wr.setCell ⟨w1.heap.size+1,2,none⟩ (.slice (some ⟨go,0,none⟩) q'.length cpo)) (w1.heap.size+1) g cap w.heap.size l (.slice (some ⟨go,0,none⟩) q'.length cpo) bs q'):=by
     refine ⟨H.out.wk.set2 _,H.out.code.kp kp hRg,H.out.row.kp kp (by omega),?_,hlen,by simp at hcnt;omega,hg,hR,by simpa [Value.ownBlock] using hRgo⟩
     have ho:=H.out.own
     have e2:intsV (q'++[x])=intsV q'++[.int .i64 (x:Int)]:=by simp [intsV]
     rw [e2] at ho
     simp only [List.length_append,List.length_cons,List.length_nil] at ho
     exact owns_kp (owns_pop ho) kp (by intro b hb e;simp [Value.ownBlock] at hb;omega)
    have HL:Hid (Leav l false i bs done q' x []):=HS.out.leave (by simp) (by intro y hy;simp at hy;exact hy.symm) (by intro y hy;simp [hy])
    have HK2:Hid (Nw w (wr.setCell ⟨w1.heap.size+1,2,none⟩ (.slice (some ⟨go,0,none⟩) q'.length cpo))):=HK.out.setCell (p:=⟨w1.heap.size+1,2,none⟩) (Or.inl (by show w.heap.size≤w1.heap.size+1;omega)) _
    have HM2:Hid (gk=q'.length+1+bs.count false):=by
     show _=_
     rw [HM.out];simp
    clear kp HM
    by_cases h0:v.op=0
    ·rw [h0] at cop
     go_wp2
     go_roundg (q'.length+bs.count false)
     case measure=>rw [HM2.out];omega
     case rel=>exact ⟨_,bs,q',_,rfl,HW2.out,HL.out.left (fun j hj=>absurd hj (edge_take HV.out h0 j)),HK2.out⟩
    ·have h0':(v.op != 0)=true:=by simp [h0]
     go_wp2_with fail
     refine (leave_any (w1.heap.size+1) g cap w.heap.size l _ bs q' x v _ HW2.out HV.out hA hn).mono ?_
     rintro e w2 ⟨rfl,ov2,hw2,k2⟩
     have hcnt2:Hid ((mkQ (mkB bs (nx1 v x)) (mkQ bs q' (nx1 v x)) (nx2 v x)).length+(mkB (mkB bs (nx1 v x)) (nx2 v x)).count false=q'.length+bs.count false):=by
      show _=_
      rw [mk_cnt,mk_cnt]
     have HS2:Hid (Srch l false i _ (fun y=>done y∨y=x) _):=HL.out.both hA HV.out (fun e=>absurd e h0)
     generalize mkB (mkB bs (nx1 v x)) (nx2 v x)=bs2 at *
     generalize mkQ (mkB bs (nx1 v x)) (mkQ bs q' (nx1 v x)) (nx2 v x)=q2 at *
     have H2:Hid (WS w2 (w1.heap.size+1) g cap w.heap.size l ov2 bs2 q2):=hw2
     have HK3:Hid (Nw w w2):=HK2.out.trans' k2 (by intro b hb e;omega)
     clear hw2 k2 cop cat c0 c1 c2 fz
     go_wp2
     go_roundg (q2.length+bs2.count false)
     case measure=>have:=hcnt2.out;rw [HM2.out];omega
     case rel=>exact ⟨ov2,bs2,q2,_,rfl,H2.out,HS2.out,HK3.out⟩
structure KF (R gb:Nat) (ov ov':Value) (w w':World):Prop where
 kp:Kp (fun b=>b=R∨b=gb∨ov.ownBlock=some b) w w'
 ow:∀b,ov'.ownBlock=some b→ov.ownBlock=some b∨w.heap.size≤b
theorem KF.refl (R gb:Nat) (ov:Value) (w:World):KF R gb ov ov w w:=⟨Kp.refl _ _,fun b h=>Or.inl h⟩
theorem KF.of_nw {R gb:Nat} {ov:Value} {w w':World} (k:Nw w w'):KF R gb ov ov w w':=⟨k.mono (fun _ _ h=>h.elim),fun b h=>Or.inl h⟩
theorem KF.trans {R gb:Nat} {o1 o2 o3:Value} {w1 w2 w3:World} (h:KF R gb o1 o2 w1 w2) (k:KF R gb o2 o3 w2 w3):KF R gb o1 o3 w1 w3:=by
 refine ⟨h.kp.trans' k.kp ?_,?_⟩
 ·rintro i hi (e|e|e)
  ·exact Or.inl e
  ·exact Or.inr (Or.inl e)
  ·rcases h.ow i e with e' | e'
   ·exact Or.inr (Or.inr e')
   ·omega
 ·intro b hb
  rcases k.ow b hb with e|e
  ·exact h.ow b e
  ·exact Or.inr (Nat.le_trans h.kp.size e)
def ReachPostF (w:World) (R g cap gb:Nat) (l:List In) (ov:Value) (bs:List Bool) (q:List Nat) (j:Nat) (e:Ending) (w':World):Prop :=
 e=.returned (.tuple #[])∧((bs[j]? = some true∧w'=w)∨(bs[j]? = some false∧∃ov',WS w' R g cap gb l ov' (bs.set j true) (q++[j])∧KF R gb ov ov' w w'))
theorem reachF_any (R g cap gb j:Nat) (l:List In) (ov:Value) (bs:List Bool) (q:List Nat) (w:World) (h:WS w R g cap gb l ov bs q) (hj:j<l.length) (hn:l.length≤1000) :
  Calls Tryz.prog 80 #[.pointer (some ⟨R,0,none⟩),.int .i64 j] w (ReachPostF w R g cap gb l ov bs q j):=by
 have H:Hid (WS w R g cap gb l ov bs q):=h
 obtain ⟨⟨c0,c1,c2,fz⟩,hcode,hrow,hown,hlen,hcnt,hg,hR,hne⟩:=h
 have hl:R<w.heap.size:=H.out.wk.lt
 obtain ⟨i1,hi1,hy0,hy1,hy2⟩:=info_parts Tryz.info3
 obtain ⟨b,hb⟩:∃b,bs[j]? = some b:=⟨bs[j]'(by rw [hlen];exact hj),by simp [hlen,hj]⟩
 have cb:w.cell? ⟨gb,j,none⟩=some (.bool b):=by rw [hrow.cell];simp [hb]
 have fb:∀o,w.frozen? ⟨gb,o,none⟩=false:=hrow.froz
 have hRg:¬R=gb:=by omega
 have hRg':¬gb=R:=by omega
 have HB:Hid (bs[j]? = some b):=hb
 clear hb hcode hrow
 cases b with
 | true =>
  go_enter Tryz.func80,Tryz.ntmps80
  go_wp2
  go_end0
  exact ⟨rfl,Or.inl ⟨HB.out,rfl⟩⟩
 | false =>
  have ks:Kp (fun b=>b=gb) w (w.setCell ⟨gb,j,none⟩ (.bool true)):=(Kp.refl (fun b=>b=gb) w).setCell (p:=⟨gb,j,none⟩) (Or.inr rfl) _
  have hrow':=owns_row_ne hown H.out.row (by decide)
  have O1:Hid ((w.setCell ⟨gb,j,none⟩ (.bool true)).ownsRow gb 3 1 ov q.length (intsV q)):=owns_kp hown ks (by intro b hb e;subst e;exact hrow' hb.symm)
  have KS:Hid (Kp (fun b=>b=gb) w (w.setCell ⟨gb,j,none⟩ (.bool true))):=ks
  have HRW:Hid (¬some gb=ov.ownBlock):=hrow'
  clear ks hown hrow'
  go_enter Tryz.func80,Tryz.ntmps80
  go_wp2_with (at_builtin;refine wpList_append_lies _ rfl _ _ 22 rfl gb 3 i1 (.int .i64 0) 1 8 Tryz.underlying22 hi1 hy0 hy1 hy2 rfl (by decide) _ _ _ rfl (O1.out.alloc _) ⟨w.heap.size,0,none⟩ 1 1 [.int .i64 (j:Int)] rfl rfl ?c1 ?c2 (by decide) ?c3 ?c4 ?c5 _ rfl ?_)
  case c1=>exact news_one _ (by simp) _ _
  case c2=>exact intsV_one [j]
  case c3=>unfold maxLen;omega
  case c4=>omega
  case c5=>simp;omega
  intro g3 cap3 w3 hown3 hgrow hat hlt
  have kg:Kp (fun b=>b=gb∨ov.ownBlock=some b) w w3:=((KS.out.mono (fun _ _ e=>Or.inl e)).alloc _).grown hgrow (by intro b hb;exact Or.inr (Or.inr hb))
  have hnS:¬(R=gb∨ov.ownBlock=some R):=by
   rintro (e|e)
   ·exact hRg e
   ·exact hne e
  have wk3:Wk w3 R (.slice (some ⟨g,0,none⟩) l.length cap) (.slice (some ⟨gb,0,none⟩) l.length l.length) ov:=H.out.wk.sm (kg.sm hl hnS)
  have hg3:¬g3=R:=by
   rcases hat with e|e
   ·intro e2;subst e2;exact hne e
   ·have:w.heap.size≤g3:=by rw [e];simp
    omega
  have hge:∀b,ov.ownBlock=some b→gb≤b:=by
   intro b hb
   rcases H.out.own.2 with ⟨e1,_⟩ | ⟨g',cap',cur,e1,e2,_⟩
   ·rw [e1] at hb;simp [Value.ownBlock] at hb
   ·rw [e1] at hb;simp [Value.ownBlock] at hb;omega
  have R3:Hid (Row w3 gb 4 ((bs.set j true).map bool)):=by
   have:=((H.out.row.set j (.bool true)).alloc (.cells #[.int .i64 (j:Int)] 3)).grown hgrow HRW.out
   show Row _ _ _ _
   rw [List.map_set];exact this
  have C3:Hid (Code' w3 g l):=H.out.code.kp kg (by
   rintro (e|e)
   ·omega
   ·have:=hge g e;omega)
  have O3:Hid (w3.ownsRow gb 3 1 (.slice (some ⟨g3,0,none⟩) (q.length+1) cap3) (q++[j]).length (intsV (q++[j]))):=by
   have e1:(q++[j]).length=q.length+1:=by simp
   have e2:intsV (q++[j])=intsV q++[.int .i64 (j:Int)]:=by simp [intsV]
   show w3.ownsRow _ _ _ _ _ _
   rw [e1,e2];exact hown3
  have K3:Hid (KF R gb ov (.slice (some ⟨g3,0,none⟩) (q.length+1) cap3) w w3):=⟨kg.mono (fun b _ e=>Or.inr e),(by
   intro b hb
   simp only [Value.ownBlock,Option.some.injEq] at hb
   subst hb
   rcases hat with e|e
   ·exact Or.inl e
   ·right;rw [e];simp)⟩
  have W3:Hid (Wk w3 R (.slice (some ⟨g,0,none⟩) l.length cap) (.slice (some ⟨gb,0,none⟩) l.length l.length) ov):=wk3
  obtain ⟨c0',c1',c2',fz'⟩:=wk3
  clear kg hown3 hgrow hat c0 c1 c2 fz cb fb
  go_wp2
  go_end0
  have kR:Kp (fun b=>b=R) w3 (w3.setCell ⟨R,2,none⟩ (.slice (some ⟨g3,0,none⟩) (q.length+1) cap3)):=(Kp.refl (fun b=>b=R) w3).setCell (p:=⟨R,2,none⟩) (Or.inr rfl) _
  refine ⟨rfl,Or.inr ⟨HB.out,.slice (some ⟨g3,0,none⟩) (q.length+1) cap3,?_,?_⟩⟩
  ·refine ⟨W3.out.set2 _,C3.out.kp kR (by intro e;omega),R3.out.kp kR (fun e=>hRg e.symm),owns_kp O3.out kR (by intro b hb e;simp [Value.ownBlock] at hb;exact hg3 (by omega)),by simp [hlen],?_,hg,hR,by simpa [Value.ownBlock] using hg3⟩
   have:=count_set HB.out
   simp;omega
  ·exact ⟨K3.out.kp.setCell (p:=⟨R,2,none⟩) (Or.inr (Or.inl rfl)) _,K3.out.ow⟩
def ReachZF (w:World) (R g cap gb:Nat) (l:List In) (ov:Value) (bs:List Bool) (q:List Nat) (e:Ending) (w':World):Prop :=
 e=.returned (.tuple #[])∧∃ov',WS w' R g cap gb l ov' bs q∧KF R gb ov ov' w w'
theorem reachZF_any (R g cap gb:Nat) (z:Int) (l:List In) (ov:Value) (bs:List Bool) (q:List Nat) (w:World) (h:WS w R g cap gb l ov bs q) (hz:z = -1∨∃j:Nat,z=j∧j<l.length) (hn:l.length≤1000) :
  Calls Tryz.prog 80 #[.pointer (some ⟨R,0,none⟩),.int .i64 z] w (ReachZF w R g cap gb l ov (mkB bs z) (mkQ bs q z)):=by
 rcases hz with rfl|⟨j,rfl,hj⟩
 ·have H:Hid (WS w R g cap gb l ov bs q):=h
  obtain ⟨⟨c0,c1,c2,fz⟩,hcode,hrow,hown,hlen,hcnt,hg,hR,hne⟩:=h
  rw [mkB_neg,mkQ_neg]
  go_enter Tryz.func80,Tryz.ntmps80
  go_wp2
  go_end0
  exact ⟨rfl,ov,H.out,KF.refl _ _ _ _⟩
 ·refine (reachF_any R g cap gb j l ov bs q w h hj hn).mono ?_
  rintro e w' ⟨rfl,h1⟩
  refine ⟨rfl,?_⟩
  rcases h1 with ⟨hb,rfl⟩ | ⟨hb,ov',hw,hk⟩
  ·refine ⟨ov,?_,KF.refl _ _ _ _⟩
   have e1:mkB bs (j:Int)=bs:=by simp [mkB,hb]
   have e2:mkQ bs q (j:Int)=q:=by simp [mkQ,hb]
   rw [e1,e2];exact h
  ·refine ⟨ov',?_,hk⟩
   have e1:mkB bs (j:Int)=bs.set j true:=by simp [mkB,hb]
   have e2:mkQ bs q (j:Int)=q++[j]:=by simp [mkQ,hb]
   rw [e1,e2];exact hw
theorem leaveF_any (R g cap gb:Nat) (l:List In) (ov:Value) (bs:List Bool) (q:List Nat) (x:Nat) (v:In) (w:World) (h:WS w R g cap gb l ov bs q) (hv:l[x]? = some v) (hA:AllIns l) (hn:l.length≤1000) :
  Calls Tryz.prog 81 #[.pointer (some ⟨R,0,none⟩),.int .i64 x] w (ReachZF w R g cap gb l ov (mkB (mkB bs (nx1 v x)) (nx2 v x)) (mkQ (mkB bs (nx1 v x)) (mkQ bs q (nx1 v x)) (nx2 v x))):=by
 have hxl:x<l.length:=(List.getElem?_eq_some_iff.1 hv).1
 obtain ⟨z1,z2⟩:=nx_ok hA hv
 have H:Hid (WS w R g cap gb l ov bs q):=h
 have Z1:Hid (nx1 v x = -1∨∃j:Nat,nx1 v x=j∧j<l.length):=z1
 have Z2:Hid (nx2 v x = -1∨∃j:Nat,nx2 v x=j∧j<l.length):=z2
 obtain ⟨d0,d1,d2,d3,d4,d5,d6,d7,d8,d9,d10,d11,d12,d13⟩:=(h.code.ins x v hv).cells
 obtain ⟨⟨c0,c1,c2,fz⟩,_,_,_,hlen,hcnt,hg,hR,hne⟩:=h
 have hl:R<w.heap.size:=H.out.wk.lt
 have hRg:¬R=g:=by omega
 have hgR:¬g=R:=by omega
 have hx1:x≤1000:=by omega
 clear hv z1 z2
 go_enter Tryz.func81,Tryz.ntmps81
 go_wp2_with fail
 refine (nextOf_any v x _ hx1).mono ?_
 rintro e w1 ⟨rfl,k1⟩
 have H1:Hid (WS w1 R g cap gb l ov bs q):=H.out.nw k1
 have K1:Hid (KF R gb ov ov w w1):=KF.of_nw (((Kp.refl (fun _=>False) w)).trans k1)
 clear k1 d0 d1 d2 d3 d4 d5 d6 d7 d8 d9 d10 d11 d12 d13 c0 c1 c2 fz
 generalize nx1 v x=n1 at *
 generalize nx2 v x=n2 at *
 go_wp2_with fail
 refine (reachZF_any R g cap gb n1 l ov bs q w1 H1.out Z1.out hn).mono ?_
 rintro e w2 ⟨rfl,ov2,hw2,k2⟩
 have H2:Hid (WS w2 R g cap gb l ov2 (mkB bs n1) (mkQ bs q n1)):=hw2
 have K2:Hid (KF R gb ov ov2 w w2):=K1.out.trans k2
 clear hw2 k2
 go_wp2_with fail
 refine (reachZF_any R g cap gb n2 l ov2 _ _ w2 H2.out Z2.out hn).mono ?_
 rintro e w3 ⟨rfl,ov3,hw3,k3⟩
 go_wp2
 go_end0
 exact ⟨rfl,ov3,hw3,K2.out.trans k3⟩
end Go.Proofs.YtcboiapggnmpfaaGreatDoor
