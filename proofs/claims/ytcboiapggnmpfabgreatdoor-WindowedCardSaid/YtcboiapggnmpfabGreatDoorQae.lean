import Derived.Test.YtcboiapggnmpfabGreatDoorQad
import Derived.Test.YtcboiapggnmpfabGreatDoorQab
namespace Go.Proofs.YtcboiapggnmpfabGreatDoor
set_option maxRecDepth 100000
set_option maxHeartbeats 1000000
set_option linter.unusedSimpArgs false
set_option linter.unusedVariables false
open Go.RowKit
open Value (bool)
theorem owns_pop {w:World} {base g cap n:Nat} {e:TypeId} {xs:List Value} {x:Value} (h:w.ownsRow base e 1 (.slice (some ⟨g,0,none⟩) (n+1) cap) (n+1) (xs++[x])):w.ownsRow base e 1 (.slice (some ⟨g,0,none⟩) n cap) n xs:=by
 obtain ⟨h1,h2⟩:=h
 have hx:xs.length=n:=by simpa using h1
 refine ⟨by omega,?_⟩
 rcases h2 with ⟨h2,_⟩ | ⟨g',cap',cur,h2,hb,h3,h4,h5,h6,h7⟩
 ·simp at h2
 ·simp at h2
  obtain ⟨rfl,rfl⟩:=h2
  refine Or.inr ⟨g,cap,cur,rfl,hb,h3,by omega,h5,h6,?_⟩
  have:(cur.toList.take ((n+1)*1)).take n=xs:=by rw [h7,List.take_append_of_le_length (by omega),List.take_of_length_le (by omega)]
  rw [List.take_take] at this
  have e1:min n ((n+1)*1)=n*1:=by omega
  rw [e1] at this;exact this
theorem owns_cap {w:World} {base g cap n size:Nat} {e:TypeId} {xs:List Value} (h:w.ownsRow base e size (.slice (some ⟨g,0,none⟩) n cap) n xs):n≤cap:=by
 rcases h.2 with ⟨h2,_⟩ | ⟨g',cap',cur,h2,hb,h3,h4,h5,h6,h7⟩
 ·simp at h2
 ·simp at h2
  obtain ⟨rfl,rfl⟩:=h2
  exact h4
theorem snoc_of {q:List Nat} (h:¬q=[]):∃q' x,q=q'++[x]:=⟨q.dropLast,q.getLast h,(List.dropLast_concat_getLast h).symm⟩
theorem comesBack_any (g cap i:Nat) (l:List In) (w:World) (hc:Code' w g l) (hA:AllIns l) (hi:i<l.length) (hn:l.length≤1000) :
  Calls Tryz.prog 74 #[.slice (some ⟨g,0,none⟩) l.length cap,.int .i64 i] w fun e w' =>
   ∃b,e=.returned (.bool b)∧(b=true↔Rch l false i i)∧Nw w w':=by
 have hl:=hc.lt
 obtain ⟨i0,hi0,hz0,hz1,hz2⟩:=info_parts Tryz.info4
 go_enter Tryz.func74,Tryz.ntmps74
 go_wp2_with (first|(at_make;refine wpList_make_full _ rfl _ _ 166 rfl w.heap.size 4 i0 (.bool false) 1 Tryz.underlying166 hi0 hz0 hz1 _ _ _ _ l.length rfl rfl rfl rfl ?b1 ?b2 ?b3 ?_)|fail)
 case b1=>rw [hz2];omega
 case b2=>unfold maxLen;omega
 case b3=>exact Nat.le_refl _
 intro w1 hown1 hgrow1
 have R1:Hid (Row w1 w.heap.size 4 ((List.replicate l.length false).map bool)):=by
  have:=Row.of_full hown1
  rw [made_bools] at this
  exact this
 have K1:Hid (Nw w w1):=(Kp.refl _ w).grown hgrow1 (by intro k hk;cases hk)
 have hs1:=R1.out.lt
 have C1:Hid (Code' w1 g l):=hc.kp K1.out (fun h=>h)
 clear hown1 hgrow1
 go_wp2
 go_loopg [] (1+l.length) (fun m wr=>∃(ov:Value) (bs:List Bool) (q:List Nat) (done:Nat→Prop),m=q.length+bs.count false∧WS wr (w1.heap.size+1) g cap w.heap.size l ov bs q∧Srch l false i bs done q∧Nw w wr)
 case atStart =>
  refine ⟨.slice (some ⟨w1.heap.size,0,none⟩) 1 1,List.replicate l.length false,[i],fun _=>False,by simp,?_,Srch.start l false i hi,(K1.out.alloc _).alloc _⟩
  refine ⟨?_,(C1.out.kp ((Kp.refl (fun _=>False) w1).alloc _) (fun h=>h)).kp ((Kp.refl (fun _=>False) _).alloc _) (fun h=>h),(R1.out.alloc _).alloc _,(owns_new w1 (Nat.le_of_lt hs1) _ _ 1 1 rfl (by unfold maxLen;omega)).alloc _,by simp,by simp;omega,hl,by omega,by simp [Value.ownBlock]⟩
  constructor <;> simp [go_sem,World.cell?_alloc_at,World.frozen?_alloc_at]
 case round =>
  obtain ⟨ov,bs,q,done,hm,hW,hS,hK⟩:=hrel
  have H:Hid (WS wr (w1.heap.size+1) g cap w.heap.size l ov bs q):=hW
  have HS:Hid (Srch l false i bs done q):=hS
  have HK:Hid (Nw w wr):=hK
  have HM:Hid (gk=q.length+bs.count false):=hm
  obtain ⟨b,hb⟩:∃b,bs[i]? = some b:=⟨bs[i]'(by rw [hW.len];exact hi),by simp [hW.len,hi]⟩
  have cb:wr.cell? ⟨w.heap.size,i,none⟩=some (.bool b):=by rw [hW.row.cell];simp [hb]
  have HB:Hid (bs[i]? = some b):=hb
  obtain ⟨⟨c0,c1,c2,fz⟩,hcode,hrow,hown,hlen,hcnt,hg,hR,hne⟩:=hW
  have hRl:w1.heap.size+1<wr.heap.size:=H.out.wk.lt
  clear hS hK hm hb hrow R1 K1 C1
  by_cases hq:q=[]
  ·subst hq
   have hv:=hown.2
   have hlen0:∃p cc,ov=.slice p 0 cc:=by
    rcases hv with ⟨e,_⟩ | ⟨g',cap',cur,e,_⟩
    ·exact ⟨none,0,e⟩
    ·exact ⟨_,_,e⟩
   obtain ⟨p,cc,rfl⟩:=hlen0
   go_wp2
   go_ret
   refine ⟨b,rfl,?_,HK.out⟩
   rw [←HS.out.over i,HB.out]
   simp
  ·obtain ⟨q',x,rfl⟩:=snoc_of hq
   obtain ⟨go,cpo,rfl,hgo1,hgo2⟩:=hown.form (by simp)
   cases b with
   | true =>
    go_wp2
    go_ret
    exact ⟨true,rfl,⟨fun _=>HS.out.sound i HB.out,fun _=>rfl⟩,HK.out⟩
   | false =>
    have hxl:x<l.length:=HS.out.lt x (by simp)
    obtain ⟨v,hv⟩:∃v,l[x]? = some v:=⟨l[x],by simp [hxl]⟩
    have cat:wr.cell? ⟨go,q'.length,none⟩=some (.int .i64 x):=owns_cell hown q'.length (by simp [intsV])
    have cop:wr.cell? ⟨g,x*14,none⟩=some (.int .i64 v.op):=(hcode.ins x v hv).cells.1
    have hRgo:¬go=w1.heap.size+1:=by simpa [Value.ownBlock] using hne
    have hRg:¬g=w1.heap.size+1:=by omega
    have hRg':¬w1.heap.size+1=g:=by omega
    have HV:Hid (l[x]? = some v):=hv
    have hql:q'.length≤1001:=by simp at hcnt;omega
    have hpo:¬cpo<q'.length:=by have:=owns_cap hown;simp at this;omega
    simp only [List.length_append,List.length_cons,List.length_nil] at c2
    clear hown hcode hv hne
    have kp:Kp (fun b=>b=w1.heap.size+1) wr (wr.setCell ⟨w1.heap.size+1,2,none⟩ (.slice (some ⟨go,0,none⟩) q'.length cpo)):=(Kp.refl (fun b=>b=w1.heap.size+1) wr).setCell (p:=⟨w1.heap.size+1,2,none⟩) (Or.inr rfl) _
    have HW2:Hid (WS (wr.setCell ⟨w1.heap.size+1,2,none⟩ (.slice (some ⟨go,0,none⟩) q'.length cpo)) (w1.heap.size+1) g cap w.heap.size l (.slice (some ⟨go,0,none⟩) q'.length cpo) bs q'):=by
     refine ⟨H.out.wk.set2 _,H.out.code.kp kp hRg,H.out.row.kp kp (by omega),?_,hlen,by simp at hcnt;omega,hg,hR,by simpa [Value.ownBlock] using hRgo⟩
     have ho:=H.out.own
     have e2:intsV (q'++[x])=intsV q'++[.int .i64 (x:Int)]:=by simp [intsV]
     rw [e2] at ho
     simp only [List.length_append,List.length_cons,List.length_nil] at ho
     exact owns_kp (owns_pop ho) kp (by intro b hb e;simp [Value.ownBlock] at hb;omega)
    have HL:Hid (Leav l false i bs done q' x []):=HS.out.leave (by simp) (by intro y hy;simp at hy;exact hy.symm) (by intro y hy;simp [hy])
    have HK2:Hid (Nw w (wr.setCell ⟨w1.heap.size+1,2,none⟩ (.slice (some ⟨go,0,none⟩) q'.length cpo))):=HK.out.setCell (p:=⟨w1.heap.size+1,2,none⟩) (Or.inl (by show w.heap.size≤w1.heap.size+1;omega)) _
    have HM2:Hid (gk=q'.length+1+bs.count false):=by
     show _=_
     rw [HM.out];simp
    clear kp HM
    by_cases h0:v.op=0
    ·rw [h0] at cop
     go_wp2
     go_roundg (q'.length+bs.count false)
     case measure=>rw [HM2.out];omega
     case rel=>exact ⟨_,bs,q',_,rfl,HW2.out,HL.out.left (fun j hj=>absurd hj (edge_take HV.out h0 j)),HK2.out⟩
    ·have h0':(v.op != 0)=true:=by simp [h0]
     go_wp2_with fail
     refine (leave_any (w1.heap.size+1) g cap w.heap.size l _ bs q' x v _ HW2.out HV.out hA hn).mono ?_
     rintro e w2 ⟨rfl,ov2,hw2,k2⟩
     have hcnt2:Hid ((mkQ (mkB bs (nx1 v x)) (mkQ bs q' (nx1 v x)) (nx2 v x)).length+(mkB (mkB bs (nx1 v x)) (nx2 v x)).count false=q'.length+bs.count false):=by
      show _=_
      rw [mk_cnt,mk_cnt]
     have HS2:Hid (Srch l false i _ (fun y=>done y∨y=x) _):=HL.out.both hA HV.out (fun e=>absurd e h0)
     generalize mkB (mkB bs (nx1 v x)) (nx2 v x)=bs2 at *
     generalize mkQ (mkB bs (nx1 v x)) (mkQ bs q' (nx1 v x)) (nx2 v x)=q2 at *
     have H2:Hid (WS w2 (w1.heap.size+1) g cap w.heap.size l ov2 bs2 q2):=hw2
     have HK3:Hid (Nw w w2):=HK2.out.trans' k2 (by intro b hb e;omega)
     clear hw2 k2 cop cat c0 c1 c2 fz
     go_wp2
     go_roundg (q2.length+bs2.count false)
     case measure=>have:=hcnt2.out;rw [HM2.out];omega
     case rel=>exact ⟨ov2,bs2,q2,_,rfl,H2.out,HS2.out,HK3.out⟩
structure KF (R gb:Nat) (ov ov':Value) (w w':World):Prop where
 kp:Kp (fun b=>b=R∨b=gb∨ov.ownBlock=some b) w w'
 ow:∀b,ov'.ownBlock=some b→ov.ownBlock=some b∨w.heap.size≤b
theorem KF.refl (R gb:Nat) (ov:Value) (w:World):KF R gb ov ov w w:=⟨Kp.refl _ _,fun b h=>Or.inl h⟩
theorem KF.of_nw {R gb:Nat} {ov:Value} {w w':World} (k:Nw w w'):KF R gb ov ov w w':=⟨k.mono (fun _ _ h=>h.elim),fun b h=>Or.inl h⟩
theorem KF.trans {R gb:Nat} {o1 o2 o3:Value} {w1 w2 w3:World} (h:KF R gb o1 o2 w1 w2) (k:KF R gb o2 o3 w2 w3):KF R gb o1 o3 w1 w3:=by
 refine ⟨h.kp.trans' k.kp ?_,?_⟩
 ·rintro i hi (e|e|e)
  ·exact Or.inl e
  ·exact Or.inr (Or.inl e)
  ·rcases h.ow i e with e' | e'
   ·exact Or.inr (Or.inr e')
   ·omega
 ·intro b hb
  rcases k.ow b hb with e|e
  ·exact h.ow b e
  ·exact Or.inr (Nat.le_trans h.kp.size e)
def ReachPostF (w:World) (R g cap gb:Nat) (l:List In) (ov:Value) (bs:List Bool) (q:List Nat) (j:Nat) (e:Ending) (w':World):Prop :=
 e=.returned (.tuple #[])∧((bs[j]? = some true∧w'=w)∨(bs[j]? = some false∧∃ov',WS w' R g cap gb l ov' (bs.set j true) (q++[j])∧KF R gb ov ov' w w'))
theorem reachF_any (R g cap gb j:Nat) (l:List In) (ov:Value) (bs:List Bool) (q:List Nat) (w:World) (h:WS w R g cap gb l ov bs q) (hj:j<l.length) (hn:l.length≤1000) :
  Calls Tryz.prog 75 #[.pointer (some ⟨R,0,none⟩),.int .i64 j] w (ReachPostF w R g cap gb l ov bs q j):=by
 have H:Hid (WS w R g cap gb l ov bs q):=h
 obtain ⟨⟨c0,c1,c2,fz⟩,hcode,hrow,hown,hlen,hcnt,hg,hR,hne⟩:=h
 have hl:R<w.heap.size:=H.out.wk.lt
 obtain ⟨i1,hi1,hy0,hy1,hy2⟩:=info_parts Tryz.info3
 obtain ⟨b,hb⟩:∃b,bs[j]? = some b:=⟨bs[j]'(by rw [hlen];exact hj),by simp [hlen,hj]⟩
 have cb:w.cell? ⟨gb,j,none⟩=some (.bool b):=by rw [hrow.cell];simp [hb]
 have fb:∀o,w.frozen? ⟨gb,o,none⟩=false:=hrow.froz
 have hRg:¬R=gb:=by omega
 have hRg':¬gb=R:=by omega
 have HB:Hid (bs[j]? = some b):=hb
 clear hb hcode hrow
 cases b with
 | true =>
  go_enter Tryz.func75,Tryz.ntmps75
  go_wp2
  go_end0
  exact ⟨rfl,Or.inl ⟨HB.out,rfl⟩⟩
 | false =>
  have ks:Kp (fun b=>b=gb) w (w.setCell ⟨gb,j,none⟩ (.bool true)):=(Kp.refl (fun b=>b=gb) w).setCell (p:=⟨gb,j,none⟩) (Or.inr rfl) _
  have hrow':=owns_row_ne hown H.out.row (by decide)
  have O1:Hid ((w.setCell ⟨gb,j,none⟩ (.bool true)).ownsRow gb 3 1 ov q.length (intsV q)):=owns_kp hown ks (by intro b hb e;subst e;exact hrow' hb.symm)
  have KS:Hid (Kp (fun b=>b=gb) w (w.setCell ⟨gb,j,none⟩ (.bool true))):=ks
  have HRW:Hid (¬some gb=ov.ownBlock):=hrow'
  clear ks hown hrow'
  go_enter Tryz.func75,Tryz.ntmps75
  go_wp2_with (at_builtin;refine wpList_append_lies _ rfl _ _ 22 rfl gb 3 i1 (.int .i64 0) 1 8 Tryz.underlying22 hi1 hy0 hy1 hy2 rfl (by decide) _ _ _ rfl (O1.out.alloc _) ⟨w.heap.size,0,none⟩ 1 1 [.int .i64 (j:Int)] rfl rfl ?c1 ?c2 (by decide) ?c3 ?c4 ?c5 _ rfl ?_)
  case c1=>exact news_one _ (by simp) _ _
  case c2=>exact intsV_one [j]
  case c3=>unfold maxLen;omega
  case c4=>omega
  case c5=>simp;omega
  intro g3 cap3 w3 hown3 hgrow hat hlt
  have kg:Kp (fun b=>b=gb∨ov.ownBlock=some b) w w3:=((KS.out.mono (fun _ _ e=>Or.inl e)).alloc _).grown hgrow (by intro b hb;exact Or.inr (Or.inr hb))
  have hnS:¬(R=gb∨ov.ownBlock=some R):=by
   rintro (e|e)
   ·exact hRg e
   ·exact hne e
  have wk3:Wk w3 R (.slice (some ⟨g,0,none⟩) l.length cap) (.slice (some ⟨gb,0,none⟩) l.length l.length) ov:=H.out.wk.sm (kg.sm hl hnS)
  have hg3:¬g3=R:=by
   rcases hat with e|e
   ·intro e2;subst e2;exact hne e
   ·have:w.heap.size≤g3:=by rw [e];simp
    omega
  have hge:∀b,ov.ownBlock=some b→gb≤b:=by
   intro b hb
   rcases H.out.own.2 with ⟨e1,_⟩ | ⟨g',cap',cur,e1,e2,_⟩
   ·rw [e1] at hb;simp [Value.ownBlock] at hb
   ·rw [e1] at hb;simp [Value.ownBlock] at hb;omega
  have R3:Hid (Row w3 gb 4 ((bs.set j true).map bool)):=by
   have:=((H.out.row.set j (.bool true)).alloc (.cells #[.int .i64 (j:Int)] 3)).grown hgrow HRW.out
   show Row _ _ _ _
   rw [List.map_set];exact this
  have C3:Hid (Code' w3 g l):=H.out.code.kp kg (by
   rintro (e|e)
   ·omega
   ·have:=hge g e;omega)
  have O3:Hid (w3.ownsRow gb 3 1 (.slice (some ⟨g3,0,none⟩) (q.length+1) cap3) (q++[j]).length (intsV (q++[j]))):=by
   have e1:(q++[j]).length=q.length+1:=by simp
   have e2:intsV (q++[j])=intsV q++[.int .i64 (j:Int)]:=by simp [intsV]
   show w3.ownsRow _ _ _ _ _ _
   rw [e1,e2];exact hown3
  have K3:Hid (KF R gb ov (.slice (some ⟨g3,0,none⟩) (q.length+1) cap3) w w3):=⟨kg.mono (fun b _ e=>Or.inr e),(by
   intro b hb
   simp only [Value.ownBlock,Option.some.injEq] at hb
   subst hb
   rcases hat with e|e
   ·exact Or.inl e
   ·right;rw [e];simp)⟩
  have W3:Hid (Wk w3 R (.slice (some ⟨g,0,none⟩) l.length cap) (.slice (some ⟨gb,0,none⟩) l.length l.length) ov):=wk3
  obtain ⟨c0',c1',c2',fz'⟩:=wk3
  clear kg hown3 hgrow hat c0 c1 c2 fz cb fb
  go_wp2
  go_end0
  have kR:Kp (fun b=>b=R) w3 (w3.setCell ⟨R,2,none⟩ (.slice (some ⟨g3,0,none⟩) (q.length+1) cap3)):=(Kp.refl (fun b=>b=R) w3).setCell (p:=⟨R,2,none⟩) (Or.inr rfl) _
  refine ⟨rfl,Or.inr ⟨HB.out,.slice (some ⟨g3,0,none⟩) (q.length+1) cap3,?_,?_⟩⟩
  ·refine ⟨W3.out.set2 _,C3.out.kp kR (by intro e;omega),R3.out.kp kR (fun e=>hRg e.symm),owns_kp O3.out kR (by intro b hb e;simp [Value.ownBlock] at hb;exact hg3 (by omega)),by simp [hlen],?_,hg,hR,by simpa [Value.ownBlock] using hg3⟩
   have:=count_set HB.out
   simp;omega
  ·exact ⟨K3.out.kp.setCell (p:=⟨R,2,none⟩) (Or.inr (Or.inl rfl)) _,K3.out.ow⟩
def ReachZF (w:World) (R g cap gb:Nat) (l:List In) (ov:Value) (bs:List Bool) (q:List Nat) (e:Ending) (w':World):Prop :=
 e=.returned (.tuple #[])∧∃ov',WS w' R g cap gb l ov' bs q∧KF R gb ov ov' w w'
theorem reachZF_any (R g cap gb:Nat) (z:Int) (l:List In) (ov:Value) (bs:List Bool) (q:List Nat) (w:World) (h:WS w R g cap gb l ov bs q) (hz:z = -1∨∃j:Nat,z=j∧j<l.length) (hn:l.length≤1000) :
  Calls Tryz.prog 75 #[.pointer (some ⟨R,0,none⟩),.int .i64 z] w (ReachZF w R g cap gb l ov (mkB bs z) (mkQ bs q z)):=by
 rcases hz with rfl|⟨j,rfl,hj⟩
 ·have H:Hid (WS w R g cap gb l ov bs q):=h
  obtain ⟨⟨c0,c1,c2,fz⟩,hcode,hrow,hown,hlen,hcnt,hg,hR,hne⟩:=h
  rw [mkB_neg,mkQ_neg]
  go_enter Tryz.func75,Tryz.ntmps75
  go_wp2
  go_end0
  exact ⟨rfl,ov,H.out,KF.refl _ _ _ _⟩
 ·refine (reachF_any R g cap gb j l ov bs q w h hj hn).mono ?_
  rintro e w' ⟨rfl,h1⟩
  refine ⟨rfl,?_⟩
  rcases h1 with ⟨hb,rfl⟩ | ⟨hb,ov',hw,hk⟩
  ·refine ⟨ov,?_,KF.refl _ _ _ _⟩
   have e1:mkB bs (j:Int)=bs:=by simp [mkB,hb]
   have e2:mkQ bs q (j:Int)=q:=by simp [mkQ,hb]
   rw [e1,e2];exact h
  ·refine ⟨ov',?_,hk⟩
   have e1:mkB bs (j:Int)=bs.set j true:=by simp [mkB,hb]
   have e2:mkQ bs q (j:Int)=q++[j]:=by simp [mkQ,hb]
   rw [e1,e2];exact hw
theorem leaveF_any (R g cap gb:Nat) (l:List In) (ov:Value) (bs:List Bool) (q:List Nat) (x:Nat) (v:In) (w:World) (h:WS w R g cap gb l ov bs q) (hv:l[x]? = some v) (hA:AllIns l) (hn:l.length≤1000) :
  Calls Tryz.prog 76 #[.pointer (some ⟨R,0,none⟩),.int .i64 x] w (ReachZF w R g cap gb l ov (mkB (mkB bs (nx1 v x)) (nx2 v x)) (mkQ (mkB bs (nx1 v x)) (mkQ bs q (nx1 v x)) (nx2 v x))):=by
 have hxl:x<l.length:=(List.getElem?_eq_some_iff.1 hv).1
 obtain ⟨z1,z2⟩:=nx_ok hA hv
 have H:Hid (WS w R g cap gb l ov bs q):=h
 have Z1:Hid (nx1 v x = -1∨∃j:Nat,nx1 v x=j∧j<l.length):=z1
 have Z2:Hid (nx2 v x = -1∨∃j:Nat,nx2 v x=j∧j<l.length):=z2
 obtain ⟨d0,d1,d2,d3,d4,d5,d6,d7,d8,d9,d10,d11,d12,d13⟩:=(h.code.ins x v hv).cells
 obtain ⟨⟨c0,c1,c2,fz⟩,_,_,_,hlen,hcnt,hg,hR,hne⟩:=h
 have hl:R<w.heap.size:=H.out.wk.lt
 have hRg:¬R=g:=by omega
 have hgR:¬g=R:=by omega
 have hx1:x≤1000:=by omega
 clear hv z1 z2
 go_enter Tryz.func76,Tryz.ntmps76
 go_wp2_with fail
 refine (nextOf_any v x _ hx1).mono ?_
 rintro e w1 ⟨rfl,k1⟩
 have H1:Hid (WS w1 R g cap gb l ov bs q):=H.out.nw k1
 have K1:Hid (KF R gb ov ov w w1):=KF.of_nw (((Kp.refl (fun _=>False) w)).trans k1)
 clear k1 d0 d1 d2 d3 d4 d5 d6 d7 d8 d9 d10 d11 d12 d13 c0 c1 c2 fz
 generalize nx1 v x=n1 at *
 generalize nx2 v x=n2 at *
 go_wp2_with fail
 refine (reachZF_any R g cap gb n1 l ov bs q w1 H1.out Z1.out hn).mono ?_
 rintro e w2 ⟨rfl,ov2,hw2,k2⟩
 have H2:Hid (WS w2 R g cap gb l ov2 (mkB bs n1) (mkQ bs q n1)):=hw2
 have K2:Hid (KF R gb ov ov2 w w2):=K1.out.trans k2
 clear hw2 k2
 go_wp2_with fail
 refine (reachZF_any R g cap gb n2 l ov2 _ _ w2 H2.out Z2.out hn).mono ?_
 rintro e w3 ⟨rfl,ov3,hw3,k3⟩
 go_wp2
 go_end0
 exact ⟨rfl,ov3,hw3,K2.out.trans k3⟩
def withinB (n m:Int):Bool:=decide (0≤n)&&decide (n≤m)
theorem isWithin_any (n m:Int) (w:World) :
  Calls Tryz.prog 99 #[.int .i64 n,.int .i64 m] w fun e w'=>e=.returned (.bool (withinB n m))∧w'=w:=by
 go_enter Tryz.func99,Tryz.ntmps99
 go_wp2
 all_goals
  go_ret
  exact ⟨ret_b (by rw [Bool.eq_iff_iff];simp [withinB] at *;try omega),rfl⟩
theorem goesOnBehind_any (n:Int) (w:World) :
  Calls Tryz.prog 73 #[.int .i64 n] w fun e w'=>e=.returned (.bool (!(decide (n=4)||decide (n=5)||decide (n=6))))∧w'=w:=by
 go_enter Tryz.func73,Tryz.ntmps73
 go_wp2
 all_goals
  go_ret
  exact ⟨ret_b (by rw [Bool.eq_iff_iff];simp at *;try omega),rfl⟩
theorem isTermP_any (a b c:Int) (w:World) :
  Calls Tryz.prog 108 #[.agg #[.int .i64 a,.int .i64 b,.int .i64 c]] w fun e w'=>e=.returned (.bool (tmIsB ⟨a,b,c⟩))∧Nw w w':=by
 generalize hA:withinB a 5=A
 generalize hB:withinB b 3=B
 go_enter Tryz.func108,Tryz.ntmps108
 go_wp2_with (go_at_call 99;refine (isWithin_any _ _ _).mono ?_;(first|rw [hA] | rw [hB]);rintro e1 w1 ⟨rfl,rfl⟩)
 all_goals go_ret
 all_goals refine ⟨ret_b ?_,(Kp.refl _ _).alloc _⟩
 all_goals (subst hA;subst hB;rw [Bool.eq_iff_iff];simp [tmIsB,withinB] at *;try omega)
theorem isTestP_any (a b c d e f g h i j k:Int) (w:World) :
  Calls Tryz.prog 98 #[.agg #[.int .i64 a,.int .i64 b,.int .i64 c,.int .i64 d,.int .i64 e,.int .i64 f,.int .i64 g,.int .i64 h,.int .i64 i,.int .i64 j,.int .i64 k]] w fun en w'=>en=.returned (.bool (tstIsB ⟨⟨a,b,c⟩,d,⟨e,f,g⟩,h,⟨i,j,k⟩⟩))∧Nw w w':=by
 generalize hT1:tmIsB ⟨a,b,c⟩=T1
 generalize hT2:tmIsB ⟨e,f,g⟩=T2
 generalize hT3:tmIsB ⟨i,j,k⟩=T3
 have hfin:Hid (tstIsB ⟨⟨a,b,c⟩,d,⟨e,f,g⟩,h,⟨i,j,k⟩⟩=(T1&&T2&&T3&&(!decide (h=0)||tm0B ⟨i,j,k⟩)&&withinB d 3&&withinB h 3)):=by
  show _=_
  simp only [tstIsB,hT1,hT2,hT3,withinB]
  clear hT1 hT2 hT3
  generalize tm0B ⟨i,j,k⟩=Z
  rw [Bool.eq_iff_iff];cases T1 <;> cases T2 <;> cases T3 <;> cases Z <;> simp <;> omega
 have H1:Hid (tmIsB ⟨a,b,c⟩=T1):=hT1
 have H2:Hid (tmIsB ⟨e,f,g⟩=T2):=hT2
 have H3:Hid (tmIsB ⟨i,j,k⟩=T3):=hT3
 clear hT1 hT2 hT3
 generalize hR:withinB d 3=R at hfin
 generalize hH:withinB h 3=S at hfin
 by_cases hM:h=0∧¬(i=0∧j=0∧k=0)
 ·obtain ⟨rfl,hM⟩:=hM
  have hf2:Hid (tstIsB ⟨⟨a,b,c⟩,d,⟨e,f,g⟩,0,⟨i,j,k⟩⟩=false):=by
   show _=_
   rw [hfin.out]
   have:tm0B ⟨i,j,k⟩=false:=by rw [Bool.eq_false_iff];intro hc;simp [tm0B] at hc;exact hM (by omega)
   simp [this]
  by_cases hi:i=0
  ·subst hi
   by_cases hj:j=0
   ·subst hj
    have hk:¬k=0:=fun e=>hM ⟨rfl,rfl,e⟩
    go_enter Tryz.func98,Tryz.ntmps98
    go_wp2_with (go_at_call 99;refine (isWithin_any _ _ _).mono ?_;(first|rw [hR] | rw [hH]);rintro e1 w1 ⟨rfl,rfl⟩)
    all_goals go_ret
    all_goals exact ⟨ret_b hf2.out.symm,(Kp.refl _ _).alloc _⟩
   ·go_enter Tryz.func98,Tryz.ntmps98
    go_wp2_with (go_at_call 99;refine (isWithin_any _ _ _).mono ?_;(first|rw [hR] | rw [hH]);rintro e1 w1 ⟨rfl,rfl⟩)
    all_goals go_ret
    all_goals exact ⟨ret_b hf2.out.symm,(Kp.refl _ _).alloc _⟩
  ·go_enter Tryz.func98,Tryz.ntmps98
   go_wp2_with (go_at_call 99;refine (isWithin_any _ _ _).mono ?_;(first|rw [hR] | rw [hH]);rintro e1 w1 ⟨rfl,rfl⟩)
   all_goals go_ret
   all_goals exact ⟨ret_b hf2.out.symm,(Kp.refl _ _).alloc _⟩
 ·have hf3:Hid (tstIsB ⟨⟨a,b,c⟩,d,⟨e,f,g⟩,h,⟨i,j,k⟩⟩=(T1&&T2&&T3&&R&&S)):=by
   show _=_
   rw [hfin.out]
   have:(!decide (h=0)||tm0B ⟨i,j,k⟩)=true:=by simp [tm0B];omega
   rw [this];simp
  clear hfin
  cases R with
  | false =>
   go_enter Tryz.func98,Tryz.ntmps98
   go_wp2_with (go_at_call 99;refine (isWithin_any _ _ _).mono ?_;(first|rw [hR] | rw [hH]);rintro e1 w1 ⟨rfl,rfl⟩)
   all_goals go_ret
   all_goals exact ⟨ret_b (by rw [hf3.out];simp),(Kp.refl _ _).alloc _⟩
  | true =>
   cases S with
   | false =>
    go_enter Tryz.func98,Tryz.ntmps98
    go_wp2_with (go_at_call 99;refine (isWithin_any _ _ _).mono ?_;(first|rw [hR] | rw [hH]);rintro e1 w1 ⟨rfl,rfl⟩)
    all_goals go_ret
    all_goals exact ⟨ret_b (by rw [hf3.out];simp),(Kp.refl _ _).alloc _⟩
   | true =>
    have hcase:(h == 0)=false∨(h=0∧i=0∧j=0∧k=0):=by
     by_cases e:h=0
     ·exact Or.inr (by omega)
     ·exact Or.inl (by simp [e])
    clear hM
    rcases hcase with hz|⟨rfl,rfl,rfl,rfl⟩
    all_goals
     go_enter Tryz.func98,Tryz.ntmps98
     go_wp2_with (first|(go_at_call 99;refine (isWithin_any _ _ _).mono ?_;(first|rw [hR] | rw [hH]);rintro e1 w1 ⟨rfl,rfl⟩)|fail)
     refine (isTermP_any a b c _).mono ?_
     rw [H1.out]
     rintro e1 w1 ⟨rfl,k1⟩
     obtain ⟨kk,hl,⟨kc,kz⟩⟩:=k1.box (fun h=>h)
     have K1:Hid (Nw w w1):=kk
     have S1:Hid (Sm _ w1 w.heap.size):=⟨kc,kz⟩
     clear k1 kk
     cases T1 with
     | false =>
      go_wp2
      go_ret
      exact ⟨ret_b (by rw [hf3.out];simp),K1.out⟩
     | true =>
      go_wp2_with fail
      refine (isTermP_any e f g _).mono ?_
      rw [H2.out]
      rintro e2 w2 ⟨rfl,k2⟩
      clear kc kz
      have K2:Hid (Nw w w2):=K1.out.trans k2
      obtain ⟨hl2,⟨kc,kz⟩⟩:=k2.keeps S1.out hl (fun h=>h)
      clear k2 S1
      cases T2 with
      | false =>
       go_wp2
       go_ret
       exact ⟨ret_b (by rw [hf3.out];simp),K2.out⟩
      | true =>
       go_wp2_with fail
       refine (isTermP_any _ _ _ _).mono ?_
       rw [H3.out]
       rintro e3 w3 ⟨rfl,k3⟩
       have K3:Hid (Nw w w3):=K2.out.trans k3
       clear k3
       go_wp2
       go_ret
       exact ⟨ret_b (by rw [hf3.out];cases T3 <;> rfl),K3.out⟩
def PlainIn (q:Int):Prop:=∀(x y a b c d e f g h i j k n:Int) (w:World),0≤n→n≤100000 →
  Calls Tryz.prog 72 #[insV ⟨q,x,y,⟨⟨a,b,c⟩,d,⟨e,f,g⟩,h,⟨i,j,k⟩⟩⟩,.int .i64 n] w fun en w'=>en=.returned (.bool (insIsB ⟨q,x,y,⟨⟨a,b,c⟩,d,⟨e,f,g⟩,h,⟨i,j,k⟩⟩⟩ n))∧Nw w w'
theorem isInsP_q0:PlainIn 0:=by
 intro x y a b c d e f g h i j k n w hn0 hn1
 unfold insV
 go_enter Tryz.func72,Tryz.ntmps72
 go_wp2_with (go_at_call 99;refine (isWithin_any _ _ _).mono ?_;rintro e1 w1 ⟨rfl,rfl⟩)
 all_goals go_ret
 all_goals refine ⟨ret_b ?_,(Kp.refl _ _).alloc _⟩
 all_goals (rw [Bool.eq_iff_iff];simp [insIsB,hiOf,tst0B,tm0B,withinB] at *;try omega)
theorem isInsP_q1:PlainIn 1:=by
 intro x y a b c d e f g h i j k n w hn0 hn1
 unfold insV
 go_enter Tryz.func72,Tryz.ntmps72
 go_wp2_with (go_at_call 99;refine (isWithin_any _ _ _).mono ?_;rintro e1 w1 ⟨rfl,rfl⟩)
 all_goals go_ret
 all_goals refine ⟨ret_b ?_,(Kp.refl _ _).alloc _⟩
 all_goals (rw [Bool.eq_iff_iff];simp [insIsB,hiOf,tst0B,tm0B,withinB] at *;try omega)
theorem isInsP_q3:PlainIn 3:=by
 intro x y a b c d e f g h i j k n w hn0 hn1
 unfold insV
 go_enter Tryz.func72,Tryz.ntmps72
 go_wp2_with (go_at_call 99;refine (isWithin_any _ _ _).mono ?_;rintro e1 w1 ⟨rfl,rfl⟩)
 all_goals go_ret
 all_goals refine ⟨ret_b ?_,(Kp.refl _ _).alloc _⟩
 all_goals (rw [Bool.eq_iff_iff];simp [insIsB,hiOf,tst0B,tm0B,withinB] at *;try omega)
theorem isInsP_q4:PlainIn 4:=by
 intro x y a b c d e f g h i j k n w hn0 hn1
 unfold insV
 go_enter Tryz.func72,Tryz.ntmps72
 go_wp2_with (go_at_call 99;refine (isWithin_any _ _ _).mono ?_;rintro e1 w1 ⟨rfl,rfl⟩)
 all_goals go_ret
 all_goals refine ⟨ret_b ?_,(Kp.refl _ _).alloc _⟩
 all_goals (rw [Bool.eq_iff_iff];simp [insIsB,hiOf,tst0B,tm0B,withinB] at *;try omega)
theorem isInsP_q5:PlainIn 5:=by
 intro x y a b c d e f g h i j k n w hn0 hn1
 unfold insV
 go_enter Tryz.func72,Tryz.ntmps72
 go_wp2_with (go_at_call 99;refine (isWithin_any _ _ _).mono ?_;rintro e1 w1 ⟨rfl,rfl⟩)
 all_goals go_ret
 all_goals refine ⟨ret_b ?_,(Kp.refl _ _).alloc _⟩
 all_goals (rw [Bool.eq_iff_iff];simp [insIsB,hiOf,tst0B,tm0B,withinB] at *;try omega)
theorem isInsP_q6:PlainIn 6:=by
 intro x y a b c d e f g h i j k n w hn0 hn1
 unfold insV
 go_enter Tryz.func72,Tryz.ntmps72
 go_wp2_with (go_at_call 99;refine (isWithin_any _ _ _).mono ?_;rintro e1 w1 ⟨rfl,rfl⟩)
 all_goals go_ret
 all_goals refine ⟨ret_b ?_,(Kp.refl _ _).alloc _⟩
 all_goals (rw [Bool.eq_iff_iff];simp [insIsB,hiOf,tst0B,tm0B,withinB] at *;try omega)
theorem isInsP_q2:PlainIn 2:=by
 intro x y a b c d e f g h i j k n w hn0 hn1
 unfold insV
 generalize hT:tstIsB ⟨⟨a,b,c⟩,d,⟨e,f,g⟩,h,⟨i,j,k⟩⟩=T
 by_cases hx:x=0
 ·subst hx
  by_cases hy:y=0
  ·subst hy
   go_enter Tryz.func72,Tryz.ntmps72
   go_wp2_with (go_at_call 98;refine (isTestP_any a b c d e f g h i j k _).mono ?_;rw [hT];rintro e1 w1 ⟨rfl,k1⟩)
   all_goals go_ret
   all_goals refine ⟨ret_b ?_,((Kp.refl _ w).alloc _).trans k1⟩
   all_goals (rw [Bool.eq_iff_iff];simp only [insIsB,hT];cases T <;> simp [hiOf] at * <;> try omega)
  ·go_enter Tryz.func72,Tryz.ntmps72
   go_wp2
   all_goals go_ret
   all_goals refine ⟨ret_b ?_,(Kp.refl _ _).alloc _⟩
   all_goals (rw [Bool.eq_iff_iff];simp only [insIsB,hT];cases T <;> simp [hiOf] at * <;> try omega)
 ·go_enter Tryz.func72,Tryz.ntmps72
  go_wp2
  all_goals go_ret
  all_goals refine ⟨ret_b ?_,(Kp.refl _ _).alloc _⟩
  all_goals (rw [Bool.eq_iff_iff];simp only [insIsB,hT];cases T <;> simp [hiOf] at * <;> try omega)
theorem isInsP_off (q:Int) (hq:q<0∨6<q):PlainIn q:=by
 intro x y a b c d e f g h i j k n w hn0 hn1
 unfold insV
 have hq':Hid (q<0∨6<q):=hq
 have q0:(q == 0)=false:=by simp;omega
 have q1:(q == 1)=false:=by simp;omega
 have q2:(q == 2)=false:=by simp;omega
 have q3:(q == 3)=false:=by simp;omega
 have q4:(q == 4)=false:=by simp;omega
 have q5:(q == 5)=false:=by simp;omega
 have q6:(q == 6)=false:=by simp;omega
 clear hq
 go_enter Tryz.func72,Tryz.ntmps72
 go_wp2
 all_goals go_ret
 all_goals refine ⟨ret_b ?_,(Kp.refl _ _).alloc _⟩
 all_goals (have hq:=hq'.out;rw [Bool.eq_iff_iff];simp [insIsB];omega)
theorem isInsP_any (x:In) (n:Int) (w:World) (h0:0≤n) (h1:n≤100000):Calls Tryz.prog 72 #[insV x,.int .i64 n] w fun en w'=>en=.returned (.bool (insIsB x n))∧Nw w w':=by
 obtain ⟨q,x,y,⟨⟨a,b,c⟩,d,⟨e,f,g⟩,h,⟨i,j,k⟩⟩⟩:=x
 have H:PlainIn q:=by
  by_cases h1:q<0∨6<q
  ·exact isInsP_off q h1
  ·have:q=0∨q=1∨q=2∨q=3∨q=4∨q=5∨q=6:=by omega
   rcases this with rfl|rfl|rfl|rfl|rfl|rfl|rfl
   ·exact isInsP_q0
   ·exact isInsP_q1
   ·exact isInsP_q2
   ·exact isInsP_q3
   ·exact isInsP_q4
   ·exact isInsP_q5
   ·exact isInsP_q6
 exact H x y a b c d e f g h i j k n w h0 h1
def CodeP (w:World) (p:Option Addr) (l:List In):Prop:=¬l=[]→∃g,p=some ⟨g,0,none⟩∧Code' w g l
theorem CodeP.nw {w w':World} {p:Option Addr} {l:List In} (h:CodeP w p l) (k:Nw w w'):CodeP w' p l:=by
 intro hne
 obtain ⟨g,e,hc⟩:=h hne
 exact ⟨g,e,hc.kp k (fun h=>h)⟩
def ValidPost (w:World) (l:List In) (e:Ending) (w':World):Prop:=∃a b,e=.returned (.tuple #[.int .i64 a,.int .i64 b])∧ValidIs l a b∧Nw w w'
theorem eqb_false {a b:Int} (h:¬a=b):(a == b)=false:=by simp [h]
end Go.Proofs.YtcboiapggnmpfabGreatDoor
