import Derived.Test.YtcboiapggnmpfaaGreatDoorQbg
namespace Go.Proofs.YtcboiapggnmpfaaGreatDoor
set_option maxRecDepth 100000
set_option maxHeartbeats 1000000
set_option linter.unusedSimpArgs false
set_option linter.unusedVariables false
open Go.RowKit
structure TOk (t:Thr):Prop where
 k:ThrOk t
 b:TimeOk t.began
 a:0≤t.at'
structure CrOk (c:Crw):Prop where
 m:c.most≤10000
 n:c.l.length≤10000
 t:∀u∈c.l,TOk u
theorem addC_ok {c:Crw} {t:Thr} (h:CrOk c) (ht:TOk t):CrOk (addC c t):=by
 unfold addC
 split
 ·exact h
 ·split
  ·exact ⟨h.m,h.n,h.t⟩
  ·rename_i h1 h2
   refine ⟨h.m,?_,?_⟩
   ·have hm:=h.m
    have hn:=h.n
    have e:(c.l.take (plcT c.l t)++t::c.l.drop (plcT c.l t)).length=c.l.length+1:=by
     have:=plcT_le c.l t
     simp;omega
    show (c.l.take (plcT c.l t)++t::c.l.drop (plcT c.l t)).length≤10000
    rw [e];omega
   ·intro u hu
    rcases List.mem_append.1 hu with e|e
    ·exact h.t u (List.mem_of_mem_take e)
    ·rcases List.mem_cons.1 e with e|e
     ·rw [e];exact ht
     ·exact h.t u (List.mem_of_mem_drop e)
theorem addC_most (c:Crw) (t:Thr):(addC c t).most=c.most:=by
 unfold addC
 split
 ·rfl
 ·split <;> rfl
structure TnOk (n:Nat) (s:Tn):Prop where
 w:CrOk s.wait
 e:CrOk s.ended
 v:s.vis.length=16*n
 o:∀p∈s.opn,(∃a:Nat,p.1=a∧a<n)∧p.2<16
theorem rchS_ok {n:Nat} {s:Tn} (h:TnOk n s) (a anew:Nat) (hw:anew<16):TnOk n (rchS s a anew):=by
 unfold rchS
 split
 ·rename_i hc
  have e:((a:Int)*16+(anew:Int)).toNat=a*16+anew:=by omega
  rw [e] at hc
  have hl:=(List.getElem?_eq_some_iff.1 hc.2).1
  have hv:=h.v
  refine ⟨h.w,h.e,by simp [h.v],?_⟩
  intro p hp
  rcases List.mem_append.1 hp with e|e
  ·exact h.o p e
  ·simp only [List.mem_singleton] at e
   subst e
   exact ⟨⟨a,rfl,by omega⟩,hw⟩
 ·exact h
theorem rchS_cnt {s:Tn} (a anew:Nat):(rchS s a anew).opn.length+(rchS s a anew).vis.count false=s.opn.length+s.vis.count false:=by
 unfold rchS
 split
 ·rename_i hc
  have:=count_set hc.2
  simp;omega
 ·rfl
theorem rchS_wait (s:Tn) (z:Int) (anew:Nat):(rchS s z anew).wait=s.wait∧(rchS s z anew).ended=s.ended:=by
 unfold rchS
 split <;> exact ⟨rfl,rfl⟩
theorem threadS_tok {hand:Nmb} {t:Thr} (hh:In64 hand.n∧EvOk hand.e) (ht:TOk t) {a:Nat} (ha:a≤2000) (anew:Nat):TOk (threadS hand t a anew) :=
 ⟨threadS_ok hh ht.k (by unfold In64;omega) anew,ht.b,by show (0:Int)≤(a:Int);omega⟩
theorem lvS_ok {n:Nat} {s:Tn} {hand:Nmb} {t:Thr} {l:List In} (hl:l.length=n) (hn:n≤1000) (h:TnOk n s) (hh:In64 hand.n∧EvOk hand.e) (ht:TOk t) (hA:AllIns l) {a:Nat} {x:In} (hx:l[a]? = some x) {anew:Nat} (hw:anew<16):TnOk n (lvS hand t s a anew x)∧(lvS hand t s a anew x).opn.length+(lvS hand t s a anew x).vis.count false=s.opn.length+s.vis.count false:=by
 have hal:a<n:=by rw [←hl];exact (List.getElem?_eq_some_iff.1 hx).1
 have e1:(a:Int)+1=((a+1:Nat):Int):=by push_cast;rfl
 unfold lvS
 split
 ·exact ⟨⟨addC_ok h.w (threadS_tok hh ht (by omega) anew),h.e,h.v,h.o⟩,rfl⟩
 split
 ·split
  ·rw [e1];exact ⟨rchS_ok h _ _ hw,rchS_cnt _ _⟩
  ·exact ⟨h,rfl⟩
 split
 ·split
  ·rw [e1];exact ⟨rchS_ok h _ _ hw,rchS_cnt _ _⟩
  ·exact ⟨h,rfl⟩
 split
 ·rw [e1];exact ⟨rchS_ok h _ _ (Nat.or_lt_two_pow (n:=4) hw (bitN_lt x.a)),rchS_cnt _ _⟩
 split
 ·rename_i o4
  obtain ⟨ja,jb,_⟩:=ins_jump hA hx o4
  obtain ⟨m,hm⟩:∃m:Nat,x.a=m:=⟨x.a.toNat,by omega⟩
  rw [hm];exact ⟨rchS_ok h _ _ hw,rchS_cnt _ _⟩
 split
 ·rename_i o5
  obtain ⟨ja,jb,jc,jd,_⟩:=ins_split hA hx o5
  obtain ⟨m,hm⟩:∃m:Nat,x.a=m:=⟨x.a.toNat,by omega⟩
  obtain ⟨k,hk⟩:∃k:Nat,x.b=k:=⟨x.b.toNat,by omega⟩
  rw [hm,hk];exact ⟨rchS_ok (rchS_ok h _ _ hw) _ _ hw,by rw [rchS_cnt,rchS_cnt]⟩
 split
 ·exact ⟨⟨h.w,addC_ok h.e (threadS_tok (a:=0) hh ht (by omega) anew),h.v,h.o⟩,rfl⟩
 ·exact ⟨h,rfl⟩
theorem lvS_most (hand:Nmb) (t:Thr) (s:Tn) (a:Int) (anew:Nat) (x:In):(lvS hand t s a anew x).wait.most=s.wait.most∧(lvS hand t s a anew x).ended.most=s.ended.most:=by
 unfold lvS
 split
 ·exact ⟨addC_most _ _,rfl⟩
 split
 ·split
  ·rw [(rchS_wait _ _ _).1,(rchS_wait _ _ _).2];exact ⟨rfl,rfl⟩
  ·exact ⟨rfl,rfl⟩
 split
 ·split
  ·rw [(rchS_wait _ _ _).1,(rchS_wait _ _ _).2];exact ⟨rfl,rfl⟩
  ·exact ⟨rfl,rfl⟩
 split
 ·rw [(rchS_wait _ _ _).1,(rchS_wait _ _ _).2];exact ⟨rfl,rfl⟩
 split
 ·rw [(rchS_wait _ _ _).1,(rchS_wait _ _ _).2];exact ⟨rfl,rfl⟩
 split
 ·rw [(rchS_wait _ _ _).1,(rchS_wait _ _ _).2,(rchS_wait _ _ _).1,(rchS_wait _ _ _).2];exact ⟨rfl,rfl⟩
 split
 ·exact ⟨rfl,addC_most _ _⟩
 ·exact ⟨rfl,rfl⟩
def overT (s:Tn):Bool:=s.wait.over||s.ended.over
theorem goF_over {l:List In} {hand:Nmb} {t:Thr} {s:Tn} (h:overT s=true) (m:Nat):goF l hand t m s=s:=by
 cases m with
 | zero=>rfl
 | succ m=>simp only [goF];rw [if_pos (by simpa [overT] using h)]
theorem goF_nil {l : List In} {hand : Nmb} {t : Thr} {s : Tn} (h : s.opn = []) (m : Nat) : goF l hand t m s = s := by
  cases m with
  | zero => rfl
  | succ m => simp only [goF]; split; · rfl
              · rw [h]; rfl
theorem goF_step {l:List In} {hand:Nmb} {t:Thr} {s:Tn} {q:List (Int×Nat)} {a:Nat} {anew:Nat} {x:In} (ho:overT s=false) (h:s.opn=q++[((a:Int),anew)]) (hx:l[a]? = some x) (m:Nat):goF l hand t (m+1) s=goF l hand t m (lvS hand t { s with opn:=q } a anew x):=by
 simp only [goF]
 rw [if_neg (by simpa [overT] using ho),h]
 simp only [List.getLast?_append,List.getLast?_singleton,Option.some_or,Int.toNat_natCast,hx,List.dropLast_concat]
theorem StM.set36 {w:World} {R g cap:Nat} {l:List In} {hand:Nmb} {fr:Thr} {turn gb:Nat} {ov wv ev ov':Value} {s:Tn} (h:StM w R g cap l hand fr turn gb ov wv ev s) {q:List (Int×Nat)} (ho:w.ownsRow (R+1) 205 2 ov' q.length (spsC q)) :
  StM (w.setCell ⟨R,36,none⟩ ov') R g cap l hand fr turn gb ov' wv ev { s with opn:=q }:=by
 have hgb:=h.hgb
 have hg:=h.hg
 have kk:Kp (fun b=>b=R) w (w.setCell ⟨R,36,none⟩ ov'):=(Kp.refl (fun b=>b=R) w).setCell (p:=⟨R,36,none⟩) (Or.inr rfl) _
 refine ⟨?_,range_set h.hnd (by right;simp [nmC]) _,range_set h.frm (by right;rw [thC_len];omega) _,?_,?_,?_,h.wait.setC (Or.inl (by omega)) _,h.ended.setC (Or.inl (by omega)) _,?_,h.row.kp kk (by omega),h.vis.kp kk hgb,owns_kp ho kk ?_,h.ap,h.hg,h.hgb,h.ne,h.vl⟩
 ·simp [go_sem,h.cod]
 ·simp [go_sem,h.tun]
 ·simp [go_sem,h.rch]
 ·simp [go_sem,h.opn,h.z]
 ·intro p;rw [←h.z p];simp [go_sem]
 ·intro b hb e
  have:=(ho.lt b hb).1;omega
theorem cell_setCells_out {w:World} {R o p:Nat} {vs:List Value} (hp:p<o∨o+vs.length≤p):(w.setCells R o vs).cell? ⟨R,p,none⟩=w.cell? ⟨R,p,none⟩:=World.cell?_setCells_out R vs o w ⟨R,p,none⟩ (fun _ _=>hp)
theorem StM.begin {w:World} {R g cap:Nat} {l:List In} {hand:Nmb} {fr:Thr} {turn gb:Nat} {ov wv ev:Value} {s:Tn} (h:StM w R g cap l hand fr turn gb ov wv ev s) (t:Thr) :
  StM ((w.setCells R 7 (thC t)).setCell ⟨R,34,none⟩ (.int .i64 ((turn:Int)+1))) R g cap l hand t (turn+1) gb ov wv ev { s with vis:=List.replicate (16*l.length) false }:=by
 have hgb:=h.hgb
 have hg:=h.hg
 have k1:Kp (fun b=>b=R) w (w.setCells R 7 (thC t)):=kp_setCells _ _ _
 have k2:Kp (fun b=>b=R) w ((w.setCells R 7 (thC t)).setCell ⟨R,34,none⟩ (.int .i64 ((turn:Int)+1))):=k1.setCell (p:=⟨R,34,none⟩) (Or.inr rfl) _
 have c:∀p,p<7∨34≤p→(w.setCells R 7 (thC t)).cell? ⟨R,p,none⟩=w.cell? ⟨R,p,none⟩:=fun p hp=>cell_setCells_out (by rw [thC_len];exact hp)
 have c34:(w.setCells R 7 (thC t)).cell? ⟨R,34,none⟩=some (.int .i64 (turn:Int)):=(c 34 (Or.inr (Nat.le_refl _))).trans h.tun
 have zz:∀p,(w.setCells R 7 (thC t)).frozen? ⟨R,p,none⟩=false:=fun p=>by rw [World.frozen?_setCells];exact h.z p
 have cw:CrM (w.setCells R 7 (thC t)) R 37 (R+1) wv s.wait:=⟨(c 37 (Or.inr (by omega))).trans h.wait.c0,(c 38 (Or.inr (by omega))).trans h.wait.c1,(c 39 (Or.inr (by omega))).trans h.wait.c2,zz,owns_kp h.wait.own k1 (by intro b hb e;have:=(h.wait.own.lt b hb).1;omega),h.wait.lt⟩
 have ce:CrM (w.setCells R 7 (thC t)) R 40 (R+1) ev s.ended:=⟨(c 40 (Or.inr (by omega))).trans h.ended.c0,(c 41 (Or.inr (by omega))).trans h.ended.c1,(c 42 (Or.inr (by omega))).trans h.ended.c2,zz,owns_kp h.ended.own k1 (by intro b hb e;have:=(h.ended.own.lt b hb).1;omega),h.ended.lt⟩
 have c0:=(c 0 (Or.inl (by omega))).trans h.cod
 have c35:=(c 35 (Or.inr (by omega))).trans h.rch
 have c36:=(c 36 (Or.inr (by omega))).trans h.opn
 have hvl:=h.vl
 refine ⟨by simp [go_sem,c0],?_,?_,?_,?_,by simp [go_sem,c36],cw.setC (Or.inl (by omega)) _,ce.setC (Or.inl (by omega)) _,?_,h.row.kp k2 (by omega),?_,owns_kp h.own k2 ?_,h.ap,h.hg,h.hgb,h.ne,by simp⟩
 ·exact range_set (range_cells h.hnd (fun p h1 h2=>c p (by simp [nmC] at h2;omega))) (by right;simp [nmC]) _
 ·refine range_set (World.rangeAt_setCells_same w R 7 (thC t) ?_) (by right;rw [thC_len];omega) _
  intro j hj
  have hj':j<27:=by rwa [thC_len] at hj
  refine ⟨?_,h.z _⟩
  rw [h.frm j _ (List.getElem?_eq_getElem (by rw [thC_len];exact hj'))]
  rfl
 ·simp [go_sem,c34,zz]
 ·have e:(List.replicate (16*l.length) false).length=s.vis.length:=by simp [hvl]
  rw [e]
  simp [go_sem,c35]
 ·intro p;rw [←zz p];simp [go_sem]
 ·obtain ⟨rs,h1,h2,h3⟩:=h.vis.ex
  refine ⟨rs,h1.kp k2 hgb,by simp [h2,hvl],?_⟩
  intro m r hr
  have hm:=(List.getElem?_eq_some_iff.1 hr).1
  have:=(h3 m r hr).1
  refine ⟨by omega,?_⟩
  rw [List.getElem?_replicate,if_pos (by omega)]
  simp;omega
 ·intro b hb e
  have:=(h.own.lt b hb).1;omega
theorem isOver_any (R:Nat) (a b:Bool) (w:World) (h1:w.cell? ⟨R,39,none⟩=some (.bool a)) (h2:w.cell? ⟨R,42,none⟩=some (.bool b)) :
  Calls Tryz.prog 55 #[.pointer (some ⟨R,0,none⟩)] w fun e w'=>e=.returned (.bool (a||b))∧w'=w:=by
 cases a with
 | true =>
  go_enter Tryz.func55,Tryz.ntmps55
  go_wp2
  go_ret
  exact ⟨rfl,rfl⟩
 | false =>
  go_enter Tryz.func55,Tryz.ntmps55
  go_wp2
  go_ret
  exact ⟨rfl,rfl⟩
end Go.Proofs.YtcboiapggnmpfaaGreatDoor
