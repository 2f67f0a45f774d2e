import Derived.Test.YtcboiapggnmpfabGreatQbe
import Derived.Test.YtcboiapggnmpfabGreatQae
namespace Go.Proofs.YtcboiapggnmpfabGreat
set_option linter.unusedSimpArgs false
set_option linter.unusedVariables false
open Go.RowKit
def spC (p:Int×Nat):List Value:=[.int .i64 p.1,.int .i64 (p.2:Int)]
def spsC (l:List (Int×Nat)):List Value:=(l.map spC).flatten
theorem spsC_length (l:List (Int×Nat)):(spsC l).length=l.length*2:=by
 induction l with
 | nil=>rfl
 | cons y r ih =>
  have e:spsC (y::r)=spC y++spsC r:=by simp [spsC]
  rw [e,List.length_append,ih,List.length_cons];simp [spC];omega
theorem spsC_app (a b:List (Int×Nat)):spsC (a++b)=spsC a++spsC b:=by simp [spsC]
theorem range_set {w:World} {R o k:Nat} {cs:List Value} (h:w.rangeAt R o cs) (hk:k<o∨o+cs.length≤k) (v:Value):(w.setCell ⟨R,k,none⟩ v).rangeAt R o cs:=by
 intro j u hu
 have hj:=(List.getElem?_eq_some_iff.1 hu).1
 have hne:¬k=o+j:=by omega
 have hne':¬o+j=k:=by omega
 have:=h j u hu
 simp [go_sem,hne,hne',this]
theorem CrM.setC {w:World} {R o base:Nat} {v:Value} {c:Crw} (h:CrM w R o base v c) {k:Nat} (hk:k<o∨o+3≤k) (u:Value):CrM (w.setCell ⟨R,k,none⟩ u) R o base v c:=by
 have n0:¬k=o:=by omega
 have n1:¬k=o+1:=by omega
 have n2:¬k=o+2:=by omega
 have n0':¬o=k:=by omega
 have n1':¬o+1=k:=by omega
 have n2':¬o+2=k:=by omega
 have kk:Kp (fun b=>b=R) w (w.setCell ⟨R,k,none⟩ u):=(Kp.refl (fun b=>b=R) w).setCell (p:=⟨R,k,none⟩) (Or.inr rfl) _
 refine ⟨by simp [go_sem,n0,n0',h.c0],by simp [go_sem,n1,n1',h.c1],by simp [go_sem,n2,n2',h.c2],fun p=>by rw [←h.z p];simp [go_sem],owns_kp h.own kk ?_,h.lt⟩
 intro b hb e
 have:=(h.own.lt b hb).1;have:=h.lt;omega
theorem CrM.kp {S:Nat→Prop} {w w':World} {R o base:Nat} {v:Value} {c:Crw} (h:CrM w R o base v c) (k:Kp S w w') (hR:¬S R) (hv:∀b,v.ownBlock=some b→¬S b):CrM w' R o base v c :=
 ⟨(k.cell (p:=⟨R,o,none⟩) h.rl hR).trans h.c0,(k.cell (p:=⟨R,o+1,none⟩) h.rl hR).trans h.c1,(k.cell (p:=⟨R,o+2,none⟩) h.rl hR).trans h.c2,fun p=>(k.frozen (p:=⟨R,p,none⟩) h.rl hR).trans (h.z p),owns_kp h.own k hv,h.lt⟩
structure VisM (w:World) (gb:Nat) (turn:Nat) (vis:List Bool):Prop where
 ex:∃rs:List Nat,Row w gb 3 (intsV rs)∧rs.length=vis.length∧∀(m r:Nat),rs[m]? = some r→r≤turn∧vis[m]? = some (decide (r=turn))
theorem VisM.kp {S:Nat→Prop} {w w':World} {gb turn:Nat} {vis:List Bool} (h:VisM w gb turn vis) (k:Kp S w w') (hs:¬S gb):VisM w' gb turn vis:=by
 obtain ⟨rs,h1,h2,h3⟩:=h.ex
 exact ⟨rs,h1.kp k hs,h2,h3⟩
structure StM (w:World) (R g cap:Nat) (l:List In) (hand:Nmb) (fr:Thr) (turn gb:Nat) (ov wv ev:Value) (s:Tn):Prop where
 cod:w.cell? ⟨R,0,none⟩=some (.slice (some ⟨g,0,none⟩) l.length cap)
 hnd:w.rangeAt R 1 (nmC hand)
 frm:w.rangeAt R 7 (thC fr)
 tun:w.cell? ⟨R,34,none⟩=some (.int .i64 (turn:Int))
 rch:w.cell? ⟨R,35,none⟩=some (.slice (some ⟨gb,0,none⟩) s.vis.length s.vis.length)
 opn:w.cell? ⟨R,36,none⟩=some ov
 wait:CrM w R 37 (R+1) wv s.wait
 ended:CrM w R 40 (R+1) ev s.ended
 z:∀p,w.frozen? ⟨R,p,none⟩=false
 row:Code' w g l
 vis:VisM w gb turn s.vis
 own:w.ownsRow (R+1) 181 2 ov s.opn.length (spsC s.opn)
 ap:∀b,wv.ownBlock=some b→¬ev.ownBlock=some b
 hg:g<R
 hgb:¬gb=R
 ne:¬g=gb
 vl:s.vis.length=16*l.length
theorem StM.lt {w:World} {R g cap:Nat} {l:List In} {hand:Nmb} {fr:Thr} {turn gb:Nat} {ov wv ev:Value} {s:Tn} (h:StM w R g cap l hand fr turn gb ov wv ev s):R<w.heap.size:=World.block_lt_of_cell? w ⟨R,0,none⟩ h.cod
theorem StM.nw {w w':World} {R g cap:Nat} {l:List In} {hand:Nmb} {fr:Thr} {turn gb:Nat} {ov wv ev:Value} {s:Tn} (h:StM w R g cap l hand fr turn gb ov wv ev s) (k:Nw w w'):StM w' R g cap l hand fr turn gb ov wv ev s :=
 ⟨(k.cell (p:=⟨R,0,none⟩) h.lt (fun h=>h)).trans h.cod,range_kp h.hnd h.lt k (fun h=>h),range_kp h.frm h.lt k (fun h=>h),(k.cell (p:=⟨R,34,none⟩) h.lt (fun h=>h)).trans h.tun,(k.cell (p:=⟨R,35,none⟩) h.lt (fun h=>h)).trans h.rch,(k.cell (p:=⟨R,36,none⟩) h.lt (fun h=>h)).trans h.opn,h.wait.nw k,h.ended.nw k,fun p=>(k.frozen (p:=⟨R,p,none⟩) h.lt (fun h=>h)).trans (h.z p),h.row.kp k (fun h=>h),h.vis.kp k (fun h=>h),owns_kp h.own k (fun _ _ h=>h),h.ap,h.hg,h.hgb,h.ne,h.vl⟩
theorem owns_ne {w:World} {b1 b2 s1 s2 n1 n2:Nat} {e1 e2:TypeId} {v1 v2:Value} {x1 x2:List Value} (h1:w.ownsRow b1 e1 s1 v1 n1 x1) (h2:w.ownsRow b2 e2 s2 v2 n2 x2) (hne:¬e1=e2):∀b,v1.ownBlock=some b→¬v2.ownBlock=some b:=by
 intro b hb1 hb2
 rcases h1.2 with ⟨rfl,_⟩ | ⟨g,c,cur,rfl,_,hg,_⟩
 ·simp [Value.ownBlock] at hb1
 ·rcases h2.2 with ⟨rfl,_⟩ | ⟨g',c',cur',rfl,_,hg',_⟩
  ·simp [Value.ownBlock] at hb2
  ·simp only [Value.ownBlock,Option.some.injEq] at hb1 hb2
   subst hb1;subst hb2
   rw [hg] at hg'
   simp only [Option.some.injEq,Obj.cells.injEq] at hg'
   exact hne hg'.2.1
theorem VisM.lt {w:World} {gb turn:Nat} {vis:List Bool} (h:VisM w gb turn vis):gb<w.heap.size:=by
 obtain ⟨rs,h1,_⟩:=h.ex
 exact h1.lt
theorem StM.gbn {w:World} {R g cap:Nat} {l:List In} {hand:Nmb} {fr:Thr} {turn gb:Nat} {ov wv ev:Value} {s:Tn} (h:StM w R g cap l hand fr turn gb ov wv ev s):¬ov.ownBlock=some gb∧¬wv.ownBlock=some gb∧¬ev.ownBlock=some gb:=by
 obtain ⟨rs,h1,_⟩:=h.vis.ex
 exact ⟨fun e=>owns_row_ne h.own h1 (by decide) e.symm,fun e=>owns_row_ne h.wait.own h1 (by decide) e.symm,fun e=>owns_row_ne h.ended.own h1 (by decide) e.symm⟩
theorem StM.reachd {w w3:World} {R g cap:Nat} {l:List In} {hand:Nmb} {fr:Thr} {turn gb:Nat} {ov wv ev ov':Value} {s:Tn} (h:StM w R g cap l hand fr turn gb ov wv ev s) {m:Nat} {p:Int×Nat} (k:Kp (fun b=>b=gb∨ov.ownBlock=some b) w w3) (hv:VisM w3 gb turn (s.vis.set m true)) (ho:w3.ownsRow (R+1) 181 2 ov' (s.opn.length+1) (spsC s.opn++spC p)) (how:∀b,ov'.ownBlock=some b→ov.ownBlock=some b∨w.heap.size≤b) :
  StM (w3.setCell ⟨R,36,none⟩ ov') R g cap l hand fr turn gb ov' wv ev { s with vis:=s.vis.set m true,opn:=s.opn++[p] }∧KF R gb ov ov' w (w3.setCell ⟨R,36,none⟩ ov'):=by
 have hgb:=h.hgb
 have hg:=h.hg
 have hl:=h.lt
 have hne:=h.ne
 have hRn:¬(R=gb∨ov.ownBlock=some R):=by
  rintro (e|e)
  ·exact hgb e.symm
  ·have:=(h.own.lt R e).1;omega
 have kR:∀p,w3.cell? ⟨R,p,none⟩=w.cell? ⟨R,p,none⟩:=fun p=>k.cell (p:=⟨R,p,none⟩) hl hRn
 have kz:∀p,w3.frozen? ⟨R,p,none⟩=false:=fun p=>(k.frozen (p:=⟨R,p,none⟩) hl hRn).trans (h.z p)
 have kk:Kp (fun b=>b=R) w3 (w3.setCell ⟨R,36,none⟩ ov'):=(Kp.refl (fun b=>b=R) w3).setCell (p:=⟨R,36,none⟩) (Or.inr rfl) _
 have c36:=(kR 36).trans h.opn
 have apw:∀b,wv.ownBlock=some b→¬(b=gb∨ov.ownBlock=some b):=by
  rintro b hb (e|e)
  ·subst e;exact h.gbn.2.1 hb
  ·exact owns_ne h.wait.own h.own (by decide) b hb e
 have ape:∀b,ev.ownBlock=some b→¬(b=gb∨ov.ownBlock=some b):=by
  rintro b hb (e|e)
  ·subst e;exact h.gbn.2.2 hb
  ·exact owns_ne h.ended.own h.own (by decide) b hb e
 refine ⟨⟨?_,?_,?_,?_,?_,?_,(h.wait.kp k hRn apw).setC (Or.inl (by omega)) _,(h.ended.kp k hRn ape).setC (Or.inl (by omega)) _,?_,?_,?_,?_,h.ap,h.hg,h.hgb,h.ne,by simp [h.vl]⟩,?_⟩
 ·simp [go_sem,kR,h.cod]
 ·exact range_set (range_kp h.hnd hl k hRn) (by right;simp [nmC]) _
 ·exact range_set (range_kp h.frm hl k hRn) (by right;rw [thC_len];omega) _
 ·simp [go_sem,kR,h.tun]
 ·simp [go_sem,kR,h.rch]
 ·simp [go_sem,c36,kz]
 ·intro p;rw [←kz p];simp [go_sem]
 ·refine (h.row.kp k ?_).kp kk (by omega)
  rintro (e|e)
  ·exact hne e
  ·have:=(h.own.lt g e).1;omega
 ·exact hv.kp kk hgb
 ·have e1:(s.opn++[p]).length=s.opn.length+1:=by simp
  have e2:spsC (s.opn++[p])=spsC s.opn++spC p:=by rw [spsC_app];simp [spsC]
  show World.ownsRow _ _ _ _ _ (s.opn++[p]).length (spsC (s.opn++[p]))
  rw [e1,e2]
  refine owns_kp ho kk ?_
  intro b hb e
  have:=(ho.lt b hb).1;omega
 ·exact ⟨(k.mono (fun b _ e=>Or.inr e)).trans' kk (fun b _ e=>Or.inl e),how⟩
end Go.Proofs.YtcboiapggnmpfabGreat
