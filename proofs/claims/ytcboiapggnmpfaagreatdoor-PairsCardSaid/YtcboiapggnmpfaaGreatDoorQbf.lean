import Derived.Test.YtcboiapggnmpfaaGreatDoorQbe
import Derived.Test.YtcboiapggnmpfaaGreatDoorQae
namespace Go.Proofs.YtcboiapggnmpfaaGreatDoor
set_option maxRecDepth 100000
set_option maxHeartbeats 4000000
set_option linter.unusedSimpArgs false
set_option linter.unusedVariables false
open Go.RowKit
def spC (p:Int×Nat):List Value:=[.int .i64 p.1,.int .i64 (p.2:Int)]
def spsC (l:List (Int×Nat)):List Value:=(l.map spC).flatten
theorem spsC_length (l:List (Int×Nat)):(spsC l).length=l.length*2:=by
 induction l with
 | nil=>rfl
 | cons y r ih =>
  have e:spsC (y::r)=spC y++spsC r:=by simp [spsC]
  rw [e,List.length_append,ih,List.length_cons];simp [spC];omega
theorem spsC_app (a b:List (Int×Nat)):spsC (a++b)=spsC a++spsC b:=by simp [spsC]
theorem range_set {w:World} {R o k:Nat} {cs:List Value} (h:w.rangeAt R o cs) (hk:k<o∨o+cs.length≤k) (v:Value):(w.setCell ⟨R,k,none⟩ v).rangeAt R o cs:=by
 intro j u hu
 have hj:=(List.getElem?_eq_some_iff.1 hu).1
 have hne:¬k=o+j:=by omega
 have hne':¬o+j=k:=by omega
 have:=h j u hu
 simp [go_sem,hne,hne',this]
theorem CrM.setC {w:World} {R o base:Nat} {v:Value} {c:Crw} (h:CrM w R o base v c) {k:Nat} (hk:k<o∨o+3≤k) (u:Value):CrM (w.setCell ⟨R,k,none⟩ u) R o base v c:=by
 have n0:¬k=o:=by omega
 have n1:¬k=o+1:=by omega
 have n2:¬k=o+2:=by omega
 have n0':¬o=k:=by omega
 have n1':¬o+1=k:=by omega
 have n2':¬o+2=k:=by omega
 have kk:Kp (fun b=>b=R) w (w.setCell ⟨R,k,none⟩ u):=(Kp.refl (fun b=>b=R) w).setCell (p:=⟨R,k,none⟩) (Or.inr rfl) _
 refine ⟨by simp [go_sem,n0,n0',h.c0],by simp [go_sem,n1,n1',h.c1],by simp [go_sem,n2,n2',h.c2],fun p=>by rw [←h.z p];simp [go_sem],owns_kp h.own kk ?_,h.lt⟩
 intro b hb e
 have:=(h.own.lt b hb).1;have:=h.lt;omega
theorem CrM.kp {S:Nat→Prop} {w w':World} {R o base:Nat} {v:Value} {c:Crw} (h:CrM w R o base v c) (k:Kp S w w') (hR:¬S R) (hv:∀b,v.ownBlock=some b→¬S b):CrM w' R o base v c :=
 ⟨(k.cell (p:=⟨R,o,none⟩) h.rl hR).trans h.c0,(k.cell (p:=⟨R,o+1,none⟩) h.rl hR).trans h.c1,(k.cell (p:=⟨R,o+2,none⟩) h.rl hR).trans h.c2,fun p=>(k.frozen (p:=⟨R,p,none⟩) h.rl hR).trans (h.z p),owns_kp h.own k hv,h.lt⟩
structure VisM (w:World) (gb:Nat) (turn:Nat) (vis:List Bool):Prop where
 ex:∃rs:List Nat,Row w gb 3 (intsV rs)∧rs.length=vis.length∧∀(m r:Nat),rs[m]? = some r→r≤turn∧vis[m]? = some (decide (r=turn))
theorem VisM.kp {S:Nat→Prop} {w w':World} {gb turn:Nat} {vis:List Bool} (h:VisM w gb turn vis) (k:Kp S w w') (hs:¬S gb):VisM w' gb turn vis:=by
 obtain ⟨rs,h1,h2,h3⟩:=h.ex
 exact ⟨rs,h1.kp k hs,h2,h3⟩
structure StM (w:World) (R g cap:Nat) (l:List In) (hand:Nmb) (fr:Thr) (turn gb:Nat) (ov wv ev:Value) (s:Tn):Prop where
 cod:w.cell? ⟨R,0,none⟩=some (.slice (some ⟨g,0,none⟩) l.length cap)
 hnd:w.rangeAt R 1 (nmC hand)
 frm:w.rangeAt R 7 (thC fr)
 tun:w.cell? ⟨R,34,none⟩=some (.int .i64 (turn:Int))
 rch:w.cell? ⟨R,35,none⟩=some (.slice (some ⟨gb,0,none⟩) s.vis.length s.vis.length)
 opn:w.cell? ⟨R,36,none⟩=some ov
 wait:CrM w R 37 (R+1) wv s.wait
 ended:CrM w R 40 (R+1) ev s.ended
 z:∀p,w.frozen? ⟨R,p,none⟩=false
 row:Code' w g l
 vis:VisM w gb turn s.vis
 own:w.ownsRow (R+1) 205 2 ov s.opn.length (spsC s.opn)
 ap:∀b,wv.ownBlock=some b→¬ev.ownBlock=some b
 hg:g<R
 hgb:¬gb=R
 ne:¬g=gb
 vl:s.vis.length=16*l.length
theorem StM.lt {w:World} {R g cap:Nat} {l:List In} {hand:Nmb} {fr:Thr} {turn gb:Nat} {ov wv ev:Value} {s:Tn} (h:StM w R g cap l hand fr turn gb ov wv ev s):R<w.heap.size:=World.block_lt_of_cell? w ⟨R,0,none⟩ h.cod
theorem StM.nw {w w':World} {R g cap:Nat} {l:List In} {hand:Nmb} {fr:Thr} {turn gb:Nat} {ov wv ev:Value} {s:Tn} (h:StM w R g cap l hand fr turn gb ov wv ev s) (k:Nw w w'):StM w' R g cap l hand fr turn gb ov wv ev s :=
 ⟨(k.cell (p:=⟨R,0,none⟩) h.lt (fun h=>h)).trans h.cod,range_kp h.hnd h.lt k (fun h=>h),range_kp h.frm h.lt k (fun h=>h),(k.cell (p:=⟨R,34,none⟩) h.lt (fun h=>h)).trans h.tun,(k.cell (p:=⟨R,35,none⟩) h.lt (fun h=>h)).trans h.rch,(k.cell (p:=⟨R,36,none⟩) h.lt (fun h=>h)).trans h.opn,h.wait.nw k,h.ended.nw k,fun p=>(k.frozen (p:=⟨R,p,none⟩) h.lt (fun h=>h)).trans (h.z p),h.row.kp k (fun h=>h),h.vis.kp k (fun h=>h),owns_kp h.own k (fun _ _ h=>h),h.ap,h.hg,h.hgb,h.ne,h.vl⟩
theorem owns_ne {w:World} {b1 b2 s1 s2 n1 n2:Nat} {e1 e2:TypeId} {v1 v2:Value} {x1 x2:List Value} (h1:w.ownsRow b1 e1 s1 v1 n1 x1) (h2:w.ownsRow b2 e2 s2 v2 n2 x2) (hne:¬e1=e2):∀b,v1.ownBlock=some b→¬v2.ownBlock=some b:=by
 intro b hb1 hb2
 rcases h1.2 with ⟨rfl,_⟩ | ⟨g,c,cur,rfl,_,hg,_⟩
 ·simp [Value.ownBlock] at hb1
 ·rcases h2.2 with ⟨rfl,_⟩ | ⟨g',c',cur',rfl,_,hg',_⟩
  ·simp [Value.ownBlock] at hb2
  ·simp only [Value.ownBlock,Option.some.injEq] at hb1 hb2
   subst hb1;subst hb2
   rw [hg] at hg'
   simp only [Option.some.injEq,Obj.cells.injEq] at hg'
   exact hne hg'.2.1
theorem VisM.lt {w:World} {gb turn:Nat} {vis:List Bool} (h:VisM w gb turn vis):gb<w.heap.size:=by
 obtain ⟨rs,h1,_⟩:=h.ex
 exact h1.lt
theorem StM.gbn {w:World} {R g cap:Nat} {l:List In} {hand:Nmb} {fr:Thr} {turn gb:Nat} {ov wv ev:Value} {s:Tn} (h:StM w R g cap l hand fr turn gb ov wv ev s):¬ov.ownBlock=some gb∧¬wv.ownBlock=some gb∧¬ev.ownBlock=some gb:=by
 obtain ⟨rs,h1,_⟩:=h.vis.ex
 exact ⟨fun e=>owns_row_ne h.own h1 (by decide) e.symm,fun e=>owns_row_ne h.wait.own h1 (by decide) e.symm,fun e=>owns_row_ne h.ended.own h1 (by decide) e.symm⟩
theorem StM.reachd {w w3:World} {R g cap:Nat} {l:List In} {hand:Nmb} {fr:Thr} {turn gb:Nat} {ov wv ev ov':Value} {s:Tn} (h:StM w R g cap l hand fr turn gb ov wv ev s) {m:Nat} {p:Int×Nat} (k:Kp (fun b=>b=gb∨ov.ownBlock=some b) w w3) (hv:VisM w3 gb turn (s.vis.set m true)) (ho:w3.ownsRow (R+1) 205 2 ov' (s.opn.length+1) (spsC s.opn++spC p)) (how:∀b,ov'.ownBlock=some b→ov.ownBlock=some b∨w.heap.size≤b) :
  StM (w3.setCell ⟨R,36,none⟩ ov') R g cap l hand fr turn gb ov' wv ev { s with vis:=s.vis.set m true,opn:=s.opn++[p] }∧KF R gb ov ov' w (w3.setCell ⟨R,36,none⟩ ov'):=by
 have hgb:=h.hgb
 have hg:=h.hg
 have hl:=h.lt
 have hne:=h.ne
 have hRn:¬(R=gb∨ov.ownBlock=some R):=by
  rintro (e|e)
  ·exact hgb e.symm
  ·have:=(h.own.lt R e).1;omega
 have kR:∀p,w3.cell? ⟨R,p,none⟩=w.cell? ⟨R,p,none⟩:=fun p=>k.cell (p:=⟨R,p,none⟩) hl hRn
 have kz:∀p,w3.frozen? ⟨R,p,none⟩=false:=fun p=>(k.frozen (p:=⟨R,p,none⟩) hl hRn).trans (h.z p)
 have kk:Kp (fun b=>b=R) w3 (w3.setCell ⟨R,36,none⟩ ov'):=(Kp.refl (fun b=>b=R) w3).setCell (p:=⟨R,36,none⟩) (Or.inr rfl) _
 have c36:=(kR 36).trans h.opn
 have apw:∀b,wv.ownBlock=some b→¬(b=gb∨ov.ownBlock=some b):=by
  rintro b hb (e|e)
  ·subst e;exact h.gbn.2.1 hb
  ·exact owns_ne h.wait.own h.own (by decide) b hb e
 have ape:∀b,ev.ownBlock=some b→¬(b=gb∨ov.ownBlock=some b):=by
  rintro b hb (e|e)
  ·subst e;exact h.gbn.2.2 hb
  ·exact owns_ne h.ended.own h.own (by decide) b hb e
 refine ⟨⟨?_,?_,?_,?_,?_,?_,(h.wait.kp k hRn apw).setC (Or.inl (by omega)) _,(h.ended.kp k hRn ape).setC (Or.inl (by omega)) _,?_,?_,?_,?_,h.ap,h.hg,h.hgb,h.ne,by simp [h.vl]⟩,?_⟩
 ·simp [go_sem,kR,h.cod]
 ·exact range_set (range_kp h.hnd hl k hRn) (by right;simp [nmC]) _
 ·exact range_set (range_kp h.frm hl k hRn) (by right;rw [thC_len];omega) _
 ·simp [go_sem,kR,h.tun]
 ·simp [go_sem,kR,h.rch]
 ·simp [go_sem,c36,kz]
 ·intro p;rw [←kz p];simp [go_sem]
 ·refine (h.row.kp k ?_).kp kk (by omega)
  rintro (e|e)
  ·exact hne e
  ·have:=(h.own.lt g e).1;omega
 ·exact hv.kp kk hgb
 ·have e1:(s.opn++[p]).length=s.opn.length+1:=by simp
  have e2:spsC (s.opn++[p])=spsC s.opn++spC p:=by rw [spsC_app];simp [spsC]
  show World.ownsRow _ _ _ _ _ (s.opn++[p]).length (spsC (s.opn++[p]))
  rw [e1,e2]
  refine owns_kp ho kk ?_
  intro b hb e
  have:=(ho.lt b hb).1;omega
 ·exact ⟨(k.mono (fun b _ e=>Or.inr e)).trans' kk (fun b _ e=>Or.inl e),how⟩
open Value (int slice)
open IntKind (i64)
theorem mark_or (a anew:Nat) (ha:a≤2000) (hw:anew<16):bits .or .i64 ((a:Int)*16) (anew:Int)=((a*16+anew:Nat):Int):=by
 have h1:=bits_or (a*16) anew (by omega) (by omega)
 have h2:a*16 ||| anew=a*16+anew:=by
  have:=Nat.two_pow_add_eq_or_of_lt (i:=4) (b:=anew) hw a
  rw [Nat.mul_comm a 16];exact this.symm
 rw [h2] at h1
 rw [←h1]
 congr 1
theorem Tryz.unSps:Tryz.prog.underlying 130=some (.slice 205):=by kernel_rfl
theorem Tryz.infoSp:(Tryz.prog.info? 205).map (fun i=>(i.zero,i.size,i.bytes))=some (some (.agg #[int i64 0,int i64 0]),2,16):=by kernel_rfl
def RcPost (w:World) (R g cap:Nat) (l:List In) (hand:Nmb) (fr:Thr) (turn gb:Nat) (ov wv ev:Value) (s:Tn) (e:Ending) (w':World):Prop :=
 e=.returned (.tuple #[])∧∃ov',StM w' R g cap l hand fr turn gb ov' wv ev s∧KF R gb ov ov' w w'
theorem reachT_any (R g cap:Nat) (l:List In) (hand:Nmb) (fr:Thr) (turn gb:Nat) (ov wv ev:Value) (s:Tn) (a anew:Nat) (w:World) (h:StM w R g cap l hand fr turn gb ov wv ev s) (ha:a≤2000) (hw:anew<16) (hn:l.length≤1000) (hq:s.opn.length≤100000) :
  Calls Tryz.prog 104 #[.pointer (some ⟨R,0,none⟩),.int .i64 (a:Int),.int .i64 (anew:Int)] w (RcPost w R g cap l hand fr turn gb ov wv ev (rchS s a anew)):=by
 have H:Hid (StM w R g cap l hand fr turn gb ov wv ev s):=h
 have hmk:=mark_or a anew ha hw
 obtain ⟨mk,hmke⟩:∃mk:Nat,mk=a*16+anew:=⟨_,rfl⟩
 rw [←hmke] at hmk
 have hmb:mk≤40000:=by omega
 have hvl:s.vis.length=16*l.length:=h.vl
 have hvb:s.vis.length≤16000:=by omega
 have HRS:Hid (rchS s a anew=if s.vis[mk]? = some false then { s with vis:=s.vis.set mk true,opn:=s.opn++[((a:Int),anew)] } else s):=by
  show _=_
  have e:((a:Int)*16+(anew:Int)).toNat=mk:=by omega
  unfold rchS
  rw [e]
  by_cases hv:s.vis[mk]? = some false
  ·rw [if_pos ⟨by omega,hv⟩,if_pos hv]
  ·rw [if_neg (fun h=>hv h.2),if_neg hv]
 have HMK:Hid (mk=a*16+anew):=hmke
 have hRl:=h.lt
 have hmk0:decide ((mk:Int)<0)=false:=by simp
 have hgb:=h.hgb
 have s1:∀W,Nw w W→W.cell? ⟨R,35,none⟩=some (.slice (some ⟨gb,0,none⟩) s.vis.length s.vis.length):=fun W kW=>(h.nw kW).rch
 have s2:∀W,Nw w W→W.cell? ⟨R,34,none⟩=some (.int .i64 (turn:Int)):=fun W kW=>(h.nw kW).tun
 obtain ⟨rs,hrow,hrl,hrv⟩:=h.vis.ex
 have HROW:Hid (Row w gb 3 (intsV rs)):=hrow
 have HRL:Hid (rs.length=s.vis.length):=hrl
 have HRV:Hid (∀(m r:Nat),rs[m]? = some r→r≤turn∧s.vis[m]? = some (decide (r=turn))):=hrv
 generalize rchS s a anew=s' at *
 clear h hmke hvl hrow hrl hrv
 by_cases hin:mk<s.vis.length
 ·obtain ⟨r,hr⟩:∃r,rs[mk]? = some r:=⟨_,List.getElem?_eq_getElem (by rw [HRL.out];exact hin)⟩
  have hr2:=HRV.out mk r hr
  have s3:∀W,Nw w W→W.cell? ⟨gb,mk,none⟩=some (.int .i64 (r:Int)):=fun W kW=>by
   rw [(HROW.out.kp kW (fun h=>h)).cell];simp [intsV,hr]
  have HR:Hid (rs[mk]? = some r):=hr
  have HV:Hid (s.vis[mk]? = some (decide (r=turn))):=hr2.2
  have hin':decide (s.vis.length≤mk)=false:=by simpa using hin
  clear hr hr2
  by_cases hrt:r=turn
  ·have HS:Hid (s'=s):=by show _=_;rw [HRS.out,HV.out,if_neg (by simp [hrt])]
   subst hrt
   go_enter Tryz.func104,Tryz.ntmps104
   go_wp2
   refine wp_region_held_drew (S:=fun W=>Nw w W) (by kernel_rfl) ((Kp.refl _ _).drew) (fun hHeld => ?_)
   refine tM 0 rfl (fun W hSW=>by (try dsimp only at hSW);go_simp;rw []) hHeld ?_
   refine tM 1 rfl (fun W hSW=>by (try dsimp only at hSW);go_simp;rw []) hHeld ?_
   refine tM 2 rfl (fun W hSW=>by (try dsimp only at hSW);go_simp;rw []) hHeld ?_
   refine tM 3 rfl (fun W hSW=>by (try dsimp only at hSW);go_simp;rw []) hHeld ?_
   refine tM 4 rfl (fun W hSW=>by (try dsimp only at hSW);go_simp;rw []) hHeld ?_
   refine tM 5 rfl (fun W hSW=>by (try dsimp only at hSW);go_simp;rw []) hHeld ?_
   refine tM 6 rfl (fun W hSW=>by (try dsimp only at hSW);go_simp;rw []) hHeld ?_
   refine tM 7 rfl (fun W hSW=>by (try dsimp only at hSW);go_simp;rw []) hHeld ?_
   refine tM 8 rfl (fun W hSW=>by (try dsimp only at hSW);go_simp;rw []) hHeld ?_
   refine tM 9 rfl (fun W hSW=>by (try dsimp only at hSW);go_simp;rw []) hHeld ?_
   refine tM 10 rfl (fun W hSW=>by (try dsimp only at hSW);go_simp;rw []) hHeld ?_
   refine tM 11 rfl (fun W hSW=>by (try dsimp only at hSW);go_simp;rw []) hHeld ?_
   refine tM 12 rfl (fun W hSW=>by (try dsimp only at hSW);go_simp;rw []) hHeld ?_
   refine tM 13 rfl (fun W hSW=>by (try dsimp only at hSW);go_simp;rw []) hHeld ?_
   refine tM 14 rfl (fun W hSW=>by (try dsimp only at hSW);go_simp;rw []) hHeld ?_
   refine tM 15 rfl (fun W hSW=>by (try dsimp only at hSW);go_simp;rw []) hHeld ?_
   refine tM 16 rfl (fun W hSW=>by (try dsimp only at hSW);go_simp;rw []) hHeld ?_
   refine tM 17 rfl (fun W hSW=>by (try dsimp only at hSW);go_simp;rw []) hHeld ?_
   refine tM 18 rfl (fun W hSW=>by (try dsimp only at hSW);go_simp;rw []) hHeld ?_
   refine tM 19 rfl (fun W hSW=>by (try dsimp only at hSW);go_simp;rw []) hHeld ?_
   refine tM 20 rfl (fun W hSW=>by (try dsimp only at hSW);go_simp;rw []) hHeld ?_
   refine tM 21 rfl (fun W hSW=>by (try dsimp only at hSW);go_simp;rw []) hHeld ?_
   refine tM 22 rfl (fun W hSW=>by (try dsimp only at hSW);go_simp;rw []) hHeld ?_
   refine tM 23 rfl (fun W hSW=>by (try dsimp only at hSW);go_simp;rw []) hHeld ?_
   refine tM 24 rfl (fun W hSW=>by (try dsimp only at hSW);go_simp;rw []) hHeld ?_
   refine wpAnyH_done (by kernel_rfl) ?_ _
   have HK:Hid (Nw w w.drew):=(Kp.refl _ _).drew
   clear s1 s2 s3 hHeld
   go_wp2
   go_end0
   exact ⟨rfl,ov,by rw [HS.out];exact H.out.nw HK.out,KF.of_nw HK.out⟩
  ·have HS:Hid (s'={ s with vis:=s.vis.set mk true,opn:=s.opn++[((a:Int),anew)] }):=by show _=_;rw [HRS.out,HV.out,if_pos (by simp [hrt])]
   have hrt':((r:Int) == (turn:Int))=false:=by simp;omega
   have hrt2:(r == turn)=false:=by simpa using hrt
   clear HRS
   obtain ⟨i0,hi,hz0,hz1,hz2⟩:=info_parts Tryz.infoSp
   have HCZ:Hid (∀p,w.frozen? ⟨gb,p,none⟩=false):=HROW.out.froz
   have kg:Kp (fun b=>b=gb∨ov.ownBlock=some b) w (w.setCell ⟨gb,mk,none⟩ (.int .i64 (turn:Int))).drew.drew:=(((Kp.refl (fun b=>b=gb∨ov.ownBlock=some b) w).setCell (p:=⟨gb,mk,none⟩) (Or.inr (Or.inl rfl)) _).drew).drew
   have HKG:Hid (Kp (fun b=>b=gb∨ov.ownBlock=some b) w (w.setCell ⟨gb,mk,none⟩ (.int .i64 (turn:Int))).drew.drew):=kg
   have HO1:Hid ((w.setCell ⟨gb,mk,none⟩ (.int .i64 (turn:Int))).drew.drew.ownsRow (R+1) 205 2 ov s.opn.length (spsC s.opn)):=by
    have k2:Kp (fun b=>b=gb) w (w.setCell ⟨gb,mk,none⟩ (.int .i64 (turn:Int))).drew.drew:=(((Kp.refl (fun b=>b=gb) w).setCell (p:=⟨gb,mk,none⟩) (Or.inr rfl) _).drew).drew
    exact owns_kp H.out.own k2 (by intro b hb e;subst e;exact H.out.gbn.1 hb)
   have HVI:Hid (∀W,Kp (fun b=>ov.ownBlock=some b) (w.setCell ⟨gb,mk,none⟩ (.int .i64 (turn:Int))).drew.drew W→VisM W gb turn (s.vis.set mk true)):=by
    intro W kW
    have hn:¬ov.ownBlock=some gb:=H.out.gbn.1
    have hrw:Row (w.setCell ⟨gb,mk,none⟩ (.int .i64 (turn:Int))).drew.drew gb 3 (intsV (rs.set mk turn)):=by
     have:=(HROW.out.set mk (.int .i64 (turn:Int))).kp (((Kp.refl (fun _=>False) _).drew).drew) (fun h=>h)
     have e:(intsV rs).set mk (.int .i64 (turn:Int))=intsV (rs.set mk turn):=by simp [intsV,List.map_set]
     rw [e] at this;exact this
    refine ⟨rs.set mk turn,hrw.kp kW hn,by simp [HRL.out],?_⟩
    intro m x hx
    by_cases hm:m=mk
    ·subst hm
     rw [List.getElem?_set_self (by rw [HRL.out];exact hin)] at hx
     simp only [Option.some.injEq] at hx
     subst hx
     exact ⟨Nat.le_refl _,by rw [List.getElem?_set_self hin];simp⟩
    ·rw [List.getElem?_set_ne (by omega)] at hx
     rw [List.getElem?_set_ne (by omega)]
     exact HRV.out m x hx
   have HSE:Hid ((w.setCell ⟨gb,mk,none⟩ (.int .i64 (turn:Int))).drew.drew.cell? ⟨R,35,none⟩=some (.slice (some ⟨gb,0,none⟩) s.vis.length s.vis.length)∧(w.setCell ⟨gb,mk,none⟩ (.int .i64 (turn:Int))).drew.drew.cell? ⟨R,34,none⟩=some (.int .i64 (turn:Int))∧(w.setCell ⟨gb,mk,none⟩ (.int .i64 (turn:Int))).drew.drew.cell? ⟨R,36,none⟩=some ov):=by
    have hn:¬(R=gb∨ov.ownBlock=some R):=by
     rintro (e|e)
     ·exact hgb e.symm
     ·have:=(H.out.own.lt R e).1;omega
    exact ⟨(kg.cell (p:=⟨R,35,none⟩) hRl hn).trans H.out.rch,(kg.cell (p:=⟨R,34,none⟩) hRl hn).trans H.out.tun,(kg.cell (p:=⟨R,36,none⟩) hRl hn).trans H.out.opn⟩
   have HSZ:Hid (R<(w.setCell ⟨gb,mk,none⟩ (.int .i64 (turn:Int))).drew.drew.heap.size):=Nat.lt_of_lt_of_le hRl kg.size
   have HSZ2:Hid (w.heap.size≤(w.setCell ⟨gb,mk,none⟩ (.int .i64 (turn:Int))).drew.drew.heap.size):=kg.size
   clear kg
   go_enter Tryz.func104,Tryz.ntmps104
   go_wp2
   refine wp_region_held_drew (S:=fun W=>Nw w W) (by kernel_rfl) ((Kp.refl _ _).drew) (fun hHeld => ?_)
   refine tM 0 rfl (fun W hSW=>by (try dsimp only at hSW);go_simp;rw []) hHeld ?_
   refine tM 1 rfl (fun W hSW=>by (try dsimp only at hSW);go_simp;rw []) hHeld ?_
   refine tM 2 rfl (fun W hSW=>by (try dsimp only at hSW);go_simp;rw []) hHeld ?_
   refine tM 3 rfl (fun W hSW=>by (try dsimp only at hSW);go_simp;rw []) hHeld ?_
   refine tM 4 rfl (fun W hSW=>by (try dsimp only at hSW);go_simp;rw []) hHeld ?_
   refine tM 5 rfl (fun W hSW=>by (try dsimp only at hSW);go_simp;rw []) hHeld ?_
   refine tM 6 rfl (fun W hSW=>by (try dsimp only at hSW);go_simp;rw []) hHeld ?_
   refine tM 7 rfl (fun W hSW=>by (try dsimp only at hSW);go_simp;rw []) hHeld ?_
   refine tM 8 rfl (fun W hSW=>by (try dsimp only at hSW);go_simp;rw []) hHeld ?_
   refine tM 9 rfl (fun W hSW=>by (try dsimp only at hSW);go_simp;rw []) hHeld ?_
   refine tM 10 rfl (fun W hSW=>by (try dsimp only at hSW);go_simp;rw []) hHeld ?_
   refine tM 11 rfl (fun W hSW=>by (try dsimp only at hSW);go_simp;rw []) hHeld ?_
   refine tM 12 rfl (fun W hSW=>by (try dsimp only at hSW);go_simp;rw []) hHeld ?_
   refine tM 13 rfl (fun W hSW=>by (try dsimp only at hSW);go_simp;rw []) hHeld ?_
   refine tM 14 rfl (fun W hSW=>by (try dsimp only at hSW);go_simp;rw []) hHeld ?_
   refine tM 15 rfl (fun W hSW=>by (try dsimp only at hSW);go_simp;rw []) hHeld ?_
   refine tM 16 rfl (fun W hSW=>by (try dsimp only at hSW);go_simp;rw []) hHeld ?_
   refine tM 17 rfl (fun W hSW=>by (try dsimp only at hSW);go_simp;rw []) hHeld ?_
   refine tM 18 rfl (fun W hSW=>by (try dsimp only at hSW);go_simp;rw []) hHeld ?_
   refine tM 19 rfl (fun W hSW=>by (try dsimp only at hSW);go_simp;rw []) hHeld ?_
   refine tM 20 rfl (fun W hSW=>by (try dsimp only at hSW);go_simp;rw []) hHeld ?_
   refine tM 21 rfl (fun W hSW=>by (try dsimp only at hSW);go_simp;rw []) hHeld ?_
   refine tM 22 rfl (fun W hSW=>by (try dsimp only at hSW);go_simp;rw []) hHeld ?_
   refine tM 23 rfl (fun W hSW=>by (try dsimp only at hSW);go_simp;rw []) hHeld ?_
   refine tM 24 rfl (fun W hSW=>by (try dsimp only at hSW);go_simp;rw []) hHeld ?_
   refine wpAnyH_done (by kernel_rfl) ?_ _
   clear hHeld
   go_wp2
   have s4:=s3 w.drew.drew (((Kp.refl _ _).drew).drew)
   have z4:=HCZ.out
   refine wp_region_held_drew (S:=fun W=>W.cell? ⟨R,35,none⟩=some (.slice (some ⟨gb,0,none⟩) s.vis.length s.vis.length)∧W.cell? ⟨R,34,none⟩=some (.int .i64 (turn:Int))) (by kernel_rfl) ⟨s1 _ (((Kp.refl _ _).drew).drew),s2 _ (((Kp.refl _ _).drew).drew)⟩ (fun hHeld => ?_)
   refine tM 0 rfl (fun W hSW=>by (try dsimp only at hSW);go_simp;rw []) hHeld ?_
   refine tM 1 rfl (fun W hSW=>by (try dsimp only at hSW);go_simp;rw []) hHeld ?_
   refine tM 2 rfl (fun W hSW=>by (try dsimp only at hSW);go_simp;rw []) hHeld ?_
   refine tM 3 rfl (fun W hSW=>by (try dsimp only at hSW);go_simp;rw []) hHeld ?_
   refine tM 4 rfl (fun W hSW=>by (try dsimp only at hSW);go_simp;rw []) hHeld ?_
   refine tM 5 rfl (fun W hSW=>by (try dsimp only at hSW);go_simp;rw []) hHeld ?_
   refine tM 6 rfl (fun W hSW=>by (try dsimp only at hSW);go_simp;rw []) hHeld ?_
   refine tM 7 rfl (fun W hSW=>by (try dsimp only at hSW);go_simp;rw []) hHeld ?_
   refine tM 8 rfl (fun W hSW=>by (try dsimp only at hSW);go_simp;rw []) hHeld ?_
   refine tM 9 rfl (fun W hSW=>by (try dsimp only at hSW);go_simp;rw []) hHeld ?_
   refine wpAnyH_ready (rs:=[10]) (by kernel_rfl) (by simp) ?_
   refine consL rfl (fun K hK => ?_) AllReadyH.nil
   go_simp
   refine hK.out _ _ ⟨HSE.out.1,HSE.out.2.1⟩ (fun _ => ?_)
   clear hK K
   try simp only [Act.put,sA,sZ,sS]
   refine wpAnyH_done (by kernel_rfl) ?_ _
   clear hHeld s1 s2 s3 s4 z4
   have HFN:Hid (∀W ov',Kp (fun b=>ov.ownBlock=some b) ((w.setCell ⟨gb,mk,none⟩ (.int .i64 (turn:Int))).drew.drew) W→W.ownsRow (R+1) 205 2 ov' (s.opn.length+1) (spsC s.opn++spC ((a:Int),anew))→(∀b,ov'.ownBlock=some b→ov.ownBlock=some b∨w.heap.size≤b)→RcPost w R g cap l hand fr turn gb ov wv ev s' (.returned (.tuple #[])) (W.setCell ⟨R,36,none⟩ ov')):=by
    intro W ov' kW hoW how
    have:=H.out.reachd (p:=((a:Int),anew)) (HKG.out.trans' kW (fun b _ e=>Or.inr e)) (HVI.out W kW) hoW how
    exact ⟨rfl,ov',by rw [HS.out];exact this.1,this.2⟩
   have c36:=HSE.out.2.2
   have hsz:=HSZ.out
   have hsz2:=HSZ2.out
   have HKR:Hid (∀W,Kp (fun b=>ov.ownBlock=some b) ((w.setCell ⟨gb,mk,none⟩ (.int .i64 (turn:Int))).drew.drew) W→W.cell? ⟨R,36,none⟩=some ov∧W.frozen? ⟨R,36,none⟩=false):=by
    intro W kW
    have hn:¬ov.ownBlock=some R:=by intro e;have:=(H.out.own.lt R e).1;omega
    have hn2:¬(R=gb∨ov.ownBlock=some R):=by
     rintro (e|e)
     ·exact hgb e.symm
     ·exact hn e
    exact ⟨(kW.cell (p:=⟨R,36,none⟩) HSZ.out hn).trans HSE.out.2.2,(kW.frozen (p:=⟨R,36,none⟩) HSZ.out hn).trans ((HKG.out.frozen (p:=⟨R,36,none⟩) hRl hn2).trans (H.out.z 36))⟩
   have HOG:Hid (∀b,ov.ownBlock=some b→R+1≤b):=fun b hb=>(H.out.own.lt b hb).1
   obtain ⟨op,oc,hov⟩:=ownsLenX HO1.out
   subst hov
   generalize (w.setCell ⟨gb,mk,none⟩ (.int .i64 (turn:Int))).drew.drew=W1 at *
   go_wp2_with (at_builtin;refine wpList_append_lies _ rfl _ _ 130 rfl (R+1) 205 i0 (.agg #[int i64 0,int i64 0]) 2 16 Tryz.unSps hi hz0 hz1 hz2 rfl (by decide) _ _ _ rfl (HO1.out.alloc _) ⟨W1.heap.size,0,none⟩ 1 1 (spC ((a:Int),anew)) rfl rfl ?b1 ?b2 (by decide) ?b3 ?b4 ?b5 _ rfl ?_)
   case b1=>intro j u hu;rw [Addr.add_mid];exact (Bx.new W1 (spC ((a:Int),anew)) 205).r j u hu
   case b2=>intro u hu;simp only [spC,List.mem_cons,List.not_mem_nil,or_false] at hu;rcases hu with e|e <;> rw [e] <;> rfl
   case b3=>unfold maxLen;omega
   case b4=>omega
   case b5=>simp;omega
   intro g3 cap3 w3 hown3 hgrow hat hlt
   have k3:Kp (fun b=>(slice op s.opn.length oc).ownBlock=some b) W1 w3:=((Kp.refl _ W1).alloc _).grown hgrow (fun b hb=>Or.inr hb)
   obtain ⟨d1,d2⟩:=HKR.out w3 k3
   have hR3:R<w3.heap.size:=Nat.lt_of_lt_of_le hsz k3.size
   have HEND:Hid (RcPost w R g cap l hand fr turn gb (.slice op s.opn.length oc) wv ev s' (.returned (.tuple #[])) (w3.setCell ⟨R,36,none⟩ (.slice (some ⟨g3,0,none⟩) (s.opn.length+1) cap3))):=HFN.out w3 _ k3 hown3 (by
    intro b hb
    simp only [Value.ownBlock,Option.some.injEq] at hb
    subst hb
    rcases hat with e|e
    ·exact Or.inl e
    ·right;have e3:g3=W1.heap.size+1:=(by rw [e]);omega)
   clear hown3 hgrow hat k3 HFN HKR c36
   go_wp2
   go_end0
   exact HEND.out
 ·have HS:Hid (s'=s):=by show _=_;rw [HRS.out,List.getElem?_eq_none (by omega),if_neg (by simp)]
  have hin':decide (s.vis.length≤mk)=true:=by simp;omega
  go_enter Tryz.func104,Tryz.ntmps104
  go_wp2
  refine wp_region_held_drew (S:=fun W=>Nw w W) (by kernel_rfl) ((Kp.refl _ _).drew) (fun hHeld => ?_)
  refine tM 0 rfl (fun W hSW=>by (try dsimp only at hSW);go_simp;rw []) hHeld ?_
  refine tM 1 rfl (fun W hSW=>by (try dsimp only at hSW);go_simp;rw []) hHeld ?_
  refine tM 2 rfl (fun W hSW=>by (try dsimp only at hSW);go_simp;rw []) hHeld ?_
  refine tM 3 rfl (fun W hSW=>by (try dsimp only at hSW);go_simp;rw []) hHeld ?_
  refine tM 4 rfl (fun W hSW=>by (try dsimp only at hSW);go_simp;rw []) hHeld ?_
  refine tM 5 rfl (fun W hSW=>by (try dsimp only at hSW);go_simp;rw []) hHeld ?_
  refine tM 6 rfl (fun W hSW=>by (try dsimp only at hSW);go_simp;rw []) hHeld ?_
  refine tM 7 rfl (fun W hSW=>by (try dsimp only at hSW);go_simp;rw []) hHeld ?_
  refine tM 8 rfl (fun W hSW=>by (try dsimp only at hSW);go_simp;rw []) hHeld ?_
  refine tM 9 rfl (fun W hSW=>by (try dsimp only at hSW);go_simp;rw []) hHeld ?_
  refine tM 10 rfl (fun W hSW=>by (try dsimp only at hSW);go_simp;rw []) hHeld ?_
  refine tM 11 rfl (fun W hSW=>by (try dsimp only at hSW);go_simp;rw []) hHeld ?_
  refine tN (i:=12) (v:=undef) rfl (Or.inr ⟨by rfl,rfl⟩) hHeld ?_
  refine tN (i:=13) (v:=undef) rfl (Or.inr ⟨by rfl,rfl⟩) hHeld ?_
  refine tN (i:=14) (v:=undef) rfl (Or.inr ⟨by rfl,rfl⟩) hHeld ?_
  refine tN (i:=15) (v:=undef) rfl (Or.inr ⟨by rfl,rfl⟩) hHeld ?_
  refine tN (i:=16) (v:=undef) rfl (Or.inr ⟨by rfl,rfl⟩) hHeld ?_
  refine tN (i:=17) (v:=undef) rfl (Or.inr ⟨by rfl,rfl⟩) hHeld ?_
  refine tN (i:=18) (v:=undef) rfl (Or.inr ⟨by rfl,rfl⟩) hHeld ?_
  refine tN (i:=19) (v:=undef) rfl (Or.inr ⟨by rfl,rfl⟩) hHeld ?_
  refine tN (i:=20) (v:=undef) rfl (Or.inr ⟨by rfl,rfl⟩) hHeld ?_
  refine tN (i:=21) (v:=undef) rfl (Or.inr ⟨by rfl,rfl⟩) hHeld ?_
  refine tN (i:=22) (v:=undef) rfl (Or.inr ⟨by rfl,rfl⟩) hHeld ?_
  refine tN (i:=23) (v:=undef) rfl (Or.inr ⟨by rfl,rfl⟩) hHeld ?_
  refine tM 24 rfl (fun W hSW=>by (try dsimp only at hSW);go_simp;rw []) hHeld ?_
  refine wpAnyH_done (by kernel_rfl) ?_ _
  have HK:Hid (Nw w w.drew):=(Kp.refl _ _).drew
  clear s1 s2 hHeld
  go_wp2
  go_end0
  exact ⟨rfl,ov,by rw [HS.out];exact H.out.nw HK.out,KF.of_nw HK.out⟩
theorem range_cells {w w':World} {R o:Nat} {cs:List Value} (h:w.rangeAt R o cs) (hc:∀p,o≤p→p<o+cs.length→w'.cell? ⟨R,p,none⟩=w.cell? ⟨R,p,none⟩):w'.rangeAt R o cs:=by
 intro j v hv
 have hj:=(List.getElem?_eq_some_iff.1 hv).1
 rw [hc (o+j) (by omega) (by omega)]
 exact h j v hv
theorem StM.waited {w w':World} {R g cap:Nat} {l:List In} {hand:Nmb} {fr:Thr} {turn gb:Nat} {ov wv ev wv':Value} {s:Tn} {c:Crw} (h:StM w R g cap l hand fr turn gb ov wv ev s) (hc:CrM w' R 37 (R+1) wv' c) (f:CrFr R 37 wv wv' w w') :
  StM w' R g cap l hand fr turn gb ov wv' ev { s with wait:=c }:=by
 have hl:=h.lt
 have hg:=h.hg
 have hgb:=h.hgb
 have nw:∀b,wv.ownBlock=some b→R+1≤b:=fun b hb=>(h.wait.own.lt b hb).1
 refine ⟨(f.c 0 (by omega) (by omega)).trans h.cod,range_cells h.hnd (fun p _ hp=>f.c p (by simp [nmC] at hp;omega) (by simp [nmC] at hp;omega)),range_cells h.frm (fun p _ hp=>f.c p (by rw [thC_len] at hp;omega) (by rw [thC_len] at hp;omega)),(f.c 34 (by omega) (by omega)).trans h.tun,(f.c 35 (by omega) (by omega)).trans h.rch,(f.c 36 (by omega) (by omega)).trans h.opn,hc,⟨(f.c 40 (by omega) (by omega)).trans h.ended.c0,(f.c 41 (by omega) (by omega)).trans h.ended.c1,(f.c 42 (by omega) (by omega)).trans h.ended.c2,hc.z,owns_kp h.ended.own f.kp ?_,h.ended.lt⟩,hc.z,h.row.kp f.kp ?_,h.vis.kp f.kp ?_,owns_kp h.own f.kp ?_,?_,h.hg,h.hgb,h.ne,h.vl⟩
 ·rintro b hb (e|e)
  ·have:=(h.ended.own.lt b hb).1;omega
  ·exact h.ap b e hb
 ·rintro (e|e)
  ·omega
  ·have:=nw g e;omega
 ·rintro (e|e)
  ·exact hgb e
  ·first|exact h.gbn.2.1 e|exact h.gbn.2.2 e
 ·rintro b hb (e|e)
  ·have:=(h.own.lt b hb).1;omega
  ·exact owns_ne h.own h.wait.own (by decide) b hb e
 ·intro b hb e
  rcases f.ow b hb with e2|e2
  ·exact h.ap b e2 e
  ·have:=(h.ended.own.lt b e).2;omega
theorem StM.endedd {w w':World} {R g cap:Nat} {l:List In} {hand:Nmb} {fr:Thr} {turn gb:Nat} {ov wv ev ev':Value} {s:Tn} {c:Crw} (h:StM w R g cap l hand fr turn gb ov wv ev s) (hc:CrM w' R 40 (R+1) ev' c) (f:CrFr R 40 ev ev' w w') :
  StM w' R g cap l hand fr turn gb ov wv ev' { s with ended:=c }:=by
 have hl:=h.lt
 have hg:=h.hg
 have hgb:=h.hgb
 have nw:∀b,ev.ownBlock=some b→R+1≤b:=fun b hb=>(h.ended.own.lt b hb).1
 refine ⟨(f.c 0 (by omega) (by omega)).trans h.cod,range_cells h.hnd (fun p _ hp=>f.c p (by simp [nmC] at hp;omega) (by simp [nmC] at hp;omega)),range_cells h.frm (fun p _ hp=>f.c p (by rw [thC_len] at hp;omega) (by rw [thC_len] at hp;omega)),(f.c 34 (by omega) (by omega)).trans h.tun,(f.c 35 (by omega) (by omega)).trans h.rch,(f.c 36 (by omega) (by omega)).trans h.opn,⟨(f.c 37 (by omega) (by omega)).trans h.wait.c0,(f.c 38 (by omega) (by omega)).trans h.wait.c1,(f.c 39 (by omega) (by omega)).trans h.wait.c2,hc.z,owns_kp h.wait.own f.kp ?_,h.wait.lt⟩,hc,hc.z,h.row.kp f.kp ?_,h.vis.kp f.kp ?_,owns_kp h.own f.kp ?_,?_,h.hg,h.hgb,h.ne,h.vl⟩
 ·rintro b hb (e|e)
  ·have:=(h.wait.own.lt b hb).1;omega
  ·exact h.ap b hb e
 ·rintro (e|e)
  ·omega
  ·have:=nw g e;omega
 ·rintro (e|e)
  ·exact hgb e
  ·first|exact h.gbn.2.1 e|exact h.gbn.2.2 e
 ·rintro b hb (e|e)
  ·have:=(h.own.lt b hb).1;omega
  ·exact owns_ne h.own h.ended.own (by decide) b hb e
 ·intro b hb e
  rcases f.ow b e with e2|e2
  ·exact h.ap b hb e2
  ·have:=(h.wait.own.lt b hb).2;omega
abbrev KR (R gb:Nat) (w w':World):Prop:=Kp (fun b=>R≤b∨b=gb) w w'
theorem KR.of_kf {R gb:Nat} {ov ov':Value} {w w':World} (k:KF R gb ov ov' w w') (hb:∀b,ov.ownBlock=some b→R≤b):KR R gb w w':=by
 refine k.kp.mono ?_
 rintro b _ (e|e|e)
 ·left;show R≤b;omega
 ·exact Or.inr e
 ·exact Or.inl (hb b e)
theorem KR.of_cr {R gb o:Nat} {v v':Value} {w w':World} (k:CrFr R o v v' w w') (hb:∀b,v.ownBlock=some b→R≤b):KR R gb w w':=by
 refine k.kp.mono ?_
 rintro b _ (e|e)
 ·left;show R≤b;omega
 ·exact Or.inl (hb b e)
theorem KR.of_nw {R gb:Nat} {w w':World} (k:Nw w w'):KR R gb w w':=k.mono (fun _ _ h=>h.elim)
def LvPost (w:World) (R g cap:Nat) (l:List In) (hand:Nmb) (fr:Thr) (turn gb:Nat) (s:Tn) (e:Ending) (w':World):Prop :=
 e=.returned (.tuple #[])∧∃ov wv ev,StM w' R g cap l hand fr turn gb ov wv ev s∧KR R gb w w'
end Go.Proofs.YtcboiapggnmpfaaGreatDoor
