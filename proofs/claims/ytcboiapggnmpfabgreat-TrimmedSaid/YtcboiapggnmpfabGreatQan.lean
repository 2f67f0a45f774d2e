import Derived.Test.YtcboiapggnmpfabGreatQam
import Derived.Deep.MidRow
import Derived.Deep.RegionHeld3
import Derived.Deep.LoopGhost
import Derived.Test.YtcboiapggnmpfabGreatQae
namespace Go.Proofs.YtcboiapggnmpfabGreat
set_option maxRecDepth 100000
set_option maxHeartbeats 4000000
set_option linter.unusedSimpArgs false
set_option linter.unusedVariables false
open Go.RowKit
def nmC (x:Nmb):List Value:=[.int .i64 x.n,.int .i64 x.e.at',.int .i64 x.e.kind,.int .i64 x.e.x,.int .i64 x.e.y,.int .i64 x.e.z]
def nmV (x:Nmb):Value:=.agg #[.int .i64 x.n,.int .i64 x.e.at',.int .i64 x.e.kind,.int .i64 x.e.x,.int .i64 x.e.y,.int .i64 x.e.z]
def thC (t:Thr):List Value:=[.int .i64 t.at',.int .i64 t.first,.int .i64 t.began,
 .int .i64 t.h0.n,.int .i64 t.h0.e.at',.int .i64 t.h0.e.kind,.int .i64 t.h0.e.x,.int .i64 t.h0.e.y,.int .i64 t.h0.e.z,
 .int .i64 t.h1.n,.int .i64 t.h1.e.at',.int .i64 t.h1.e.kind,.int .i64 t.h1.e.x,.int .i64 t.h1.e.y,.int .i64 t.h1.e.z,
 .int .i64 t.h2.n,.int .i64 t.h2.e.at',.int .i64 t.h2.e.kind,.int .i64 t.h2.e.x,.int .i64 t.h2.e.y,.int .i64 t.h2.e.z,
 .int .i64 t.h3.n,.int .i64 t.h3.e.at',.int .i64 t.h3.e.kind,.int .i64 t.h3.e.x,.int .i64 t.h3.e.y,.int .i64 t.h3.e.z]
def thV (t:Thr):Value:=.agg #[.int .i64 t.at',.int .i64 t.first,.int .i64 t.began,
 .int .i64 t.h0.n,.int .i64 t.h0.e.at',.int .i64 t.h0.e.kind,.int .i64 t.h0.e.x,.int .i64 t.h0.e.y,.int .i64 t.h0.e.z,
 .int .i64 t.h1.n,.int .i64 t.h1.e.at',.int .i64 t.h1.e.kind,.int .i64 t.h1.e.x,.int .i64 t.h1.e.y,.int .i64 t.h1.e.z,
 .int .i64 t.h2.n,.int .i64 t.h2.e.at',.int .i64 t.h2.e.kind,.int .i64 t.h2.e.x,.int .i64 t.h2.e.y,.int .i64 t.h2.e.z,
 .int .i64 t.h3.n,.int .i64 t.h3.e.at',.int .i64 t.h3.e.kind,.int .i64 t.h3.e.x,.int .i64 t.h3.e.y,.int .i64 t.h3.e.z]
theorem thC_len (t:Thr):(thC t).length=27:=by simp [thC]
theorem thC_hd (t:Thr) (i:Nat) (hi:i<4):(thC t)[3+i*6]? = some (.int .i64 (t.hd i).n):=by
 match i,hi with
 | 0,_=>rfl
 | 1,_=>rfl
 | 2,_=>rfl
 | 3,_=>rfl
theorem isAhead_any (t o:Thr) (w:World) :
  Calls Tryz.prog 131 #[thV t,thV o] w fun e w'=>e=.returned (.bool (aheadB t o))∧Nw w w':=by
 have HC:Hid (∀i,i<4→((w.alloc (.cells (thC t).toArray 98)).alloc (.cells (thC o).toArray 98)).cell? ⟨w.heap.size,3+i*6,none⟩=some (.int .i64 (t.hd i).n)∧((w.alloc (.cells (thC t).toArray 98)).alloc (.cells (thC o).toArray 98)).cell? ⟨w.heap.size+1,3+i*6,none⟩=some (.int .i64 (o.hd i).n)):=by
  intro i hi
  refine ⟨?_,?_⟩
  ·simp [go_sem,World.cell?_alloc_at,thC_hd t i hi]
  ·rw [World.cell?_alloc_at (w:=w.alloc _) _ _ _ _ (by simp)];simp [thC_hd o i hi]
 have HA:Hid (∀i,i<4→aheadF t o (4 - i) i=if (t.hd i).n=(o.hd i).n then aheadF t o (4 - (i+1)) (i+1) else decide ((t.hd i).n<(o.hd i).n)):=by
  intro i hi
  obtain ⟨m,hm⟩:∃m,4 - i=m+1:=⟨3 - i,by omega⟩
  rw [show 4 - (i+1)=m by omega,hm];rfl
 have HB:Hid (aheadB t o=if t.first=o.first then aheadF t o 4 0 else decide (t.first<o.first)):=rfl
 have HE:Hid (aheadF t o 0 4=decide (t.at'<o.at')):=rfl
 unfold thV
 simp only [thC] at HC
 by_cases hf:t.first=o.first
 ·rw [if_pos hf] at HB
  have hf':(t.first != o.first)=false:=by simp [hf]
  clear hf
  go_enter Tryz.func131,Tryz.ntmps131
  go_wp2
  go_loopg [5] 4 (fun m v5 wr=>∃i:Nat,v5=.int .i64 i∧m=4 - i∧i≤4∧aheadF t o (4 - i) i=aheadB t o∧(∀j,j<4→wr.cell? ⟨w.heap.size,3+j*6,none⟩=some (.int .i64 (t.hd j).n)∧wr.cell? ⟨w.heap.size+1,3+j*6,none⟩=some (.int .i64 (o.hd j).n))∧wr.cell? ⟨w.heap.size,0,none⟩=some (.int .i64 t.at')∧wr.cell? ⟨w.heap.size+1,0,none⟩=some (.int .i64 o.at')∧Nw w wr)
  case atStart=>exact ⟨0,rfl,rfl,by omega,HB.out.symm,HC.out,by simp [go_sem,World.cell?_alloc_at],by simp [go_sem,World.cell?_alloc_at],((Kp.refl _ w).alloc _).alloc _⟩
  case round =>
   obtain ⟨i,rfl,hm,hi,hah,hcc,ca,co,hk⟩:=hrel
   have HM:Hid (_=4 - i):=hm
   have HAH:Hid (aheadF t o (4 - i) i=aheadB t o):=hah
   have HCC:Hid (∀j,j<4→wr.cell? ⟨w.heap.size,3+j*6,none⟩=some (.int .i64 (t.hd j).n)∧wr.cell? ⟨w.heap.size+1,3+j*6,none⟩=some (.int .i64 (o.hd j).n)):=hcc
   have HCA:Hid (wr.cell? ⟨w.heap.size,0,none⟩=some (.int .i64 t.at')):=ca
   have HCO:Hid (wr.cell? ⟨w.heap.size+1,0,none⟩=some (.int .i64 o.at')):=co
   have HK:Hid (Nw w wr):=hk
   clear hm hah hcc hk HC HB
   by_cases hil:i<4
   ·clear ca co
    obtain ⟨d0,d1⟩:=HCC.out i hil
    have HAI:=HA.out i hil
    have HAI':Hid ((if (t.hd i).n=(o.hd i).n then aheadF t o (4 - (i+1)) (i+1) else decide ((t.hd i).n<(o.hd i).n))=aheadB t o):=by show _=_;rw [←HAI];exact HAH.out
    clear HAI HAH HA HE
    generalize (t.hd i).n=p at *
    generalize (o.hd i).n=q at *
    by_cases hpq:p=q
    ·rw [if_pos hpq] at HAI'
     have hpq':(p != q)=false:=by simp [hpq]
     clear hpq
     go_wp2
     go_quiet (fail)
     go_wp2
     go_roundg (4 - (i+1))
     case measure=>rw [HM.out];omega
     case rel=>exact ⟨i+1,by simp,rfl,by omega,HAI'.out,HCC.out,HCA.out,HCO.out,HK.out.trans ((Kp.refl _ _).drewN _)⟩
    ·rw [if_neg hpq] at HAI'
     have hpq':(p != q)=true:=by simp [hpq]
     clear hpq
     go_wp2
     go_quiet (fail)
     go_wp2
     go_quiet (fail)
     go_wp2
     go_ret
     exact ⟨by rw [←HAI'.out];rfl,HK.out.trans (((Kp.refl _ _).drewN _).drewN _)⟩
   ·have hie:i=4:=by omega
    subst hie
    have HF:Hid (decide (t.at'<o.at')=aheadB t o):=by show _=_;rw [←HE.out];exact HAH.out
    go_wp2
    go_ret
    exact ⟨by rw [←HF.out];rfl,HK.out⟩
 ·rw [if_neg hf] at HB
  have hf':(t.first != o.first)=true:=by simp [hf]
  clear hf
  go_enter Tryz.func131,Tryz.ntmps131
  go_wp2
  go_ret
  exact ⟨by rw [HB.out];rfl,((Kp.refl _ w).alloc _).alloc _⟩
structure Bx (w:World) (B:Nat) (cs:List Value):Prop where
 r:w.rangeAt B 0 cs
 z:∀o,w.frozen? ⟨B,o,none⟩=false
theorem Bx.cell {w:World} {B:Nat} {cs:List Value} (h:Bx w B cs) {k:Nat} {v:Value} (hv:cs[k]? = some v):w.cell? ⟨B,k,none⟩=some v:=by
 have:=h.r k v hv
 rwa [Nat.zero_add] at this
theorem Bx.lt {w:World} {B:Nat} {cs:List Value} (h:Bx w B cs) (hc:0<cs.length):B<w.heap.size :=
 World.block_lt_of_cell? w ⟨B,0,none⟩ (h.cell (k:=0) (v:=cs[0]) (by simp [hc]))
theorem Bx.there {w:World} {B:Nat} {cs:List Value} (h:Bx w B cs) {n:Nat} (hn:cs.length=n):w.there B 0 n:=by
 intro j hj
 rw [Nat.zero_add]
 refine ⟨?_,h.z j⟩
 rw [h.cell (k:=j) (v:=cs[j]'(by omega)) (by simp [hn,hj])]
 rfl
theorem Bx.new (w:World) (cs:List Value) (t:TypeId):Bx (w.alloc (.cells cs.toArray t)) w.heap.size cs:=by
 refine ⟨?_,?_⟩
 ·intro j v hv
  rw [Nat.zero_add,World.cell?_alloc_at (w:=w) cs.toArray t _ j rfl]
  simpa using hv
 ·intro o;simp [World.frozen?_alloc_at]
theorem Bx.kp {S:Nat→Prop} {w w':World} {B:Nat} {cs:List Value} (h:Bx w B cs) (hc:0<cs.length) (k:Kp S w w') (hs:¬S B):Bx w' B cs:=by
 refine ⟨fun j v hv => ?_,fun o => ?_⟩
 ·rw [k.cell (p:=⟨B,0+j,none⟩) (h.lt hc) hs];exact h.r j v hv
 ·rw [k.frozen (p:=⟨B,o,none⟩) (h.lt hc) hs];exact h.z o
theorem Bx.set {w:World} {B:Nat} {cs:List Value} (h:Bx w B cs) (k:Nat) (v:Value):Bx (w.setCell ⟨B,k,none⟩ v) B (cs.set k v):=by
 refine ⟨fun j u hu => ?_,fun o=>by rw [←h.z o];simp [go_sem]⟩
 rw [Nat.zero_add]
 by_cases hj:j=k
 ·subst hj
  by_cases hl:j<cs.length
  ·have e:u=v:=by
    rw [List.getElem?_set_self hl] at hu
    simpa using hu.symm
   subst e
   have hc:=h.cell (k:=j) (v:=cs[j]) (by simp [hl])
   simp [go_sem,hc,h.z]
  ·rw [List.set_eq_of_length_le (by omega),List.getElem?_eq_none (by omega)] at hu
   simp at hu
 ·rw [List.getElem?_set_ne (by omega)] at hu
  have hc:=h.cell hu
  have hj':¬k=j:=fun e=>hj e.symm
  simp [go_sem,hc,hj,hj']
theorem Bx.put {w:World} {B:Nat} {cs:List Value} (h:Bx w B cs) {vs:List Value} (hl:cs.length=vs.length):Bx (w.setCells B 0 vs) B vs :=
 ⟨World.rangeAt_setCells_same w B 0 vs (h.there hl),fun o=>by rw [World.frozen?_setCells];exact h.z o⟩
theorem Bx.puts {B:Nat}:∀(vs:List Value) (o:Nat) (w:World) (p m q:List Value),Bx w B (p++m++q)→p.length=o→m.length=vs.length→Bx (w.setCells B o vs) B (p++vs++q):=by
 intro vs
 induction vs with
 | nil=>intro o w p m q h hp hm;have:m=[]:=List.length_eq_zero_iff.1 hm;subst this;exact h
 | cons v r ih =>
  intro o w p m q h hp hm
  cases m with
  | nil=>simp at hm
  | cons y m =>
   have h1:=h.set o v
   have e1:(p++(y::m)++q).set o v=(p++[v])++m++q:=by
    subst hp;simp
   rw [e1] at h1
   have:=ih (o+1) (w.setCell ⟨B,o,none⟩ v) (p++[v]) m q h1 (by simp [hp]) (by simpa using hm)
   have e2:p++[v]++r++q=p++(v::r)++q:=by simp
   rw [e2] at this
   exact this
def thsC (l:List Thr):List Value:=(l.map thC).flatten
theorem thsC_length (l:List Thr):(thsC l).length=l.length*27:=by
 induction l with
 | nil=>rfl
 | cons y r ih =>
  have e:thsC (y::r)=thC y++thsC r:=by simp [thsC]
  rw [e,List.length_append,ih,thC_len,List.length_cons];omega
theorem thsC_app (a b:List Thr):thsC (a++b)=thsC a++thsC b:=by simp [thsC]
theorem thsC_cons (x:Thr) (b:List Thr):thsC (x::b)=thC x++thsC b:=by simp [thsC]
theorem thsC_get (l:List Thr) (i k:Nat) (x:Thr) (h:l[i]? = some x) (hk:k<27):(thsC l)[i*27+k]? = (thC x)[k]?:=by
 obtain ⟨hi,hx⟩:=List.getElem?_eq_some_iff.1 h
 have e:l=l.take i++x::l.drop (i+1):=by rw [←hx];simp
 have hl:(thsC (l.take i)).length=i*27:=by rw [thsC_length,List.length_take,Nat.min_eq_left (by omega)]
 rw [e,thsC_app,thsC_cons,List.getElem?_append_right (by omega),hl,Nat.add_sub_cancel_left,List.getElem?_append_left (by rw [thC_len];exact hk)]
theorem thC_one (t:Thr):∀v∈thC t,v.oneCell'=true:=by
 intro v hv
 simp only [thC,List.mem_cons,List.not_mem_nil,or_false] at hv
 rcases hv with h|h|h|h|h|h|h|h|h|h|h|h|h|h|h|h|h|h|h|h|h|h|h|h|h|h|h <;> subst h <;> rfl
theorem owns_setCells {base g n cap size:Nat} {e:TypeId}:∀(vs:List Value) (o:Nat) (w:World) (p q:List Value) (m:List Value),w.ownsRow base e size (.slice (some ⟨g,0,none⟩) n cap) n (p++m++q)→p.length=o→m.length=vs.length→(w.setCells g o vs).ownsRow base e size (.slice (some ⟨g,0,none⟩) n cap) n (p++vs++q):=by
 intro vs
 induction vs with
 | nil=>intro o w p q m h hp hm;have:m=[]:=List.length_eq_zero_iff.1 hm;subst this;exact h
 | cons v r ih =>
  intro o w p q m h hp hm
  cases m with
  | nil=>simp at hm
  | cons y m =>
   have h1:=(h.stored o v).1
   have e1:(p++(y::m)++q).set o v=(p++[v])++m++q:=by
    subst hp;simp
   rw [e1] at h1
   have:=ih (o+1) (w.setCell ⟨g,o,none⟩ v) (p++[v]) q m h1 (by simp [hp]) (by simpa using hm)
   have e2:p++[v]++r++q=p++(v::r)++q:=by simp
   rw [e2] at this
   exact this
theorem kp_setCells {g:Nat}:∀(vs:List Value) (o:Nat) (w:World),Kp (fun b=>b=g) w (w.setCells g o vs):=by
 intro vs
 induction vs with
 | nil=>intro o w;exact Kp.refl _ _
 | cons v r ih=>intro o w;exact ((Kp.refl (fun b=>b=g) w).setCell (p:=⟨g,o,none⟩) (Or.inr rfl) v).trans (ih (o+1) _)
theorem owns_setT {w:World} {base g n cap:Nat} {e:TypeId} {a b:List Thr} {y:Thr} (h:w.ownsRow base e 27 (.slice (some ⟨g,0,none⟩) n cap) n (thsC (a++y::b))) (u:Thr):(w.setCells g (a.length*27) (thC u)).ownsRow base e 27 (.slice (some ⟨g,0,none⟩) n cap) n (thsC (a++u::b)):=by
 rw [thsC_app,thsC_cons,←List.append_assoc] at h ⊢
 exact owns_setCells (thC u) (a.length*27) w (thsC a) (thsC b) (thC y) h (thsC_length a) (by rw [thC_len,thC_len])
theorem owns_rangeT {w:World} {base g n c i:Nat} {e:TypeId} {l:List Thr} {x:Thr} (h:w.ownsRow base e 27 (.slice (some ⟨g,0,none⟩) n c) n (thsC l)) (hx:l[i]? = some x):w.rangeAt g (i*27) (thC x):=by
 intro k v hv
 have hk:k<27:=by have:=(List.getElem?_eq_some_iff.1 hv).1;simpa [thC_len] using this
 exact owns_cell h (i*27+k) (by rw [thsC_get l i k x hx hk];exact hv)
theorem Tryz.rowTh:(Tryz.prog.underlying 98).map TypeDesc.isRow=some true:=by kernel_rfl
theorem Tryz.sizeTh:(Tryz.prog.info? 98).map (·.size)=some 27:=by kernel_rfl
theorem size_th (t:Thr):(Tryz.prog.info? 98).map (·.size)=some (thC t).length:=by rw [thC_len];exact Tryz.sizeTh
open Value (int)
open IntKind (i64)
theorem size_thA (t:Thr):(Tryz.prog.info? 98).map (·.size)=some (thC t).toArray.size:=by rw [List.size_toArray,thC_len];exact Tryz.sizeTh
theorem load_th {w:World} {B:Nat} {t:Thr} (h:w.rangeAt B 0 (thC t)):(loadVar 98 ⟨B,0,none⟩).run Tryz.prog w=.ok (.agg (thC t).toArray) w:=by
 obtain ⟨dd,hu,hd⟩:=Option.map_eq_some_iff.1 Tryz.rowTh
 exact run_loadVar_mid w B 0 98 (thC t) dd h hu hd (size_th t)
def nz:Nmb:=⟨0,ev0⟩
def th0:Thr:=⟨0,0,0,nz,nz,nz,nz⟩
theorem zerosTh:(thC th0).toArray=#[int i64 0,int i64 0,int i64 0,int i64 0,int i64 0,int i64 0,int i64 0,int i64 0,int i64 0,int i64 0,int i64 0,int i64 0,int i64 0,int i64 0,int i64 0,int i64 0,int i64 0,int i64 0,int i64 0,int i64 0,int i64 0,int i64 0,int i64 0,int i64 0,int i64 0,int i64 0,int i64 0]:=rfl
def ntF (a n b:Int) (i:Nat):Thr:=⟨a,n,b,if 0<i then nmb0 else nz,if 1<i then nmb0 else nz,if 2<i then nmb0 else nz,if 3<i then nmb0 else nz⟩
theorem ntF_next (a n b:Int) (i:Nat) (hi:i<4):(thC (ntF a n b i)).set (3+i*6) (.int .i64 (-1))=thC (ntF a n b (i+1)):=by
 match i,hi with
 | 0,_=>rfl
 | 1,_=>rfl
 | 2,_=>rfl
 | 3,_=>rfl
theorem newThread_any (a:Int) (e:Nmb) (w:World) :
  Calls Tryz.prog 66 #[.int .i64 a,nmV e] w fun r w'=>r=.returned (.agg (thC (newT a e)).toArray)∧Nw w w':=by
 obtain ⟨n,⟨ea,ek,ex,ey,ez⟩⟩:=e
 unfold nmV
 simp only
 obtain ⟨dd,hu,hd⟩:=Option.map_eq_some_iff.1 Tryz.rowTh
 have HU:Hid (Tryz.prog.underlying 98=some dd):=hu
 have HD:Hid (dd.isRow=true):=hd
 have HT0:Hid ((((w.alloc (.cells #[.int .i64 n,.int .i64 ea,.int .i64 ek,.int .i64 ex,.int .i64 ey,.int .i64 ez] 95)).alloc (.cells #[int i64 0,int i64 0,int i64 0,int i64 0,int i64 0,int i64 0,int i64 0,int i64 0,int i64 0,int i64 0,int i64 0,int i64 0,int i64 0,int i64 0,int i64 0,int i64 0,int i64 0,int i64 0,int i64 0,int i64 0,int i64 0,int i64 0,int i64 0,int i64 0,int i64 0,int i64 0,int i64 0] 98)).alloc (.cells #[int i64 0,int i64 0,int i64 0,int i64 0,int i64 0,int i64 0,int i64 0,int i64 0,int i64 0,int i64 0,int i64 0,int i64 0,int i64 0,int i64 0,int i64 0,int i64 0,int i64 0,int i64 0,int i64 0,int i64 0,int i64 0,int i64 0,int i64 0,int i64 0,int i64 0,int i64 0,int i64 0] 98)).there (w.heap.size+1+1) 0 (thC (ntF a n ea 0)).toArray.size):=by
  have:=(Bx.new ((w.alloc (.cells #[.int .i64 n,.int .i64 ea,.int .i64 ek,.int .i64 ex,.int .i64 ey,.int .i64 ez] 95)).alloc (.cells #[int i64 0,int i64 0,int i64 0,int i64 0,int i64 0,int i64 0,int i64 0,int i64 0,int i64 0,int i64 0,int i64 0,int i64 0,int i64 0,int i64 0,int i64 0,int i64 0,int i64 0,int i64 0,int i64 0,int i64 0,int i64 0,int i64 0,int i64 0,int i64 0,int i64 0,int i64 0,int i64 0] 98)) (thC th0) 98).there (n:=(thC (ntF a n ea 0)).length) (by rw [thC_len,thC_len])
  rw [zerosTh] at this
  show World.there _ _ _ _
  simpa using this
 have HB5:Hid (Bx ((((w.alloc (.cells #[.int .i64 n,.int .i64 ea,.int .i64 ek,.int .i64 ex,.int .i64 ey,.int .i64 ez] 95)).alloc (.cells #[int i64 0,int i64 0,int i64 0,int i64 0,int i64 0,int i64 0,int i64 0,int i64 0,int i64 0,int i64 0,int i64 0,int i64 0,int i64 0,int i64 0,int i64 0,int i64 0,int i64 0,int i64 0,int i64 0,int i64 0,int i64 0,int i64 0,int i64 0,int i64 0,int i64 0,int i64 0,int i64 0] 98)).alloc (.cells #[int i64 0,int i64 0,int i64 0,int i64 0,int i64 0,int i64 0,int i64 0,int i64 0,int i64 0,int i64 0,int i64 0,int i64 0,int i64 0,int i64 0,int i64 0,int i64 0,int i64 0,int i64 0,int i64 0,int i64 0,int i64 0,int i64 0,int i64 0,int i64 0,int i64 0,int i64 0,int i64 0] 98)).setCells (w.heap.size+1+1) 0 (thC (ntF a n ea 0))) (w.heap.size+1+1) (thC (ntF a n ea 0))):=by
  have:=(Bx.new ((w.alloc (.cells #[.int .i64 n,.int .i64 ea,.int .i64 ek,.int .i64 ex,.int .i64 ey,.int .i64 ez] 95)).alloc (.cells #[int i64 0,int i64 0,int i64 0,int i64 0,int i64 0,int i64 0,int i64 0,int i64 0,int i64 0,int i64 0,int i64 0,int i64 0,int i64 0,int i64 0,int i64 0,int i64 0,int i64 0,int i64 0,int i64 0,int i64 0,int i64 0,int i64 0,int i64 0,int i64 0,int i64 0,int i64 0,int i64 0] 98)) (thC th0) 98).put (vs:=thC (ntF a n ea 0)) (by rw [thC_len,thC_len])
  rw [zerosTh] at this
  show Bx _ _ _
  simpa using this
 have HB4:Hid (Bx ((((w.alloc (.cells #[.int .i64 n,.int .i64 ea,.int .i64 ek,.int .i64 ex,.int .i64 ey,.int .i64 ez] 95)).alloc (.cells #[int i64 0,int i64 0,int i64 0,int i64 0,int i64 0,int i64 0,int i64 0,int i64 0,int i64 0,int i64 0,int i64 0,int i64 0,int i64 0,int i64 0,int i64 0,int i64 0,int i64 0,int i64 0,int i64 0,int i64 0,int i64 0,int i64 0,int i64 0,int i64 0,int i64 0,int i64 0,int i64 0] 98)).alloc (.cells #[int i64 0,int i64 0,int i64 0,int i64 0,int i64 0,int i64 0,int i64 0,int i64 0,int i64 0,int i64 0,int i64 0,int i64 0,int i64 0,int i64 0,int i64 0,int i64 0,int i64 0,int i64 0,int i64 0,int i64 0,int i64 0,int i64 0,int i64 0,int i64 0,int i64 0,int i64 0,int i64 0] 98)).setCells (w.heap.size+1+1) 0 (thC (ntF a n ea 0))) (w.heap.size+1) (thC th0)):=by
  have:=Bx.new (w.alloc (.cells #[.int .i64 n,.int .i64 ea,.int .i64 ek,.int .i64 ex,.int .i64 ey,.int .i64 ez] 95)) (thC th0) 98
  rw [zerosTh] at this
  have h2:=(this.kp (by simp [thC_len]) ((Kp.refl (fun _=>False) _).alloc (.cells #[int i64 0,int i64 0,int i64 0,int i64 0,int i64 0,int i64 0,int i64 0,int i64 0,int i64 0,int i64 0,int i64 0,int i64 0,int i64 0,int i64 0,int i64 0,int i64 0,int i64 0,int i64 0,int i64 0,int i64 0,int i64 0,int i64 0,int i64 0,int i64 0,int i64 0,int i64 0,int i64 0] 98)) (fun h=>h))
  have h3:=h2.kp (by simp [thC_len]) (kp_setCells (g:=w.heap.size+1+1) (thC (ntF a n ea 0)) 0 _) (by simp)
  show Bx _ _ _
  simpa using h3
 have HK0:Hid (Nw w ((((w.alloc (.cells #[.int .i64 n,.int .i64 ea,.int .i64 ek,.int .i64 ex,.int .i64 ey,.int .i64 ez] 95)).alloc (.cells #[int i64 0,int i64 0,int i64 0,int i64 0,int i64 0,int i64 0,int i64 0,int i64 0,int i64 0,int i64 0,int i64 0,int i64 0,int i64 0,int i64 0,int i64 0,int i64 0,int i64 0,int i64 0,int i64 0,int i64 0,int i64 0,int i64 0,int i64 0,int i64 0,int i64 0,int i64 0,int i64 0] 98)).alloc (.cells #[int i64 0,int i64 0,int i64 0,int i64 0,int i64 0,int i64 0,int i64 0,int i64 0,int i64 0,int i64 0,int i64 0,int i64 0,int i64 0,int i64 0,int i64 0,int i64 0,int i64 0,int i64 0,int i64 0,int i64 0,int i64 0,int i64 0,int i64 0,int i64 0,int i64 0,int i64 0,int i64 0] 98)).setCells (w.heap.size+1+1) 0 (thC (ntF a n ea 0)))):=((((Kp.refl _ w).alloc _).alloc _).alloc _).trans' (kp_setCells _ 0 _) (by intro b hb e;omega)
 clear hu hd
 go_enter Tryz.func66,Tryz.ntmps66
 go_wp2_with (first|(with_reducible (show Go.wpList _ _ _ ({ dst:=_,op:=Op.store 98 _ _,type:=_,pos:=_,after:=_,guard:=_ }::_) _ _);refine wpList_store_mid rfl 98 _ _ rfl (w.heap.size+1+1) 0 (thC (ntF a n ea 0)).toArray rfl rfl HT0.out (size_thA _) (all_oneCell_toArray (thC_one _)) ?_)|fail)
 generalize (((w.alloc (.cells #[.int .i64 n,.int .i64 ea,.int .i64 ek,.int .i64 ex,.int .i64 ey,.int .i64 ez] 95)).alloc (.cells #[int i64 0,int i64 0,int i64 0,int i64 0,int i64 0,int i64 0,int i64 0,int i64 0,int i64 0,int i64 0,int i64 0,int i64 0,int i64 0,int i64 0,int i64 0,int i64 0,int i64 0,int i64 0,int i64 0,int i64 0,int i64 0,int i64 0,int i64 0,int i64 0,int i64 0,int i64 0,int i64 0] 98)).alloc (.cells #[int i64 0,int i64 0,int i64 0,int i64 0,int i64 0,int i64 0,int i64 0,int i64 0,int i64 0,int i64 0,int i64 0,int i64 0,int i64 0,int i64 0,int i64 0,int i64 0,int i64 0,int i64 0,int i64 0,int i64 0,int i64 0,int i64 0,int i64 0,int i64 0,int i64 0,int i64 0,int i64 0] 98)).setCells (w.heap.size+1+1) 0 (thC (ntF a n ea 0))=W1 at *
 go_wp2
 go_loopg [6] 4 (fun m v6 wr=>∃i:Nat,v6=.int .i64 i∧m=4 - i∧i≤4∧Bx wr (w.heap.size+1+1) (thC (ntF a n ea i))∧Bx wr (w.heap.size+1) (thC th0)∧Nw w wr)
 case atStart=>exact ⟨0,rfl,rfl,by omega,HB5.out,HB4.out,HK0.out⟩
 case round =>
  obtain ⟨i,rfl,hm,hi,hb5,hb4,hk⟩:=hrel
  have HM:Hid (_=4 - i):=hm
  have H5:Hid (Bx wr (w.heap.size+1+1) (thC (ntF a n ea i))):=hb5
  have H4:Hid (Bx wr (w.heap.size+1) (thC th0)):=hb4
  have HK:Hid (Nw w wr):=hk
  clear hm hb5 hb4 hk HB5 HB4 HK0 HT0
  by_cases hil:i<4
  ·obtain ⟨c,hc⟩:∃c,(thC (ntF a n ea i))[3+i*6]? = some c:=⟨_,List.getElem?_eq_getElem (by rw [thC_len];omega)⟩
   have d0:=H5.out.cell hc
   have d1:=H5.out.z
   clear hc
   go_wp2
   go_roundg (4 - (i+1))
   case measure=>rw [HM.out];omega
   case rel=>exact ⟨i+1,by simp,rfl,by omega,by rw [←ntF_next a n ea i hil];exact H5.out.set _ _,H4.out.kp (by rw [thC_len];omega) ((Kp.refl (fun b=>b=w.heap.size+1+1) wr).setCell (p:=⟨w.heap.size+1+1,3+i*6,none⟩) (Or.inr rfl) _) (by omega),HK.out.setCell (p:=⟨w.heap.size+1+1,3+i*6,none⟩) (Or.inl (by show w.heap.size≤w.heap.size+1+1;omega)) _⟩
  ·have hie:i=4:=by omega
   subst hie
   obtain ⟨T,HTE⟩:∃T,Hid (newT a ⟨n,⟨ea,ek,ex,ey,ez⟩⟩=T):=⟨_,rfl⟩
   have HR:Hid (wr.rangeAt (w.heap.size+1+1) 0 (thC T)):=by show World.rangeAt _ _ _ _;rw [←HTE.out];exact H5.out.r
   have HT:Hid (wr.there (w.heap.size+1) 0 (thC T).toArray.size):=H4.out.there (by rw [List.size_toArray,thC_len,thC_len])
   have HE:Hid ((wr.setCells (w.heap.size+1) 0 (thC T)).rangeAt (w.heap.size+1) 0 (thC T)):=World.rangeAt_setCells_same _ _ _ _ (by have:=HT.out;rwa [List.size_toArray] at this)
   have HKE:Hid (Nw w (wr.setCells (w.heap.size+1) 0 (thC T))):=HK.out.trans' (kp_setCells _ 0 _) (by intro b hb e;omega)
   go_wp2_with (first
    | (with_reducible (show Go.wpList _ _ _ ({ dst:=_,op:=Op.load 98 _,type:=_,pos:=_,after:=_,guard:=_ }::_) _ _);refine wpList_load_mid rfl 98 _ rfl (w.heap.size+1+1) 0 rfl (thC T) dd HR.out HU.out HD.out (size_th T) ?_)
    | (with_reducible (show Go.wpList _ _ _ ({ dst:=_,op:=Op.store 98 _ _,type:=_,pos:=_,after:=_,guard:=_ }::_) _ _);refine wpList_store_mid rfl 98 _ _ rfl (w.heap.size+1) 0 (thC T).toArray rfl rfl HT.out (size_thA _) (all_oneCell_toArray (thC_one _)) ?_)
    | fail)
   refine bodyPost_ret (results_cX Tryz.results66 _ _ _ ⟨w.heap.size+1,0,none⟩ rfl _ (load_th HE.out)) rfl ?_
   exact ⟨by rw [HTE.out],HKE.out⟩
def mtC (m:Mt):List Value:=[.int .i64 m.first,.int .i64 m.last,.int .i64 m.h0,.int .i64 m.h1,.int .i64 m.h2,.int .i64 m.h3]
theorem mtC_len (m:Mt):(mtC m).length=6:=rfl
theorem mtC_one (m:Mt):∀v∈mtC m,v.oneCell'=true:=by
 intro v hv
 simp only [mtC,List.mem_cons,List.not_mem_nil,or_false] at hv
 rcases hv with h|h|h|h|h|h <;> subst h <;> rfl
theorem Tryz.rowMt:(Tryz.prog.underlying 36).map TypeDesc.isRow=some true:=by kernel_rfl
theorem Tryz.sizeMt:(Tryz.prog.info? 36).map (·.size)=some 6:=by kernel_rfl
theorem size_mt (m:Mt):(Tryz.prog.info? 36).map (·.size)=some (mtC m).length:=Tryz.sizeMt
theorem size_mtA (m:Mt):(Tryz.prog.info? 36).map (·.size)=some (mtC m).toArray.size:=Tryz.sizeMt
theorem load_mt {w:World} {B:Nat} {m:Mt} (h:w.rangeAt B 0 (mtC m)):(loadVar 36 ⟨B,0,none⟩).run Tryz.prog w=.ok (.agg (mtC m).toArray) w:=by
 obtain ⟨dd,hu,hd⟩:=Option.map_eq_some_iff.1 Tryz.rowMt
 exact run_loadVar_mid w B 0 36 (mtC m) dd h hu hd (size_mt m)
def mtF (t:Thr) (last:Int) (i:Nat):Mt:=⟨t.first,last,if 0<i then t.h0.n else 0,if 1<i then t.h1.n else 0,if 2<i then t.h2.n else 0,if 3<i then t.h3.n else 0⟩
theorem mtF_next (t:Thr) (last:Int) (i:Nat) (hi:i<4):(mtC (mtF t last i)).set (2+i) (.int .i64 (t.hd i).n)=mtC (mtF t last (i+1)):=by
 match i,hi with
 | 0,_=>rfl
 | 1,_=>rfl
 | 2,_=>rfl
 | 3,_=>rfl
theorem match_any (t:Thr) (last:Int) (w:World) :
  Calls Tryz.prog 67 #[.agg (thC t).toArray,.int .i64 last] w fun r w'=>r=.returned (.agg (mtC (matchT t last)).toArray)∧Nw w w':=by
 obtain ⟨dd,hu,hd⟩:=Option.map_eq_some_iff.1 Tryz.rowMt
 have HU:Hid (Tryz.prog.underlying 36=some dd):=hu
 have HD:Hid (dd.isRow=true):=hd
 have HC:Hid (∀i,i<4→(thC t)[3+i*6]? = some (.int .i64 (t.hd i).n)):=thC_hd t
 have h1:(thC t)[1]? = some (.int .i64 t.first):=rfl
 have HLN:Hid ((thC t).length=27):=thC_len t
 clear hu hd
 generalize thC t=LT at *
 go_enter Tryz.func67,Tryz.ntmps67
 go_wp2
 go_loopg [6] 4 (fun m v6 wr=>∃i:Nat,v6=.int .i64 i∧m=4 - i∧i≤4∧Bx wr w.heap.size LT∧Bx wr (w.heap.size+1+1) (mtC (mtF t last i))∧Bx wr (w.heap.size+1) (mtC ⟨0,0,0,0,0,0⟩)∧Nw w wr)
 case atStart =>
  have k1:0<LT.length:=by rw [HLN.out];omega
  refine ⟨0,rfl,rfl,by omega,?_,?_,?_,(((Kp.refl _ w).alloc _).alloc _).alloc _⟩
  ·exact (Bx.new w LT _).kp k1 (((Kp.refl (fun _=>False) _).alloc _).alloc _) (fun h=>h)
  ·have:=Bx.new ((w.alloc (.cells LT.toArray 98)).alloc (.cells #[int i64 0,int i64 0,int i64 0,int i64 0,int i64 0,int i64 0] 36)) (mtC (mtF t last 0)) 36
   rwa [show ((w.alloc (.cells LT.toArray 98)).alloc (.cells #[int i64 0,int i64 0,int i64 0,int i64 0,int i64 0,int i64 0] 36)).heap.size=w.heap.size+1+1 by simp] at this
  ·have:=(Bx.new (w.alloc (.cells LT.toArray 98)) (mtC ⟨0,0,0,0,0,0⟩) 36).kp (by rw [mtC_len];omega) ((Kp.refl (fun _=>False) _).alloc (.cells #[.int .i64 t.first,.int .i64 last,.int .i64 0,.int .i64 0,.int .i64 0,.int .i64 0] 36)) (fun h=>h)
   rwa [show (w.alloc (.cells LT.toArray 98)).heap.size=w.heap.size+1 by simp] at this
 case round =>
  obtain ⟨i,rfl,hm,hi,hb2,hb5,hb4,hk⟩:=hrel
  have HM:Hid (_=4 - i):=hm
  have H2:Hid (Bx wr w.heap.size LT):=hb2
  have H5:Hid (Bx wr (w.heap.size+1+1) (mtC (mtF t last i))):=hb5
  have H4:Hid (Bx wr (w.heap.size+1) (mtC ⟨0,0,0,0,0,0⟩)):=hb4
  have HK:Hid (Nw w wr):=hk
  clear hm hb5 hb4 hb2 hk h1
  by_cases hil:i<4
  ·obtain ⟨c,hc⟩:∃c,(mtC (mtF t last i))[2+i]? = some c:=⟨_,List.getElem?_eq_getElem (by rw [mtC_len];omega)⟩
   have d0:=H5.out.cell hc
   have d1:=H5.out.z
   have d2:=H2.out.cell (HC.out i hil)
   have HN:Hid ((mtC (mtF t last i)).set (2+i) (.int .i64 (t.hd i).n)=mtC (mtF t last (i+1))):=mtF_next t last i hil
   generalize (t.hd i).n=hn at *
   clear hc
   go_wp2
   go_roundg (4 - (i+1))
   case measure=>rw [HM.out];omega
   case rel=>exact ⟨i+1,by simp,rfl,by omega,H2.out.kp (by rw [HLN.out];omega) ((Kp.refl (fun b=>b=w.heap.size+1+1) wr).setCell (p:=⟨w.heap.size+1+1,2+i,none⟩) (Or.inr rfl) _) (by omega),by rw [←HN.out];exact H5.out.set _ _,H4.out.kp (by rw [mtC_len];omega) ((Kp.refl (fun b=>b=w.heap.size+1+1) wr).setCell (p:=⟨w.heap.size+1+1,2+i,none⟩) (Or.inr rfl) _) (by omega),HK.out.setCell (p:=⟨w.heap.size+1+1,2+i,none⟩) (Or.inl (by show w.heap.size≤w.heap.size+1+1;omega)) _⟩
  ·have hie:i=4:=by omega
   subst hie
   obtain ⟨M,HME⟩:∃M,Hid (matchT t last=M):=⟨_,rfl⟩
   have HR:Hid (wr.rangeAt (w.heap.size+1+1) 0 (mtC M)):=by show World.rangeAt _ _ _ _;rw [←HME.out];exact H5.out.r
   have HT:Hid (wr.there (w.heap.size+1) 0 (mtC M).toArray.size):=H4.out.there (by rw [List.size_toArray,mtC_len,mtC_len])
   have HE:Hid ((wr.setCells (w.heap.size+1) 0 (mtC M)).rangeAt (w.heap.size+1) 0 (mtC M)):=World.rangeAt_setCells_same _ _ _ _ (by have:=HT.out;rwa [List.size_toArray] at this)
   have HKE:Hid (Nw w (wr.setCells (w.heap.size+1) 0 (mtC M))):=HK.out.trans' (kp_setCells _ 0 _) (by intro b hb e;omega)
   go_wp2_with (first
    | (with_reducible (show Go.wpList _ _ _ ({ dst:=_,op:=Op.load 36 _,type:=_,pos:=_,after:=_,guard:=_ }::_) _ _);refine wpList_load_mid rfl 36 _ rfl (w.heap.size+1+1) 0 rfl (mtC M) dd HR.out HU.out HD.out (size_mt M) ?_)
    | (with_reducible (show Go.wpList _ _ _ ({ dst:=_,op:=Op.store 36 _ _,type:=_,pos:=_,after:=_,guard:=_ }::_) _ _);refine wpList_store_mid rfl 36 _ _ rfl (w.heap.size+1) 0 (mtC M).toArray rfl rfl HT.out (size_mtA _) (all_oneCell_toArray (mtC_one _)) ?_)
    | fail)
   refine bodyPost_ret (results_cX Tryz.results67 _ _ _ ⟨w.heap.size+1,0,none⟩ rfl _ (load_mt HE.out)) rfl ?_
   exact ⟨by rw [HME.out],HKE.out⟩
end Go.Proofs.YtcboiapggnmpfabGreat
