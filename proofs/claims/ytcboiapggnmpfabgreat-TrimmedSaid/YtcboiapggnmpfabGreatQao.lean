import Derived.Test.YtcboiapggnmpfabGreatQam
import Derived.Test.YtcboiapggnmpfabGreatQae
import Derived.Deep.RegionLaw
import Derived.Deep.DrawnRows
namespace Go.Proofs.YtcboiapggnmpfabGreat
set_option maxRecDepth 100000
set_option maxHeartbeats 1000000
set_option linter.unusedSimpArgs false
set_option linter.unusedVariables false
open Go.RowKit
open Value (slice)
theorem owns_setI {w:World} {base g n c i:Nat} {e:TypeId} {xs:List Value} (h:w.ownsRow base e 1 (.slice (some ⟨g,0,none⟩) n c) n xs) (hi:i<n) (v:Value):(w.setCell ⟨g,i,none⟩ v).ownsRow base e 1 (.slice (some ⟨g,0,none⟩) n c) n (xs.set i v):=by
 obtain ⟨h1,h2⟩:=h
 rcases h2 with ⟨h2,_⟩ | ⟨g',cap',cur,h2,hb,h3,h4,h5,h6,h7⟩
 ·simp at h2
 ·simp only [Value.slice.injEq,Option.some.injEq,Addr.mk.injEq,true_and,and_true] at h2
  obtain ⟨rfl,rfl⟩:=h2
  have hr:Row w g e cur.toList:=by rw [Row,h3]
  have hr2:=hr.set i v
  refine ⟨by simp [h1],Or.inr ⟨g,c,(cur.toList.set i v).toArray,rfl,hb,hr2,h4,h5,by simpa using h6,?_⟩⟩
  rw [←h7]
  simp [List.take_set]
theorem owns_froz {w:World} {base g n c size:Nat} {e:TypeId} {xs:List Value} (h:w.ownsRow base e size (.slice (some ⟨g,0,none⟩) n c) n xs) (o:Nat):w.frozen? ⟨g,o,none⟩=false:=by
 obtain ⟨h1,h2⟩:=h
 rcases h2 with ⟨h2,_⟩ | ⟨g',cap',cur,h2,hb,h3,h4,h5,h6,h7⟩
 ·simp at h2
 ·simp only [Value.slice.injEq,Option.some.injEq,Addr.mk.injEq,true_and,and_true] at h2
  obtain ⟨rfl,rfl⟩:=h2
  exact frozen_of_row w g o _ e h3
def folS (a b:Nat):Nat→List Nat→List Nat
 | _,[]=>[]
 | i,x::r=>(if hasS a i=true then x ||| b else x)::folS a b (i+1) r
def followS (F:List Nat) (a b:Nat):List Nat:=folS a b 0 F
theorem folS_len (a b:Nat):∀(F:List Nat) (i:Nat),(folS a b i F).length=F.length:=by
 intro F
 induction F with
 | nil=>intro i;rfl
 | cons x r ih=>intro i;simp [folS,ih]
theorem followS_len (F:List Nat) (a b:Nat):(followS F a b).length=F.length:=folS_len a b F 0
theorem folS_get (a b:Nat):∀(F:List Nat) (i j:Nat) (x:Nat),F[j]? = some x→(folS a b i F)[j]? = some (if hasS a (i+j)=true then x ||| b else x):=by
 intro F
 induction F with
 | nil=>intro i j x h;simp at h
 | cons y r ih =>
  intro i j x h
  cases j with
  | zero=>simp at h;subst h;simp [folS]
  | succ j =>
   simp at h
   have:=ih (i+1) j x h
   simp only [folS,List.getElem?_cons_succ,this]
   have e:i+1+j=i+(j+1):=by omega
   rw [e]
def folTo (F:List Nat) (a b i:Nat):List Nat:=(followS F a b).take i++F.drop i
theorem folTo_zero (F:List Nat) (a b:Nat):folTo F a b 0=F:=by simp [folTo]
theorem folTo_all (F:List Nat) (a b:Nat):folTo F a b F.length=followS F a b:=by
 simp only [folTo,List.drop_length,List.append_nil]
 rw [List.take_of_length_le (by rw [followS_len];exact Nat.le_refl _)]
theorem folTo_len (F:List Nat) (a b i:Nat) (h:i≤F.length):(folTo F a b i).length=F.length:=by simp [folTo,followS_len];omega
theorem folTo_get (F:List Nat) (a b i:Nat) (h:i<F.length):(folTo F a b i)[i]? = F[i]?:=by
 have hl:((followS F a b).take i).length=i:=by simp [followS_len];omega
 rw [folTo,List.getElem?_append_right (by omega),hl]
 simp
theorem folTo_step (F:List Nat) (a b i:Nat) (x:Nat) (h:F[i]? = some x):folTo F a b (i+1)=(folTo F a b i).set i (if hasS a i=true then x ||| b else x):=by
 obtain ⟨hi,hx⟩:=List.getElem?_eq_some_iff.1 h
 have hg:=folS_get a b F 0 i x h
 rw [Nat.zero_add] at hg
 have hg':(followS F a b)[i]? = some (if hasS a i=true then x ||| b else x):=hg
 have hl:((followS F a b).take i).length=i:=by simp [followS_len];omega
 have e1:F.drop i=x::F.drop (i+1):=by rw [List.drop_eq_getElem_cons hi,hx]
 have hi':i<(followS F a b).length:=by rw [followS_len];exact hi
 have e2:(followS F a b).take (i+1)=(followS F a b).take i++[if hasS a i=true then x ||| b else x]:=by
  rw [List.take_add_one,hg'];rfl
 unfold folTo
 rw [e2,e1,List.set_append_right _ _ (by omega),hl,Nat.sub_self]
 simp
theorem folTo_skip (F:List Nat) (a b i:Nat) (h:hasS a i=false) (hi:i<F.length):folTo F a b (i+1)=folTo F a b i:=by
 obtain ⟨x,hx⟩:∃x,F[i]? = some x:=⟨_,List.getElem?_eq_getElem hi⟩
 rw [folTo_step F a b i x hx]
 have hg:=folTo_get F a b i hi
 rw [hx] at hg
 simp only [h]
 apply List.ext_getElem?
 intro j
 by_cases e:j=i
 ·subst e
  rw [List.getElem?_set_self (by rw [folTo_len F a b j (by omega)];exact hi),hg];simp
 ·rw [List.getElem?_set_ne (by omega)]
def Sets (F:List Nat):Prop:=∀x∈F,x<2 ^ 25
theorem folS_sets {a b:Nat} (hb:b<2 ^ 25):∀(F:List Nat) (i:Nat),Sets F→Sets (folS a b i F):=by
 intro F
 induction F with
 | nil=>intro i h;exact h
 | cons x r ih =>
  intro i h y hy
  simp only [folS,List.mem_cons] at hy
  rcases hy with e|e
  ·rw [e]
   split
   ·exact Nat.or_lt_two_pow (h x (by simp)) hb
   ·exact h x (by simp)
  ·exact ih (i+1) (fun z hz=>h z (by simp [hz])) y e
theorem followS_sets {F:List Nat} {a b:Nat} (h:Sets F) (hb:b<2 ^ 25):Sets (followS F a b):=folS_sets hb F 0 h
structure WrM (w:World) (R:Nat) (nv sv fv:Value) (S F:List Nat):Prop where
 c0:w.cell? ⟨R,0,none⟩=some nv
 c1:w.cell? ⟨R,1,none⟩=some sv
 c2:w.cell? ⟨R,2,none⟩=some fv
 z:∀o,w.frozen? ⟨R,o,none⟩=false
 so:w.ownsRow (R+1) 3 1 sv S.length (intsV S)
 fo:w.ownsRow (R+1) 114 1 fv F.length (intsV F)
theorem WrM.lt {w:World} {R:Nat} {nv sv fv:Value} {S F:List Nat} (h:WrM w R nv sv fv S F):R<w.heap.size:=World.block_lt_of_cell? w ⟨R,0,none⟩ h.c0
theorem WrM.nw {w w':World} {R:Nat} {nv sv fv:Value} {S F:List Nat} (h:WrM w R nv sv fv S F) (k:Nw w w'):WrM w' R nv sv fv S F :=
 ⟨(k.cell h.lt (fun h=>h)).trans h.c0,(k.cell h.lt (fun h=>h)).trans h.c1,(k.cell h.lt (fun h=>h)).trans h.c2,fun o=>(k.frozen (p:=⟨R,o,none⟩) h.lt (fun h=>h)).trans (h.z o),owns_kp h.so k (fun _ _ h=>h),owns_kp h.fo k (fun _ _ h=>h)⟩
theorem WrM.fset {w:World} {R g c:Nat} {nv sv:Value} {S F:List Nat} (h:WrM w R nv sv (.slice (some ⟨g,0,none⟩) F.length c) S F) {i:Nat} (hi:i<F.length) (x:Nat):WrM (w.setCell ⟨g,i,none⟩ (.int .i64 x)) R nv sv (.slice (some ⟨g,0,none⟩) F.length c) S (F.set i x):=by
 have hg:=(h.fo.lt g rfl).1
 have kk:Kp (fun b=>b=g) w (w.setCell ⟨g,i,none⟩ (.int .i64 x)):=(Kp.refl (fun b=>b=g) w).setCell (p:=⟨g,i,none⟩) (Or.inr rfl) _
 have hl:=h.lt
 refine ⟨(kk.cell hl (by show ¬R=g;omega)).trans h.c0,(kk.cell hl (by show ¬R=g;omega)).trans h.c1,(kk.cell hl (by show ¬R=g;omega)).trans h.c2,fun o=>(kk.frozen (p:=⟨R,o,none⟩) hl (by show ¬R=g;omega)).trans (h.z o),?_,?_⟩
 ·exact ownsRow_apart (R:=R) h.so h.fo (by decide) (Nat.lt_succ_self R) (kk.mono (fun b _ e=>Or.inr (by rw [e];rfl)))
 ·have:=owns_setI h.fo hi (.int .i64 (x:Int))
  have e1:(F.set i x).length=F.length:=by simp
  have e2:intsV (F.set i x)=(intsV F).set i (.int .i64 (x:Int)):=by simp [intsV,List.map_set]
  rw [e1,e2];exact this
theorem intsV_get {F:List Nat} {i x:Nat} (h:F[i]? = some x):(intsV F)[i]? = some (.int .i64 (x:Int)):=by simp [intsV,h]
theorem follow_any (R a b:Nat) (nv sv fv:Value) (S F:List Nat) (w:World) (h:WrM w R nv sv fv S F) (ha:a<2 ^ 25) (hb:b<2 ^ 25) (hF:Sets F) (hn:F.length≤10000) :
  Calls Tryz.prog 79 #[.pointer (some ⟨R,0,none⟩),.int .i64 a,.int .i64 b] w fun e w'=>e=.returned (.tuple #[])∧WrM w' R nv sv fv S (followS F a b)∧Kp (fun k=>fv.ownBlock=some k) w w':=by
 obtain ⟨fp,fc,rfl⟩:∃p c,fv=.slice p F.length c:=by obtain ⟨p,c,h⟩:=ownsLenX h.fo;exact ⟨p,c,h⟩
 have H:Hid (WrM w R nv sv (.slice fp F.length fc) S F):=h
 have HF:Hid (Sets F):=hF
 have HH:Hid (∀p W,p≤100000→Calls Tryz.prog 84 #[.int .i64 a,.int .i64 (p:Nat)] W fun e w'=>e=.returned (.bool (hasS a p))∧w'=W):=fun p W hp=>hasS_any a p W ha hp
 clear h hF
 go_enter Tryz.func79,Tryz.ntmps79
 go_wp2
 go_loopg [6] F.length (fun m v6 wr=>∃i:Nat,v6=.int .i64 i∧m=F.length - i∧i≤F.length∧WrM wr R nv sv (.slice fp F.length fc) S (folTo F a b i)∧Kp (fun k=>(slice fp F.length fc).ownBlock=some k) w wr)
 case atStart=>exact ⟨0,rfl,rfl,by omega,by rw [folTo_zero];exact H.out,Kp.refl _ _⟩
 case round =>
  obtain ⟨i,rfl,hm,hi,hw,hk⟩:=hrel
  have HM:Hid (_=F.length - i):=hm
  have HW:Hid (WrM wr R nv sv (.slice fp F.length fc) S (folTo F a b i)):=hw
  have HK:Hid (Kp (fun k=>(slice fp F.length fc).ownBlock=some k) w wr):=hk
  have c2:=hw.c2
  have hlt:=hw.lt
  clear hm hk
  by_cases hil:i<F.length
  ·obtain ⟨x,hx⟩:∃x,F[i]? = some x:=⟨_,List.getElem?_eq_getElem hil⟩
   have hxb:=HF.out x (List.mem_of_getElem? hx)
   have hfl:=folTo_len F a b i hi
   have hgo:∃g,fp=some ⟨g,0,none⟩:=by
    obtain ⟨g,cap,e,_⟩:=hw.fo.form (by rw [hfl];omega)
    simp only [Value.slice.injEq] at e
    exact ⟨g,e.1⟩
   obtain ⟨g,rfl⟩:=hgo
   have hw':=hw
   rw [←hfl] at hw'
   have hgR:=(hw'.fo.lt g rfl)
   have cx:wr.cell? ⟨g,i,none⟩=some (.int .i64 x):=owns_cell hw'.fo i (intsV_get (by rw [folTo_get F a b i hil];exact hx))
   have cz:∀o,wr.frozen? ⟨g,o,none⟩=false:=owns_froz hw'.fo
   have hne:¬R=g:=by omega
   have hne':¬g=R:=by omega
   have HST:=folTo_step F a b i x hx
   have HSK:=fun h=>folTo_skip F a b i h hil
   have HSET:Hid (∀y:Nat,WrM (wr.setCell ⟨g,i,none⟩ (.int .i64 y)) R nv sv (.slice (some ⟨g,0,none⟩) F.length fc) S ((folTo F a b i).set i y)):=by
    intro y
    have:=hw'.fset (i:=i) (by rw [hfl];exact hil) y
    rw [hfl] at this
    exact this
   have hor:=bits_or25 x b hxb hb
   clear hw hw' hx
   go_wp2_with fail
   refine (HH.out i _ (by omega)).mono ?_
   rintro e w1 ⟨rfl,hw1⟩
   have hw2:=hw1.symm
   subst hw2
   clear hw1
   generalize hasS a i=hb' at *
   cases hb' with
   | false =>
    have HS2:Hid (folTo F a b (i+1)=folTo F a b i):=HSK rfl
    clear HST HSK hor
    go_wp2
    go_roundg (F.length - (i+1))
    case measure=>rw [HM.out];omega
    case rel=>exact ⟨i+1,by simp,rfl,by omega,by rw [HS2.out];exact HW.out,HK.out⟩
   | true =>
    have HS2:Hid (folTo F a b (i+1)=(folTo F a b i).set i (x ||| b)):=by show _=_;rw [HST];simp
    clear HST HSK
    go_wp2
    go_roundg (F.length - (i+1))
    case measure=>rw [HM.out];omega
    case rel=>exact ⟨i+1,by simp,rfl,by omega,by rw [HS2.out];exact HSET.out (x ||| b),HK.out.setCell (p:=⟨g,i,none⟩) (Or.inr rfl) _⟩
  ·have hie:i=F.length:=by omega
   subst hie
   have HD:Hid (WrM wr R nv sv (.slice fp F.length fc) S (followS F a b)):=by have:=HW.out;rw [folTo_all] at this;exact this
   clear hw
   go_wp2
   go_end0
   exact ⟨rfl,HD.out,HK.out⟩
open Value (int)
structure Pp where
 first:Nat
 last:Nat
 nothing:Bool
def Pp.ok (p:Pp):Prop:=p.first<2 ^ 25∧p.last<2 ^ 25
def partV (p:Pp):Value:=.agg #[.int .i64 p.first,.int .i64 p.last,.bool p.nothing]
def joinS (p q:Pp):Pp:=⟨if p.nothing=true then p.first ||| q.first else p.first,if q.nothing=true then q.last ||| p.last else q.last,p.nothing&&q.nothing⟩
theorem joinS_ok {p q:Pp} (hp:p.ok) (hq:q.ok):(joinS p q).ok:=by
 unfold joinS Pp.ok
 refine ⟨?_,?_⟩
 ·show (if _ then _ else _)<_
  split
  ·exact Nat.or_lt_two_pow hp.1 hq.1
  ·exact hp.1
 ·show (if _ then _ else _)<_
  split
  ·exact Nat.or_lt_two_pow hq.2 hp.2
  ·exact hq.2
def WSp (R:Nat) (sv fv:Value) (k:Nat):Prop:=k=R∨sv.ownBlock=some k∨fv.ownBlock=some k
def NewB (w:World) (v v':Value):Prop:=∀b,v'.ownBlock=some b→v.ownBlock=some b∨w.heap.size≤b
theorem Tryz.info114:(Tryz.prog.info? 114).map (fun i=>(i.zero,i.size,i.bytes))=some (some (.int .i64 0),1,8):=by kernel_rfl
theorem Tryz.rowPt:(Tryz.prog.underlying 161).map TypeDesc.isRow=some true:=by kernel_rfl
theorem Tryz.sizePt:(Tryz.prog.info? 161).map (·.size)=some 3:=by kernel_rfl
theorem load_part {w:World} {B:Nat} {p:Pp} (h0:w.cell? ⟨B,0,none⟩=some (.int .i64 p.first)) (h1:w.cell? ⟨B,1,none⟩=some (.int .i64 p.last)) (h2:w.cell? ⟨B,2,none⟩=some (.bool p.nothing)):(loadVar 161 ⟨B,0,none⟩).run Tryz.prog w=.ok (partV p) w:=by
 obtain ⟨dd,hu,hd⟩:=Option.map_eq_some_iff.1 Tryz.rowPt
 refine run_loadVar_mid w B 0 161 [.int .i64 p.first,.int .i64 p.last,.bool p.nothing] dd ?_ hu hd Tryz.sizePt
 intro k v hv
 rw [Nat.zero_add]
 match k,hv with
 | 0,hv=>simp at hv;rw [h0,hv]
 | 1,hv=>simp at hv;rw [h1,hv]
 | 2,hv=>simp at hv;rw [h2,hv]
theorem WrM.off {w w':World} {R B:Nat} {nv sv fv:Value} {S F:List Nat} (h:WrM w R nv sv fv S F) (k:Kp (fun b=>b=B) w w') (h1:¬R=B) (h2:¬sv.ownBlock=some B) (h3:¬fv.ownBlock=some B):WrM w' R nv sv fv S F :=
 ⟨(k.cell h.lt h1).trans h.c0,(k.cell h.lt h1).trans h.c1,(k.cell h.lt h1).trans h.c2,fun o=>(k.frozen (p:=⟨R,o,none⟩) h.lt h1).trans (h.z o),owns_kp h.so k (fun g hg e=>h2 (by rw [←e];exact hg)),owns_kp h.fo k (fun g hg e=>h3 (by rw [←e];exact hg))⟩
theorem join_any (R:Nat) (p q:Pp) (hp:p.ok) (hq:q.ok) (nv sv fv:Value) (S F:List Nat) (w:World) (h:WrM w R nv sv fv S F) (hF:Sets F) (hn:F.length≤10000) :
  Calls Tryz.prog 104 #[.pointer (some ⟨R,0,none⟩),partV p,partV q] w fun e w'=>e=.returned (partV (joinS p q))∧WrM w' R nv sv fv S (followS F p.last q.first)∧Kp (fun k=>fv.ownBlock=some k) w w':=by
 obtain ⟨pf,pl,pn⟩:=p
 obtain ⟨qf,ql,qn⟩:=q
 obtain ⟨hp1,hp2⟩:=hp
 obtain ⟨hq1,hq2⟩:=hq
 simp only at hp1 hp2 hq1 hq2
 have hfb:=h.fo.lt
 have HFO:Hid (∀W,Nw w W→Calls Tryz.prog 79 #[.pointer (some ⟨R,0,none⟩),.int .i64 pl,.int .i64 qf] W fun e w'=>e=.returned (.tuple #[])∧WrM w' R nv sv fv S (followS F pl qf)∧Kp (fun k=>fv.ownBlock=some k) W w'):=fun W kW=>follow_any R pl qf nv sv fv S F W (h.nw kW) hp2 hq1 hF hn
 have HFB:Hid (∀b,fv.ownBlock=some b→b<w.heap.size):=fun b hb=>(hfb b hb).2
 have hsb:=h.so.lt
 have HSB:Hid (∀b,w.heap.size≤b→¬sv.ownBlock=some b):=fun b hb e=>by have:=(hsb b e).2;omega
 have hlt:=h.lt
 have o1:=bits_or25 pf qf hp1 hq1
 have o2:=bits_or25 ql pl hq2 hp2
 unfold partV
 clear h hfb hsb
 go_enter Tryz.func104,Tryz.ntmps104
 go_wp2_with fail
 refine (HFO.out _ ((((Kp.refl _ w).alloc _).alloc _).alloc _)).mono ?_
 rintro e w1 ⟨rfl,hw1,k1⟩
 have HW1:Hid (WrM w1 R nv sv fv S (followS F pl qf)):=hw1
 have hbx:∀B j,w.heap.size≤B→B<w.heap.size+3→w1.cell? ⟨B,j,none⟩=(((w.alloc (.cells #[.int .i64 pf,.int .i64 pl,.bool pn] 161)).alloc (.cells #[.int .i64 qf,.int .i64 ql,.bool qn] 161)).alloc (.cells #[.int .i64 0,.int .i64 0,.bool false] 161)).cell? ⟨B,j,none⟩:=by
  intro B j h0 h1
  exact k1.cell (by show B<_;simp;omega) (by show ¬fv.ownBlock=some B;intro hb;have:=HFB.out B hb;omega)
 have hbz:∀j,w1.frozen? ⟨w.heap.size+1+1,j,none⟩=false:=by
  intro j
  rw [k1.frozen (p:=⟨w.heap.size+1+1,j,none⟩) (by show w.heap.size+1+1<_;simp) (by show ¬fv.ownBlock=some (w.heap.size+1+1);intro hb;have:=HFB.out (w.heap.size+1+1) hb;omega)]
  simp [go_sem,World.frozen?_alloc_at]
 have a0:w1.cell? ⟨w.heap.size,0,none⟩=some (.int .i64 pf):=by rw [hbx _ _ (by omega) (by omega)];simp [go_sem,World.cell?_alloc_at]
 have a1:w1.cell? ⟨w.heap.size,1,none⟩=some (.int .i64 pl):=by rw [hbx _ _ (by omega) (by omega)];simp [go_sem,World.cell?_alloc_at]
 have a2:w1.cell? ⟨w.heap.size,2,none⟩=some (.bool pn):=by rw [hbx _ _ (by omega) (by omega)];simp [go_sem,World.cell?_alloc_at]
 have b0:w1.cell? ⟨w.heap.size+1,0,none⟩=some (.int .i64 qf):=by rw [hbx _ _ (by omega) (by omega)];simp [go_sem,World.cell?_alloc_at]
 have b1:w1.cell? ⟨w.heap.size+1,1,none⟩=some (.int .i64 ql):=by rw [hbx _ _ (by omega) (by omega)];simp [go_sem,World.cell?_alloc_at]
 have b2:w1.cell? ⟨w.heap.size+1,2,none⟩=some (.bool qn):=by rw [hbx _ _ (by omega) (by omega)];simp [go_sem,World.cell?_alloc_at]
 have r0:w1.cell? ⟨w.heap.size+1+1,0,none⟩=some (.int .i64 0):=by rw [hbx _ _ (by omega) (by omega)];simp [go_sem,World.cell?_alloc_at]
 have r1:w1.cell? ⟨w.heap.size+1+1,1,none⟩=some (.int .i64 0):=by rw [hbx _ _ (by omega) (by omega)];simp [go_sem,World.cell?_alloc_at]
 have r2:w1.cell? ⟨w.heap.size+1+1,2,none⟩=some (.bool false):=by rw [hbx _ _ (by omega) (by omega)];simp [go_sem,World.cell?_alloc_at]
 have hl1:w.heap.size+1+1<w1.heap.size:=by have:=k1.size;simp at this;omega
 have K1:Hid (Kp (fun k=>fv.ownBlock=some k) w w1):=((((Kp.refl _ w).alloc _).alloc _).alloc _).trans k1
 have l0:w.heap.size<w1.heap.size:=by omega
 have l1:w.heap.size+1<w1.heap.size:=by omega
 have n0:¬w.heap.size=w1.heap.size:=by omega
 have n1:¬w.heap.size+1=w1.heap.size:=by omega
 have n2:¬w.heap.size+1+1=w1.heap.size:=by omega
 have HFIN:Hid (∀(x0 x1 x2:Value) (o:Obj),WrM ((((w1.setCell ⟨w.heap.size+1+1,0,none⟩ x0).setCell ⟨w.heap.size+1+1,1,none⟩ x1).setCell ⟨w.heap.size+1+1,2,none⟩ x2).alloc o) R nv sv fv S (followS F pl qf)∧Kp (fun k=>fv.ownBlock=some k) w ((((w1.setCell ⟨w.heap.size+1+1,0,none⟩ x0).setCell ⟨w.heap.size+1+1,1,none⟩ x1).setCell ⟨w.heap.size+1+1,2,none⟩ x2).alloc o)):=by
  intro x0 x1 x2 o
  have kk:Kp (fun k=>k=w.heap.size+1+1) w1 ((((w1.setCell ⟨w.heap.size+1+1,0,none⟩ x0).setCell ⟨w.heap.size+1+1,1,none⟩ x1).setCell ⟨w.heap.size+1+1,2,none⟩ x2).alloc o):=((((Kp.refl (fun k=>k=w.heap.size+1+1) w1).setCell (p:=⟨w.heap.size+1+1,0,none⟩) (Or.inr rfl) _).setCell (p:=⟨w.heap.size+1+1,1,none⟩) (Or.inr rfl) _).setCell (p:=⟨w.heap.size+1+1,2,none⟩) (Or.inr rfl) _).alloc o
  exact ⟨HW1.out.off kk (by omega) (HSB.out _ (by omega)) (by intro e;have:=HFB.out _ e;omega),K1.out.trans' kk (by intro i hi e;omega)⟩
 clear hbx hw1 k1
 have HLD:Hid (∀(y:Pp) (o:Obj),(loadVar 161 ⟨w.heap.size+1+1,0,none⟩).run Tryz.prog ((((w1.setCell ⟨w.heap.size+1+1,0,none⟩ (.int .i64 y.first)).setCell ⟨w.heap.size+1+1,1,none⟩ (.int .i64 y.last)).setCell ⟨w.heap.size+1+1,2,none⟩ (.bool y.nothing)).alloc o)=.ok (partV y) ((((w1.setCell ⟨w.heap.size+1+1,0,none⟩ (.int .i64 y.first)).setCell ⟨w.heap.size+1+1,1,none⟩ (.int .i64 y.last)).setCell ⟨w.heap.size+1+1,2,none⟩ (.bool y.nothing)).alloc o)):=by
  intro y o
  refine load_part ?_ ?_ ?_
  ·simp [go_sem,r0,r1,r2,n2,hl1]
  ·simp [go_sem,r0,r1,r2,n2,hl1]
  ·simp [go_sem,r0,r1,r2,n2,hl1]
 cases pn with
 | true =>
  cases qn with
  | true =>
   go_wp2
   refine bodyPost_ret (results_cX Tryz.results104 _ _ _ ⟨w.heap.size+1+1,0,none⟩ rfl _ (HLD.out ⟨pf ||| qf,ql ||| pl,true⟩ _)) rfl ?_
   exact ⟨rfl,(HFIN.out _ _ _ _).1,(HFIN.out _ _ _ _).2⟩
  | false =>
   go_wp2
   refine bodyPost_ret (results_cX Tryz.results104 _ _ _ ⟨w.heap.size+1+1,0,none⟩ rfl _ (HLD.out ⟨pf ||| qf,ql,false⟩ _)) rfl ?_
   exact ⟨rfl,(HFIN.out _ _ _ _).1,(HFIN.out _ _ _ _).2⟩
 | false =>
  cases qn with
  | true =>
   go_wp2
   refine bodyPost_ret (results_cX Tryz.results104 _ _ _ ⟨w.heap.size+1+1,0,none⟩ rfl _ (HLD.out ⟨pf,ql ||| pl,false⟩ _)) rfl ?_
   exact ⟨rfl,(HFIN.out _ _ _ _).1,(HFIN.out _ _ _ _).2⟩
  | false =>
   go_wp2
   refine bodyPost_ret (results_cX Tryz.results104 _ _ _ ⟨w.heap.size+1+1,0,none⟩ rfl _ (HLD.out ⟨pf,ql,false⟩ _)) rfl ?_
   exact ⟨rfl,(HFIN.out _ _ _ _).1,(HFIN.out _ _ _ _).2⟩
def WrPost (w:World) (R:Nat) (nv sv fv:Value) (p:Pp) (S F:List Nat) (e:Ending) (w':World):Prop :=
 ∃sv' fv',e=.returned (partV p)∧WrM w' R nv sv' fv' S F∧Kp (WSp R sv fv) w w'∧NewB w sv sv'∧NewB w fv fv'
theorem WrM.grow1 {w w':World} {R:Nat} {nv sv fv sv':Value} {S S' F:List Nat} (h:WrM w R nv sv fv S F) (k:Kp (fun b=>sv.ownBlock=some b) w w') (o:w'.ownsRow (R+1) 3 1 sv' S'.length (intsV S')):WrM (w'.setCell ⟨R,1,none⟩ sv') R nv sv' fv S' F:=by
 have hl:=h.lt
 have hsb:=h.so.lt
 have hR:¬sv.ownBlock=some R:=by intro e;have:=(hsb R e).1;omega
 have c0:=(k.cell (p:=⟨R,0,none⟩) hl hR).trans h.c0
 have c1:=(k.cell (p:=⟨R,1,none⟩) hl hR).trans h.c1
 have c2:=(k.cell (p:=⟨R,2,none⟩) hl hR).trans h.c2
 have z:∀o,w'.frozen? ⟨R,o,none⟩=false:=fun o=>(k.frozen (p:=⟨R,o,none⟩) hl hR).trans (h.z o)
 have kk:Kp (fun b=>b=R∨sv.ownBlock=some b) w (w'.setCell ⟨R,1,none⟩ sv'):=Kp.setCell (S:=fun b=>b=R∨sv.ownBlock=some b) (k.mono (fun b _ e=>Or.inr e)) (p:=⟨R,1,none⟩) (Or.inr (Or.inl rfl)) _
 exact ⟨by simp [go_sem,c0],by simp [go_sem,c1],by simp [go_sem,c2],fun o=>by simp [go_sem,z],ownsRow_setCell_below o (a:=⟨R,1,none⟩) (Nat.lt_succ_self R) _,ownsRow_apart h.fo h.so (by decide) (Nat.lt_succ_self R) kk⟩
theorem WrM.grow2 {w w':World} {R:Nat} {nv sv fv fv':Value} {S F F':List Nat} (h:WrM w R nv sv fv S F) (k:Kp (fun b=>fv.ownBlock=some b) w w') (o:w'.ownsRow (R+1) 114 1 fv' F'.length (intsV F')):WrM (w'.setCell ⟨R,2,none⟩ fv') R nv sv fv' S F':=by
 have hl:=h.lt
 have hsb:=h.fo.lt
 have hR:¬fv.ownBlock=some R:=by intro e;have:=(hsb R e).1;omega
 have c0:=(k.cell (p:=⟨R,0,none⟩) hl hR).trans h.c0
 have c1:=(k.cell (p:=⟨R,1,none⟩) hl hR).trans h.c1
 have c2:=(k.cell (p:=⟨R,2,none⟩) hl hR).trans h.c2
 have z:∀o,w'.frozen? ⟨R,o,none⟩=false:=fun o=>(k.frozen (p:=⟨R,o,none⟩) hl hR).trans (h.z o)
 have kk:Kp (fun b=>b=R∨fv.ownBlock=some b) w (w'.setCell ⟨R,2,none⟩ fv'):=Kp.setCell (S:=fun b=>b=R∨fv.ownBlock=some b) (k.mono (fun b _ e=>Or.inr e)) (p:=⟨R,2,none⟩) (Or.inr (Or.inl rfl)) _
 exact ⟨by simp [go_sem,c0],by simp [go_sem,c1],by simp [go_sem,c2],fun o=>by simp [go_sem,z],ownsRow_apart h.so h.fo (by decide) (Nat.lt_succ_self R) kk,ownsRow_setCell_below o (a:=⟨R,2,none⟩) (Nat.lt_succ_self R) _⟩
theorem writeStep_any (R st:Nat) (nv sv fv:Value) (S F:List Nat) (w:World) (h:WrM w R nv sv fv S F) (hS:S.length≤10000) (hF:F.length≤10000) :
  Calls Tryz.prog 103 #[.pointer (some ⟨R,0,none⟩),.int .i64 st] w (WrPost w R nv sv fv ⟨onlyS S.length,onlyS S.length,false⟩ (S++[st]) (F++[0])):=by
 obtain ⟨sp,sc,rfl⟩:∃p c,sv=.slice p S.length c:=by obtain ⟨p,c,h⟩:=ownsLenX h.so;exact ⟨p,c,h⟩
 have H:Hid (WrM w R nv (.slice sp S.length sc) fv S F):=h
 have hlt:=h.lt
 have c1:=h.c1
 have hne:¬R=w.heap.size:=by omega
 obtain ⟨i1,hi1,hy0,hy1,hy2⟩:=info_parts Tryz.info3
 clear h
 go_enter Tryz.func103,Tryz.ntmps103
 go_wp2_with fail
 refine (onlyS_any S.length _ (by omega)).mono ?_
 rintro e w1 ⟨rfl,hw1⟩
 have hw2:=hw1.symm
 subst hw2
 clear hw1
 go_wp2_with (at_builtin;refine wpList_append_lies _ rfl _ _ 22 rfl (R+1) 3 i1 (.int .i64 0) 1 8 Tryz.underlying22 hi1 hy0 hy1 hy2 rfl (by decide) _ _ _ rfl ((H.out.so.alloc _).alloc _) ⟨w.heap.size+1,0,none⟩ 1 1 [.int .i64 (st:Int)] rfl rfl ?c1 ?c2 (by decide) ?c3 ?c4 ?c5 _ rfl ?_)
 case c1=>exact news_one _ (by simp) _ _
 case c2=>exact intsV_one [st]
 case c3=>unfold maxLen;omega
 case c4=>omega
 case c5=>simp;omega
 intro g3 cap3 w3 hown3 hgrow hat hlt3
 have kg:Kp (fun b=>(slice sp S.length sc).ownBlock=some b) w w3:=(((Kp.refl _ w).alloc _).alloc _).grown hgrow (fun b hb=>Or.inr hb)
 have O3:w3.ownsRow (R+1) 3 1 (.slice (some ⟨g3,0,none⟩) (S.length+1) cap3) (S++[st]).length (intsV (S++[st])):=by
  have e1:(S++[st]).length=S.length+1:=by simp
  have e2:intsV (S++[st])=intsV S++[.int .i64 (st:Int)]:=by simp [intsV]
  rw [e1,e2];exact hown3
 have hsb:=H.out.so.lt
 have hfb:=H.out.fo.lt
 have hRs:¬(slice sp S.length sc).ownBlock=some R:=by intro e;have:=(hsb R e).1;omega
 have M3:Hid (WrM (w3.setCell ⟨R,1,none⟩ (.slice (some ⟨g3,0,none⟩) (S.length+1) cap3)) R nv (.slice (some ⟨g3,0,none⟩) (S.length+1) cap3) fv (S++[st]) F):=H.out.grow1 kg O3
 have d1:=(kg.cell (p:=⟨R,1,none⟩) hlt hRs).trans H.out.c1
 have d2:=(kg.cell (p:=⟨R,2,none⟩) hlt hRs).trans H.out.c2
 have dz:∀o,w3.frozen? ⟨R,o,none⟩=false:=fun o=>(kg.frozen (p:=⟨R,o,none⟩) hlt hRs).trans (H.out.z o)
 obtain ⟨fp,fc,rfl⟩:∃p c,fv=.slice p F.length c:=by obtain ⟨p,c,h⟩:=ownsLenX H.out.fo;exact ⟨p,c,h⟩
 have hl3:w.heap.size+2≤w3.heap.size:=by have:=hgrow.size;simp at this;omega
 have N3:Hid (NewB w (.slice sp S.length sc) (.slice (some ⟨g3,0,none⟩) (S.length+1) cap3)):=by
  intro b hb
  simp [Value.ownBlock] at hb
  subst hb
  rcases hat with e|e
  ·exact Or.inl e
  ·exact Or.inr (by omega)
 have K3:Hid (Kp (WSp R (.slice sp S.length sc) (.slice fp F.length fc)) w (w3.setCell ⟨R,1,none⟩ (.slice (some ⟨g3,0,none⟩) (S.length+1) cap3))):=Kp.setCell (S:=WSp R (.slice sp S.length sc) (.slice fp F.length fc)) (kg.mono (fun b _ e=>Or.inr (Or.inl e))) (p:=⟨R,1,none⟩) (Or.inr (Or.inl rfl)) _
 have hbox:∀j v,#[int .i64 0,.int .i64 0,.bool false][j]? = some v→w3.cell? ⟨w.heap.size,j,none⟩=some v:=by
  intro j v hv
  rw [hgrow.cell_far ⟨w.heap.size,j,none⟩ (by simp;omega) (by intro e;have:=(hsb w.heap.size e.symm).2;omega),←hv]
  simp [go_sem,World.cell?_alloc_at]
 have x0:=hbox 0 _ rfl
 have x1:=hbox 1 _ rfl
 have x2:=hbox 2 _ rfl
 have xz:∀o,w3.frozen? ⟨w.heap.size,o,none⟩=false:=by
  intro o
  rw [hgrow.frozen_far ⟨w.heap.size,o,none⟩ (by simp;omega) (by intro e;have:=(hsb w.heap.size e.symm).2;omega)]
  simp [go_sem,World.frozen?_alloc_at]
 have hg3:¬(slice (some ⟨g3,0,none⟩) (S.length+1) cap3).ownBlock=some w.heap.size:=by
  intro e
  simp [Value.ownBlock] at e
  subst e
  rcases hat with h|h
  ·have:=(hsb _ h).2;omega
  ·omega
 have HG3:Hid (¬(slice (some ⟨g3,0,none⟩) (S.length+1) cap3).ownBlock=some w.heap.size):=hg3
 clear hown3 hgrow hat kg O3 hbox c1 hg3
 obtain ⟨i2,hi2,hx0,hx1,hx2⟩:=info_parts Tryz.info114
 go_wp2_with (at_builtin;refine wpList_append_lies _ rfl _ _ 115 rfl (R+1) 114 i2 (.int .i64 0) 1 8 Tryz.underlying115 hi2 hx0 hx1 hx2 rfl (by decide) _ _ _ rfl (M3.out.fo.alloc _) ⟨w3.heap.size,0,none⟩ 1 1 [.int .i64 0] rfl rfl ?c1 ?c2 (by decide) ?c3 ?c4 ?c5 _ rfl ?_)
 case c1=>exact news_one _ (by simp) _ _
 case c2=>exact intsV_one [0]
 case c3=>unfold maxLen;omega
 case c4=>omega
 case c5=>simp;omega
 intro g4 cap4 w4 hown4 hgrow4 hat4 hlt4
 have kg4:Kp (fun b=>(slice fp F.length fc).ownBlock=some b) (w3.setCell ⟨R,1,none⟩ (.slice (some ⟨g3,0,none⟩) (S.length+1) cap3)) w4:=((Kp.refl _ _).alloc _).grown hgrow4 (fun b hb=>Or.inr hb)
 have O4:w4.ownsRow (R+1) 114 1 (.slice (some ⟨g4,0,none⟩) (F.length+1) cap4) (F++[0]).length (intsV (F++[0])):=by
  have e1:(F++[0]).length=F.length+1:=by simp
  have e2:intsV (F++[0])=intsV F++[.int .i64 0]:=by simp [intsV]
  rw [e1,e2];exact hown4
 have hRf:¬(slice fp F.length fc).ownBlock=some R:=by intro e;have:=(hfb R e).1;omega
 have hBf:¬(slice fp F.length fc).ownBlock=some w.heap.size:=by intro e;have:=(hfb _ e).2;omega
 have M4:Hid (WrM (w4.setCell ⟨R,2,none⟩ (.slice (some ⟨g4,0,none⟩) (F.length+1) cap4)) R nv (.slice (some ⟨g3,0,none⟩) (S.length+1) cap3) (.slice (some ⟨g4,0,none⟩) (F.length+1) cap4) (S++[st]) (F++[0])):=M3.out.grow2 kg4 O4
 have hs3:(w3.setCell ⟨R,1,none⟩ (.slice (some ⟨g3,0,none⟩) (S.length+1) cap3)).heap.size=w3.heap.size:=by simp
 have e2:=(kg4.cell (p:=⟨R,2,none⟩) (by rw [hs3];show R<_;omega) hRf).trans M3.out.c2
 have ez:∀o,w4.frozen? ⟨R,o,none⟩=false:=fun o=>(kg4.frozen (p:=⟨R,o,none⟩) (by rw [hs3];show R<_;omega) hRf).trans (M3.out.z o)
 have hRB:¬R=w.heap.size:=by omega
 have hBR:¬w.heap.size=R:=by omega
 have y0:w4.cell? ⟨w.heap.size,0,none⟩=some (.int .i64 0):=by rw [kg4.cell (p:=⟨w.heap.size,0,none⟩) (by rw [hs3];show w.heap.size<_;omega) hBf];simp [go_sem,x0,hRB,hBR]
 have y1:w4.cell? ⟨w.heap.size,1,none⟩=some (.int .i64 0):=by rw [kg4.cell (p:=⟨w.heap.size,1,none⟩) (by rw [hs3];show w.heap.size<_;omega) hBf];simp [go_sem,x1,hRB,hBR]
 have y2:w4.cell? ⟨w.heap.size,2,none⟩=some (.bool false):=by rw [kg4.cell (p:=⟨w.heap.size,2,none⟩) (by rw [hs3];show w.heap.size<_;omega) hBf];simp [go_sem,x2,hRB,hBR]
 have yz:∀o,w4.frozen? ⟨w.heap.size,o,none⟩=false:=by
  intro o
  rw [kg4.frozen (p:=⟨w.heap.size,o,none⟩) (by rw [hs3];show w.heap.size<_;omega) hBf];simp [go_sem,xz]
 have N4:Hid (NewB w (.slice fp F.length fc) (.slice (some ⟨g4,0,none⟩) (F.length+1) cap4)):=by
  intro b hb
  simp [Value.ownBlock] at hb
  subst hb
  rcases hat4 with e|e
  ·exact Or.inl e
  ·exact Or.inr (by omega)
 have K4:Hid (Kp (WSp R (.slice sp S.length sc) (.slice fp F.length fc)) w (w4.setCell ⟨R,2,none⟩ (.slice (some ⟨g4,0,none⟩) (F.length+1) cap4))):=Kp.setCell (S:=WSp R (.slice sp S.length sc) (.slice fp F.length fc)) (K3.out.trans' kg4 (fun b _ e=>Or.inr (Or.inr e))) (p:=⟨R,2,none⟩) (Or.inr (Or.inl rfl)) _
 have HG4:Hid (¬(slice (some ⟨g4,0,none⟩) (F.length+1) cap4).ownBlock=some w.heap.size):=by
  intro e
  simp [Value.ownBlock] at e
  subst e
  rcases hat4 with h|h
  ·exact hBf h
  ·omega
 clear hown4 hgrow4 hat4 kg4 O4 x0 x1 x2 xz d1 d2 dz
 go_wp2
 refine bodyPost_ret (results_cX Tryz.results103 _ _ _ ⟨w.heap.size,0,none⟩ rfl _ (load_part (p:=⟨onlyS S.length,onlyS S.length,false⟩) ?q0 ?q1 ?q2)) rfl ?_
 case q0=>simp [go_sem,y0,y1,y2,hRB,hBR]
 case q1=>simp [go_sem,y0,y1,y2,hRB,hBR]
 case q2=>simp [go_sem,y0,y1,y2,hRB,hBR]
 have kk:Kp (fun b=>b=w.heap.size) (w4.setCell ⟨R,2,none⟩ (.slice (some ⟨g4,0,none⟩) (F.length+1) cap4)) ((((w4.setCell ⟨R,2,none⟩ (.slice (some ⟨g4,0,none⟩) (F.length+1) cap4)).setCell ⟨w.heap.size,0,none⟩ (.int .i64 (onlyS S.length:Nat))).setCell ⟨w.heap.size,1,none⟩ (.int .i64 (onlyS S.length:Nat))).setCell ⟨w.heap.size,2,none⟩ (.bool false)):=(((Kp.refl (fun b=>b=w.heap.size) _).setCell (p:=⟨w.heap.size,0,none⟩) (Or.inr rfl) _).setCell (p:=⟨w.heap.size,1,none⟩) (Or.inr rfl) _).setCell (p:=⟨w.heap.size,2,none⟩) (Or.inr rfl) _
 exact ⟨_,_,rfl,M4.out.off kk hRB HG3.out HG4.out,K4.out.trans' kk (by intro b hb e;omega),N3.out,N4.out⟩
end Go.Proofs.YtcboiapggnmpfabGreat
