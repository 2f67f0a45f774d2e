import Derived.Test.YtcboiapggnmpfabGreatQak
import Derived.Deep.MidRow
namespace Go.Proofs.YtcboiapggnmpfabGreat
set_option maxRecDepth 100000
set_option maxHeartbeats 1000000
set_option linter.unusedSimpArgs false
set_option linter.unusedVariables false
open Go.RowKit
section
theorem results_ctt {fn:Func} {a u v:Tmp} {t:TypeId} (h:fn.results=#[.cell a t,.tmp u,.tmp v]) (tmps:Array Value) (P:Program) (w:World) (b:Addr) (hp:tmps.getD a undef=.pointer (some b)) (x:Value) (hl:(loadVar t b).run P w=.ok x w):(results fn tmps).run P w=.ok (.tuple #[x,tmps.getD u undef,tmps.getD v undef]) w:=by
 have hp':tmps[a]?.getD undef=.pointer (some b):=by simpa using hp
 simp [results,h,hp',asAddr,hl]
theorem Tryz.rowP:(Tryz.prog.underlying 84).map TypeDesc.isRow=some true:=by kernel_rfl
theorem Tryz.sizeP:(Tryz.prog.info? 84).map (·.size)=some 4:=by kernel_rfl
structure PAt (w:World) (B:Nat) (a b c d:Value):Prop where
 c0:w.cell? ⟨B,0,none⟩=some a
 c1:w.cell? ⟨B,1,none⟩=some b
 c2:w.cell? ⟨B,2,none⟩=some c
 c3:w.cell? ⟨B,3,none⟩=some d
 fz:∀o,w.frozen? ⟨B,o,none⟩=false
theorem PAt.sm {w w':World} {B:Nat} {a b c d:Value} (h:PAt w B a b c d) (s:Sm w w' B):PAt w' B a b c d :=
 ⟨(s.cell 0).trans h.c0,(s.cell 1).trans h.c1,(s.cell 2).trans h.c2,(s.cell 3).trans h.c3,fun o=>(s.froz o).trans (h.fz o)⟩
theorem PAt.lt {w:World} {B:Nat} {a b c d:Value} (h:PAt w B a b c d):B<w.heap.size:=World.block_lt_of_cell? w ⟨B,0,none⟩ h.c0
theorem PAt.load {w:World} {B:Nat} {a b c d:Value} (h:PAt w B a b c d):(loadVar 84 ⟨B,0,none⟩).run Tryz.prog w=.ok (.agg #[a,b,c,d]) w:=by
 obtain ⟨dd,hu,hd⟩:=Option.map_eq_some_iff.1 Tryz.rowP
 refine run_loadVar_mid w B 0 84 [a,b,c,d] dd ?_ hu hd Tryz.sizeP
 intro k v hv
 rw [Nat.zero_add]
 match k,hv with
 | 0,hv=>simp at hv;rw [h.c0,hv]
 | 1,hv=>simp at hv;rw [h.c1,hv]
 | 2,hv=>simp at hv;rw [h.c2,hv]
 | 3,hv=>simp at hv;rw [h.c3,hv]
def ReadPO (s : ByteArray) (w : World) (e : Ending) (w' : World) : Prop :=
  Nw w w' ∧
  ((∃ (j : Nat) (x : List Tok), pTopOf (pAtom 8) (toks 0 (bI s)) = (none, x) ∧ At s j x ∧ e = .returned (.tuple #[.agg #[.slice none 0 0, .slice none 0 0, .bool false, .int .i64 0], .bool false, .int .i64 j])) ∨
   (∃ (t : AltOf (Atom 8)) (win : Option Int) (nv sv : Value) (L : List (St × Value)) (x : List Tok), pTopOf (pAtom 8) (toks 0 (bI s)) = (some (t, win), x) ∧
      e = .returned (.tuple #[.agg #[nv, sv, .bool win.isSome, .int .i64 (win.getD 0)], .bool true, .int .i64 0]) ∧
      w'.ownsRow w.heap.size 186 6 nv ((altTr (atomTr 8) t).nd 0 0).length (ndsC ((altTr (atomTr 8) t).nd 0 0)) ∧ w'.ownsRow w.heap.size 112 4 sv L.length (stsC L) ∧
      (∀ x ∈ L, w'.ownsRow w.heap.size 60 11 x.2 x.1.tests.length (tstsC x.1.tests)) ∧ L.map Prod.fst = (altTr (atomTr 8) t).steps))
theorem rd_new (w:World) (s:ByteArray) (t:TypeId) {R:Nat} (hR:R=w.heap.size):Rd (w.alloc (.cells #[.string s,.int .i64 0,.slice none 0 0,.slice none 0 0] t)) R s 0 (.slice none 0 0) (.slice none 0 0):=by
 subst hR
 constructor <;> simp [go_sem,World.cell?_alloc_at,World.frozen?_alloc_at]
theorem pat_new (w:World) (t:TypeId) {B:Nat} (hB:B=w.heap.size):PAt (w.alloc (.cells #[.slice none 0 0,.slice none 0 0,.bool false,.int .i64 0] t)) B (.slice none 0 0) (.slice none 0 0) (.bool false) (.int .i64 0):=by
 subst hB
 constructor <;> simp [go_sem,World.cell?_alloc_at,World.frozen?_alloc_at]
section
variable {α:Type} {pa:List Tok→Option α×List Tok} {f:α→Nt}
theorem pTop_none {l:List Tok} (h:(altR pa f l).1=none):pTopOf pa l=(none,(altR pa f l).2):=by
 simp only [altR] at h ⊢
 cases hp:pAlt pa l with
 | mk o x=>cases o with
  | none=>simp [pTopOf,hp]
  | some a=>rw [hp] at h;simp at h
theorem pTop_some {l:List Tok} {u:Nt} (h:(altR pa f l).1=some u):∃t,u=altTr f t∧pAlt pa l=(some t,(altR pa f l).2):=by
 simp only [altR] at h ⊢
 cases hp:pAlt pa l with
 | mk o x=>cases o with
  | none=>rw [hp] at h;simp at h
  | some a=>rw [hp] at h;simp at h;exact ⟨a,h.symm,rfl⟩
theorem pTop_end {l:List Tok} {t:AltOf α} (h:pAlt pa l=(some t,[])):pTopOf pa l=(some (t,none),[]):=by simp [pTopOf,h]
theorem pTop_other {l x:List Tok} {t:AltOf α} (h:pAlt pa l=(some t,x)) (h0:¬x=[]) (h64:¬hd x=64):pTopOf pa l=(none,x):=by
 match x,h0,h64 with
 | (c,p)::r,_,h64=>simp only [hd] at h64;simp [pTopOf,h,h64]
theorem pTop_w1 {l r x:List Tok} {p:Nat} {t:AltOf α} (h:pAlt pa l=(some t,(64,p)::r)) (hn:pNum 0 0 r=(none,x)):pTopOf pa l=(none,x):=by simp [pTopOf,h,hn]
theorem pTop_w2 {l r:List Tok} {p:Nat} {v:Int} {t:AltOf α} (h:pAlt pa l=(some t,(64,p)::r)) (hn:pNum 0 0 r=(some v,[])):pTopOf pa l=(some (t,some v),[]):=by simp [pTopOf,h,hn]
theorem pTop_w3 {l r y:List Tok} {x:Tok} {p:Nat} {v:Int} {t:AltOf α} (h:pAlt pa l=(some t,(64,p)::r)) (hn:pNum 0 0 r=(some v,x::y)):pTopOf pa l=(none,x::y):=by simp [pTopOf,h,hn]
end
theorem PAt.drew {w:World} {B:Nat} {a b c d:Value} (h:PAt w B a b c d):PAt w.drew B a b c d:=⟨h.c0,h.c1,h.c2,h.c3,h.fz⟩
theorem PAt.set {w:World} {B:Nat} {a b c d:Value} (h:PAt w B a b c d) (a' b' c' d':Value):PAt ((((w.setCell ⟨B,0,none⟩ a').setCell ⟨B,1,none⟩ b').setCell ⟨B,2,none⟩ c').setCell ⟨B,3,none⟩ d') B a' b' c' d':=by
 obtain ⟨c0,c1,c2,c3,fz⟩:=h
 constructor <;> simp [go_sem,c0,c1,c2,c3,fz]
theorem readP_any (s:ByteArray) (w:World) (hs:s.size≤1000):Calls Tryz.prog 46 #[.string s] w (ReadPO s w):=by
 have hm:s.size≤maxLen:=by unfold maxLen;omega
 go_enter Tryz.func46,Tryz.ntmps46
 go_wp2_with fail
 refine (passBlanks_any s (w.heap.size+1) 0 (.slice none 0 0) (.slice none 0 0) _ (rd_new _ s _ (by simp)) hm (Nat.zero_le _)).mono ?_
 rintro e w1 ⟨rfl,j1,_,hj1,ht,hb,r1,k1⟩
 have A1:Hid (At s j1 (toks 0 (bI s))):=⟨hj1,by simpa using ht,hb⟩
 have P1:Hid (PAt w1 w.heap.size (.slice none 0 0) (.slice none 0 0) (.bool false) (.int .i64 0)):=by
  have h0:=pat_new w 84 (B:=w.heap.size) rfl
  have h1:=h0.sm (((Kp.refl (fun _=>False) _).alloc (.cells #[.string s,.int .i64 0,.slice none 0 0,.slice none 0 0] 142)).sm h0.lt (fun h=>h))
  exact h1.sm (k1.sm h1.lt (by omega))
 have Q1:Hid (RS w1 (w.heap.size+1) s j1 (.slice none 0 0) (.slice none 0 0) [] []):=⟨r1,World.ownsRow_nil _ _ _ _,World.ownsRow_nil _ _ _ _,by simp⟩
 have K1:Hid (Nw w w1):=(((Kp.refl _ w).alloc _).alloc _).trans' k1 (by intro b hb e;omega)
 have hll:(toks 0 (bI s)).length≤s.size:=A1.out.length
 generalize hl:toks 0 (bI s)=l at A1 hll
 have HL:Hid (toks 0 (bI s)=l):=hl
 clear hj1 ht hb r1 k1 hl
 go_wp2_with fail
 refine (readAlt_top s (w.heap.size+1) j1 (.slice none 0 0) (.slice none 0 0) [] [] l w1 Q1.out hs A1.out (by simp;omega) (by simp)).mono ?_
 rintro e w2 ⟨j2,nv2,sv2,a2,k2,h2⟩
 have A2:Hid (At s j2 (altR (pAtom 8) (atomTr 8) l).2):=a2
 have P2:Hid (PAt w2 w.heap.size (.slice none 0 0) (.slice none 0 0) (.bool false) (.int .i64 0)):=P1.out.sm (k2.sm P1.out.lt (by omega))
 have K2:Hid (Nw w w2):=K1.out.trans' k2 (by intro b hb e;omega)
 have hPl:=P2.out.lt
 have HKS:Hid (∀a b c d,Nw w ((((w2.setCell ⟨w.heap.size,0,none⟩ a).setCell ⟨w.heap.size,1,none⟩ b).setCell ⟨w.heap.size,2,none⟩ c).setCell ⟨w.heap.size,3,none⟩ d)):=fun a b c d=>(((K2.out.setCell (p:=⟨w.heap.size,0,none⟩) (Or.inl (Nat.le_refl _)) _).setCell (p:=⟨w.heap.size,1,none⟩) (Or.inl (Nat.le_refl _)) _).setCell (p:=⟨w.heap.size,2,none⟩) (Or.inl (Nat.le_refl _)) _).setCell (p:=⟨w.heap.size,3,none⟩) (Or.inl (Nat.le_refl _)) _
 clear a2 k2 P1 Q1 K1 A1
 rcases h2 with ⟨hn,rfl,r2⟩ | ⟨u,Ls,z,hu,rfl,hz,q2,hls⟩
 ·have HT:Hid (pTopOf (pAtom 8) l=(none,(altR (pAtom 8) (atomTr 8) l).2)):=pTop_none hn
  have c1:=r2.c1
  have hRP:¬w.heap.size+1=w.heap.size:=by omega
  obtain ⟨p0,p1,p2,p3,pz⟩:=P2.out
  clear hn
  go_wp2
  go_region
  all_goals
   go_wp2
   refine bodyPost_ret (results_ctt Tryz.results46 _ _ _ ⟨w.heap.size,0,none⟩ rfl _ (P2.out.set _ _ _ _).drew.load) rfl ?_
   refine ⟨(HKS.out _ _ _ _).drew,Or.inl ⟨j2,_,?_,A2.out,rfl⟩⟩
   rw [HL.out,HT.out]
 ·obtain ⟨t,ht,hpa⟩:=pTop_some hu
  subst ht
  have hnv:∃p n c,nv2=.slice p n c:=by
   obtain ⟨p,c,h⟩:=ownsLenX q2.nodes
   exact ⟨p,_,c,h⟩
  have hsv:∃p n c,sv2=.slice p n c:=by
   obtain ⟨p,c,h⟩:=ownsLenX q2.steps
   exact ⟨p,_,c,h⟩
  obtain ⟨np,nn,nc,rfl⟩:=hnv
  obtain ⟨sp,sn,sc,rfl⟩:=hsv
  have HPA:Hid (pAlt (pAtom 8) l=(some t,(altR (pAtom 8) (atomTr 8) l).2)):=hpa
  have Q2:Hid (RS w2 (w.heap.size+1) s j2 (.slice np nn nc) (.slice sp sn sc) ((altTr (atomTr 8) t).nd 0 0) Ls):=by
   have:=q2
   simp only [List.nil_append,List.length_nil] at this
   exact this
  have HLS:Hid (Ls.map Prod.fst=(altTr (atomTr 8) t).steps):=hls
  generalize hx:(altR (pAtom 8) (atomTr 8) l).2=x at A2 HPA
  obtain ⟨b0,b1⟩:=A2.out.hd_bounds
  clear hu hz q2 hls hpa hx
  go_wp2_with fail
  refine (peek_at Q2.out.rd hm A2.out).mono ?_
  rintro e w3 ⟨rfl,n3,rfl⟩
  have Q3:Hid (RS (w2.drewN n3) (w.heap.size+1) s j2 (.slice np nn nc) (.slice sp sn sc) ((altTr (atomTr 8) t).nd 0 0) Ls):=Q2.out.drewN n3
  have P3:Hid (PAt (w2.drewN n3) w.heap.size (.slice none 0 0) (.slice none 0 0) (.bool false) (.int .i64 0)):=⟨P2.out.c0,P2.out.c1,P2.out.c2,P2.out.c3,P2.out.fz⟩
  have K3:Hid (Nw w (w2.drewN n3)):=K2.out.drewN n3
  have hPl3:w.heap.size<(w2.drewN n3).heap.size:=hPl
  clear Q2 P2 K2 HKS hPl
  generalize w2.drewN n3=w4 at Q3 P3 K3 hPl3
  have HKS:Hid (∀W,Nw w W→∀a b c d,Nw w ((((W.setCell ⟨w.heap.size,0,none⟩ a).setCell ⟨w.heap.size,1,none⟩ b).setCell ⟨w.heap.size,2,none⟩ c).setCell ⟨w.heap.size,3,none⟩ d)):=fun W k a b c d=>(((k.setCell (p:=⟨w.heap.size,0,none⟩) (Or.inl (Nat.le_refl _)) _).setCell (p:=⟨w.heap.size,1,none⟩) (Or.inl (Nat.le_refl _)) _).setCell (p:=⟨w.heap.size,2,none⟩) (Or.inl (Nat.le_refl _)) _).setCell (p:=⟨w.heap.size,3,none⟩) (Or.inl (Nat.le_refl _)) _
  have HOK:Hid (∀(W:World) (j:Nat) (win:Option Int) (y:List Tok),RS W (w.heap.size+1) s j (.slice np nn nc) (.slice sp sn sc) ((altTr (atomTr 8) t).nd 0 0) Ls→Nw w W→pTopOf (pAtom 8) l=(some (t,win),y)→∀a b c d,
    ReadPO s w (.returned (.tuple #[.agg #[.slice np nn nc,.slice sp sn sc,.bool win.isSome,.int .i64 (win.getD 0)],.bool true,.int .i64 0])) ((((W.setCell ⟨w.heap.size,0,none⟩ a).setCell ⟨w.heap.size,1,none⟩ b).setCell ⟨w.heap.size,2,none⟩ c).setCell ⟨w.heap.size,3,none⟩ d)):=by
   intro W j win y q k he a b c d
   have kk:Kp (fun b=>b=w.heap.size) W ((((W.setCell ⟨w.heap.size,0,none⟩ a).setCell ⟨w.heap.size,1,none⟩ b).setCell ⟨w.heap.size,2,none⟩ c).setCell ⟨w.heap.size,3,none⟩ d):=((((Kp.refl (fun b=>b=w.heap.size) W).setCell (p:=⟨w.heap.size,0,none⟩) (Or.inr rfl) _).setCell (p:=⟨w.heap.size,1,none⟩) (Or.inr rfl) _).setCell (p:=⟨w.heap.size,2,none⟩) (Or.inr rfl) _).setCell (p:=⟨w.heap.size,3,none⟩) (Or.inr rfl) _
   have ow:∀ {e size v n xs},W.ownsRow (w.heap.size+1+1) e size v n xs→((((W.setCell ⟨w.heap.size,0,none⟩ a).setCell ⟨w.heap.size,1,none⟩ b).setCell ⟨w.heap.size,2,none⟩ c).setCell ⟨w.heap.size,3,none⟩ d).ownsRow w.heap.size e size v n xs:=by
    intro e size v n xs ho
    exact ownsBaseX (ownsKpX ho kk (fun g hg e=>by have:=(ho.lt g hg).1;omega)) (by omega)
   exact ⟨HKS.out W k a b c d,Or.inr ⟨t,win,.slice np nn nc,.slice sp sn sc,Ls,y,by rw [HL.out,he],rfl,ow q.nodes,ow q.steps,fun x hx=>ow (q.tests x hx),HLS.out⟩⟩
  by_cases h64:hd x=64
  ·obtain ⟨p,r,rfl⟩:=hd_cons_of h64 (by omega)
   simp only [hd]
   go_wp2_with fail
   refine (pass_any s (w.heap.size+1) j2 (.slice np nn nc) (.slice sp sn sc) 64 p r _ Q3.out.rd hm A2.out).mono ?_
   rintro e w5 ⟨rfl,j5,a5,r5,k5⟩
   have Q5:Hid (RS w5 (w.heap.size+1) s j5 (.slice np nn nc) (.slice sp sn sc) ((altTr (atomTr 8) t).nd 0 0) Ls):=Q3.out.kp k5 r5
   have P5:Hid (PAt w5 w.heap.size (.slice none 0 0) (.slice none 0 0) (.bool false) (.int .i64 0)):=P3.out.sm (k5.sm hPl3 (by omega))
   have K5:Hid (Nw w w5):=K3.out.trans' k5 (by intro b hb e;omega)
   have A5:Hid (At s j5 r):=a5
   have hPl5:=P5.out.lt
   clear a5 r5 k5
   go_wp2_with fail
   refine (readNumber_any s (w.heap.size+1) j5 (.slice np nn nc) (.slice sp sn sc) r _ Q5.out.rd hm A5.out).mono ?_
   rintro e w6 ⟨v,b,rfl,hv,j6,a6,r6,k6⟩
   have Q6:Hid (RS w6 (w.heap.size+1) s j6 (.slice np nn nc) (.slice sp sn sc) ((altTr (atomTr 8) t).nd 0 0) Ls):=Q5.out.kp k6 r6
   have P6:Hid (PAt w6 w.heap.size (.slice none 0 0) (.slice none 0 0) (.bool false) (.int .i64 0)):=P5.out.sm (k6.sm hPl5 (by omega))
   have K6:Hid (Nw w w6):=K5.out.trans' k6 (by intro b hb e;omega)
   have A6:Hid (At s j6 (pNum 0 0 r).2):=a6
   have c1:=r6.c1
   have c2:=r6.c2
   have c3:=r6.c3
   obtain ⟨p0,p1,p2,p3,pz⟩:=P6.out
   have HV:Hid ((pNum 0 0 r).1=(if b=true then some v else none)):=hv
   have hj6:=a6.1
   clear a6 r6 k6 hv Q5 P5 K5
   cases b with
   | false =>
    have HT:Hid (pTopOf (pAtom 8) l=(none,(pNum 0 0 r).2)):=pTop_w1 HPA.out (by have:=HV.out;simp at this;rw [←this])
    go_wp2
    go_region
    all_goals
     go_wp2
     refine bodyPost_ret (results_ctt Tryz.results46 _ _ _ ⟨w.heap.size,0,none⟩ rfl _ (P6.out.set _ _ _ _).drew.load) rfl ?_
     refine ⟨(HKS.out _ K6.out _ _ _ _).drew,Or.inl ⟨j6,_,?_,A6.out,rfl⟩⟩
     rw [HL.out,HT.out]
   | true =>
    have hp:pNum 0 0 r=(some v,(pNum 0 0 r).2):=by have:=HV.out;simp at this;rw [←this]
    generalize hy:(pNum 0 0 r).2=y at A6 hp
    have HP:Hid (pNum 0 0 r=(some v,y)):=hp
    clear hp hy HV
    match y,A6,HP with
    | [],A6,HP =>
     have hje:=A6.out.nil
     have HT:Hid (pTopOf (pAtom 8) l=(some (t,some v),[])):=pTop_w2 HPA.out HP.out
     subst hje
     go_wp2
     refine bodyPost_ret (results_ctt Tryz.results46 _ _ _ ⟨w.heap.size,0,none⟩ rfl _ (P6.out.set _ _ _ _).load) rfl ?_
     exact HOK.out _ _ (some v) _ Q6.out K6.out HT.out _ _ _ _
    | x::y,A6,HP =>
     obtain ⟨hjl,_⟩:=A6.out.cons
     have HT:Hid (pTopOf (pAtom 8) l=(none,x::y)):=pTop_w3 HPA.out HP.out
     go_wp2
     go_region
     all_goals
      go_wp2
      refine bodyPost_ret (results_ctt Tryz.results46 _ _ _ ⟨w.heap.size,0,none⟩ rfl _ (P6.out.set _ _ _ _).drew.load) rfl ?_
      refine ⟨(HKS.out _ K6.out _ _ _ _).drew,Or.inl ⟨j6,_,?_,A6.out,rfl⟩⟩
      rw [HL.out,HT.out]
  ·have h64':(hd x == 64)=false:=by simp [h64]
   have c1:=Q3.out.rd.c1
   have c2:=Q3.out.rd.c2
   have c3:=Q3.out.rd.c3
   obtain ⟨p0,p1,p2,p3,pz⟩:=P3.out
   have H64:Hid (¬hd x=64):=h64
   clear h64
   match x,A2,HPA,H64,h64' with
   | [],A2,HPA,H64,h64' =>
    have hje:=A2.out.nil
    have HT:Hid (pTopOf (pAtom 8) l=(some (t,none),[])):=pTop_end HPA.out
    subst hje
    go_wp2
    refine bodyPost_ret (results_ctt Tryz.results46 _ _ _ ⟨w.heap.size,0,none⟩ rfl _ (P3.out.set _ _ _ _).load) rfl ?_
    exact HOK.out _ _ none _ Q3.out K3.out HT.out _ _ _ _
   | (c,p)::ys,A2,HPA,H64,h64' =>
    obtain ⟨hjl,_⟩:=A2.out.cons
    have HT:Hid (pTopOf (pAtom 8) l=(none,(c,p)::ys)):=pTop_other HPA.out (by simp) H64.out
    simp only [hd] at h64' b0 b1 ⊢
    go_wp2
    go_region
    all_goals
     go_wp2
     refine bodyPost_ret (results_ctt Tryz.results46 _ _ _ ⟨w.heap.size,0,none⟩ rfl _ (P3.out.set _ _ _ _).drew.load) rfl ?_
     refine ⟨(HKS.out _ K3.out _ _ _ _).drew,Or.inl ⟨j2,_,?_,A2.out,rfl⟩⟩
     rw [HL.out,HT.out]
end
def scF (l:List Int) (i:Nat):Int:=if h:i<l.length then l[i] - 48 else 0
def schV (l:List Int):Value:=.agg #[.int .i64 l.length,.int .i64 (scF l 0),.int .i64 (scF l 1),.int .i64 (scF l 2),.int .i64 (scF l 3)]
def hasK (l:List Int) (k:Int):Bool:=decide (0≤k)&&decide (k<l.length)
def hasFd (l:List Int) (k f:Int):Bool:=decide (f=0)||(hasK l k&&decide (1≤f)&&decide (f≤scF l k.toNat))
theorem has_any (l:List Int) (k:Int) (w:World) (hl:l.length≤4) :
  Calls Tryz.prog 61 #[schV l,.int .i64 k] w fun e w'=>e=.returned (.bool (hasK l k))∧Nw w w':=by
 unfold schV hasK
 by_cases h0:0≤k
 ·have h1:decide (0≤k)=true:=decide_eq_true h0
  rw [h1]
  go_enter Tryz.func61,Tryz.ntmps61
  go_wp2
  go_ret
  exact ⟨by simp,(Kp.refl _ _).alloc _⟩
 ·have h1:decide (0≤k)=false:=decide_eq_false h0
  rw [h1]
  go_enter Tryz.func61,Tryz.ntmps61
  go_wp2
  go_ret
  exact ⟨by simp,(Kp.refl _ _).alloc _⟩
theorem hasField_any (l:List Int) (k f:Int) (w:World) (hl:l.length≤4) :
  Calls Tryz.prog 62 #[schV l,.int .i64 k,.int .i64 f] w fun e w'=>e=.returned (.bool (hasFd l k f))∧Nw w w':=by
 by_cases hf:f=0
 ·subst hf
  have e:hasFd l k 0=true:=by simp [hasFd]
  rw [e]
  unfold schV
  go_enter Tryz.func62,Tryz.ntmps62
  go_wp2
  go_ret
  exact ⟨rfl,(Kp.refl _ _).alloc _⟩
 ·have hf':(f == 0)=false:=by simp [hf]
  have e:hasFd l k f=(hasK l k&&decide (1≤f)&&decide (f≤scF l k.toNat)):=by simp [hasFd,hf]
  rw [e]
  generalize hk:hasK l k=K
  have HK:Hid (hasK l k=K):=hk
  have hkb:K=true→0≤k∧k<4:=by
   intro h
   rw [←hk] at h
   simp only [hasK,Bool.and_eq_true,decide_eq_true_eq] at h
   omega
  clear hk e hf
  unfold schV
  go_enter Tryz.func62,Tryz.ntmps62
  go_wp2_with fail
  refine (has_any l k _ hl).mono ?_
  rw [HK.out]
  rintro e1 w1 ⟨rfl,k1⟩
  obtain ⟨kk,hlt,⟨kc,kz⟩⟩:=k1.box (fun h=>h)
  have K1:Hid (Nw w w1):=kk
  clear k1 kk
  cases K with
  | false =>
   go_wp2
   go_ret
   exact ⟨by simp,K1.out⟩
  | true =>
   obtain ⟨h0,h4⟩:=hkb rfl
   clear hkb
   have hk4:k=0∨k=1∨k=2∨k=3:=by omega
   rcases hk4 with rfl|rfl|rfl|rfl
   all_goals
    by_cases h1:1≤f
    ·have h1':decide (1≤f)=true:=decide_eq_true h1
     go_wp2
     go_ret
     exact ⟨ret_b (by simp [h1]),K1.out⟩
    ·have h1':decide (1≤f)=false:=decide_eq_false h1
     go_wp2
     go_ret
     exact ⟨ret_b (by simp;intro h;omega),K1.out⟩
theorem results_ct {fn:Func} {a u:Tmp} {t:TypeId} (h:fn.results=#[.cell a t,.tmp u]) (tmps:Array Value) (P:Program) (w:World) (b:Addr) (hp:tmps.getD a undef=.pointer (some b)) (x:Value) (hl:(loadVar t b).run P w=.ok x w):(results fn tmps).run P w=.ok (.tuple #[x,tmps.getD u undef]) w:=by
 have hp':tmps[a]?.getD undef=.pointer (some b):=by simpa using hp
 simp [results,h,hp',asAddr,hl]
theorem Tryz.rowK:(Tryz.prog.underlying 75).map TypeDesc.isRow=some true:=by kernel_rfl
theorem Tryz.sizeK:(Tryz.prog.info? 75).map (·.size)=some 5:=by kernel_rfl
structure F5 (w:World) (B:Nat) (a b c d e:Int):Prop where
 c0:w.cell? ⟨B,0,none⟩=some (.int .i64 a)
 c1:w.cell? ⟨B,1,none⟩=some (.int .i64 b)
 c2:w.cell? ⟨B,2,none⟩=some (.int .i64 c)
 c3:w.cell? ⟨B,3,none⟩=some (.int .i64 d)
 c4:w.cell? ⟨B,4,none⟩=some (.int .i64 e)
 fz:∀o,w.frozen? ⟨B,o,none⟩=false
theorem F5.load {w:World} {B:Nat} {a b c d e:Int} (h:F5 w B a b c d e):(loadVar 75 ⟨B,0,none⟩).run Tryz.prog w=.ok (.agg #[.int .i64 a,.int .i64 b,.int .i64 c,.int .i64 d,.int .i64 e]) w:=by
 obtain ⟨dd,hu,hd⟩:=Option.map_eq_some_iff.1 Tryz.rowK
 refine run_loadVar_mid w B 0 75 [.int .i64 a,.int .i64 b,.int .i64 c,.int .i64 d,.int .i64 e] dd ?_ hu hd Tryz.sizeK
 intro k v hv
 rw [Nat.zero_add]
 match k,hv with
 | 0,hv=>simp at hv;rw [h.c0,hv]
 | 1,hv=>simp at hv;rw [h.c1,hv]
 | 2,hv=>simp at hv;rw [h.c2,hv]
 | 3,hv=>simp at hv;rw [h.c3,hv]
 | 4,hv=>simp at hv;rw [h.c4,hv]
theorem F5.new (w:World) (t:TypeId) {B:Nat} (hB:B=w.heap.size):F5 (w.alloc (.cells #[.int .i64 0,.int .i64 0,.int .i64 0,.int .i64 0,.int .i64 0] t)) B 0 0 0 0 0:=by
 subst hB
 constructor <;> simp [go_sem,World.cell?_alloc_at,World.frozen?_alloc_at]
theorem F5.sm {w w':World} {B:Nat} {a b c d e:Int} (h:F5 w B a b c d e) (s:Sm w w' B):F5 w' B a b c d e :=
 ⟨(s.cell 0).trans h.c0,(s.cell 1).trans h.c1,(s.cell 2).trans h.c2,(s.cell 3).trans h.c3,(s.cell 4).trans h.c4,fun o=>(s.froz o).trans (h.fz o)⟩
theorem F5.lt {w:World} {B:Nat} {a b c d e:Int} (h:F5 w B a b c d e):B<w.heap.size:=World.block_lt_of_cell? w ⟨B,0,none⟩ h.c0
def fK (l:List Int) (k j:Nat):Int:=if j<k then scF l j else 0
def digB (c:Int):Bool:=c == 48||c == 49||c == 50||c == 51
theorem digB_iff (c:Int):digB c=true↔48≤c∧c≤51:=by simp [digB];omega
theorem bI_get (s:ByteArray) (k:Nat) (h:k<s.size):(bI s)[k]? = some (s[k].toNat:Int):=by
 have:=bI_drop s k h
 have h2:((bI s).drop k)[0]? = some (s[k].toNat:Int):=by rw [this];rfl
 simpa using h2
theorem scF_at (s:ByteArray) (k:Nat) (h:k<s.size):scF (bI s) k=(s[k].toNat:Int) - 48:=by
 have hl:k<(bI s).length:=by rw [bI_length];exact h
 have:=bI_get s k h
 rw [List.getElem?_eq_getElem hl] at this
 simp only [Option.some.injEq] at this
 simp [scF,hl,this]
theorem fK_step (l:List Int) (k j:Nat):fK l (k+1) j=if j=k then scF l j else fK l k j:=by
 unfold fK
 by_cases h:j=k
 ·subst h;simp
 ·rw [if_neg h]
  by_cases h2:j<k
  ·rw [if_pos h2,if_pos (by omega)]
  ·rw [if_neg h2,if_neg (by omega)]
def KindsPost (s:ByteArray) (w:World) (e:Ending) (w':World):Prop :=
 Nw w w'∧((schemaB (bI s)=true∧e=.returned (.tuple #[schV (bI s),.bool true]))∨(schemaB (bI s)=false∧e=.returned (.tuple #[.agg #[.int .i64 0,.int .i64 0,.int .i64 0,.int .i64 0,.int .i64 0],.bool false])))
theorem readK_any (s:ByteArray) (w:World) (hs:s.size≤maxLen):Calls Tryz.prog 37 #[.string s] w (KindsPost s w):=by
 unfold maxLen at hs
 have HF:Hid (∀W:World,F5 W w.heap.size 0 0 0 0 0→F5 (((((W.setCell ⟨w.heap.size,0,none⟩ (.int .i64 0)).setCell ⟨w.heap.size,1,none⟩ (.int .i64 0)).setCell ⟨w.heap.size,2,none⟩ (.int .i64 0)).setCell ⟨w.heap.size,3,none⟩ (.int .i64 0)).setCell ⟨w.heap.size,4,none⟩ (.int .i64 0)) w.heap.size 0 0 0 0 0):=by
  rintro W ⟨c0,c1,c2,c3,c4,fz⟩
  constructor <;> simp [go_sem,c0,c1,c2,c3,c4,fz]
 have HK:Hid (∀W:World,Nw w W→∀a b c d e,Nw w (((((W.setCell ⟨w.heap.size,0,none⟩ a).setCell ⟨w.heap.size,1,none⟩ b).setCell ⟨w.heap.size,2,none⟩ c).setCell ⟨w.heap.size,3,none⟩ d).setCell ⟨w.heap.size,4,none⟩ e)):=fun W k a b c d e=>((((k.setCell (p:=⟨w.heap.size,0,none⟩) (Or.inl (Nat.le_refl _)) _).setCell (p:=⟨w.heap.size,1,none⟩) (Or.inl (Nat.le_refl _)) _).setCell (p:=⟨w.heap.size,2,none⟩) (Or.inl (Nat.le_refl _)) _).setCell (p:=⟨w.heap.size,3,none⟩) (Or.inl (Nat.le_refl _)) _).setCell (p:=⟨w.heap.size,4,none⟩) (Or.inl (Nat.le_refl _)) _
 by_cases h0:s.size<1∨4<s.size
 ·have hsb:schemaB (bI s)=false:=by
   simp only [schemaB,bI_length,Bool.and_eq_false_iff,decide_eq_false_iff_not]
   rcases h0 with h|h
   ·exact Or.inl (Or.inr (by omega))
   ·exact Or.inr (by omega)
  have HSB:Hid (schemaB (bI s)=false):=hsb
  clear hsb
  rcases h0 with h|h
  all_goals
   go_enter Tryz.func37,Tryz.ntmps37
   go_wp2
   refine bodyPost_ret (results_ct Tryz.results37 _ _ _ ⟨w.heap.size,0,none⟩ rfl _ (((F5.new w _ rfl).sm (((Kp.refl (fun _=>False) _).alloc _).sm (F5.new w _ rfl).lt (fun h=>h))).load)) rfl ?_
   exact ⟨((Kp.refl _ _).alloc _).alloc _,Or.inr ⟨HSB.out,rfl⟩⟩
 ·have hs1:1≤s.size:=by omega
  have hs4:s.size≤4:=by omega
  clear h0
  go_enter Tryz.func37,Tryz.ntmps37
  go_wp2
  go_loopg [5] s.size (fun m v5 wr=>∃i:Nat,v5=.int .i64 i∧m=s.size - i∧i≤s.size∧(∀(j:Nat) (h:j<s.size),j<i→digB (s[j].toNat:Int)=true)∧F5 wr w.heap.size 0 0 0 0 0∧F5 wr (w.heap.size+1) 0 (fK (bI s) i 0) (fK (bI s) i 1) (fK (bI s) i 2) (fK (bI s) i 3)∧Nw w wr)
  case atStart =>
   have h1:=(F5.new w 75 (B:=w.heap.size) rfl)
   refine ⟨0,rfl,rfl,by omega,(fun j _ h=>by omega),h1.sm (((Kp.refl (fun _=>False) _).alloc _).sm h1.lt (fun h=>h)),F5.new _ _ (by simp),((Kp.refl _ _).alloc _).alloc _⟩
  case round =>
   obtain ⟨i,rfl,hm,hi,hd,f1,f2,hk⟩:=hrel
   have HD:Hid (∀(j:Nat) (h:j<s.size),j<i→digB (s[j].toNat:Int)=true):=hd
   have HM:Hid (_=s.size - i):=hm
   have F1:Hid (F5 wr w.heap.size 0 0 0 0 0):=f1
   have F2:Hid (F5 wr (w.heap.size+1) 0 (fK (bI s) i 0) (fK (bI s) i 1) (fK (bI s) i 2) (fK (bI s) i 3)):=f2
   have HN:Hid (Nw w wr):=hk
   have hlt:=f2.lt
   clear hd hm hk
   by_cases hil:i<s.size
   ·have hb1:(s[i].toNat:Int)≤255:=by have:=s[i].toNat_lt;omega
    have HSC:Hid (scF (bI s) i=(s[i].toNat:Int) - 48):=scF_at s i hil
    by_cases hdg:digB (s[i].toNat:Int)=true
    ·have hbd:=(digB_iff _).1 hdg
     have HDG:Hid (digB (s[i].toNat:Int)=true):=hdg
     obtain ⟨c0,c1,c2,c3,c4,fz⟩:=f2
     have hi4:i=0∨i=1∨i=2∨i=3:=by omega
     have HNX:Hid (∀j (h:j<s.size),j<i+1→digB (s[j].toNat:Int)=true):=by
      intro j h hj
      by_cases e:j=i
      ·subst e;exact HDG.out
      ·exact HD.out j h (by omega)
     clear f1 hdg
     have HW:Hid (∀v:Int,v=scF (bI s) i→F5 (wr.setCell ⟨w.heap.size+1,1+i,none⟩ (.int .i64 v)) (w.heap.size+1) 0 (fK (bI s) (i+1) 0) (fK (bI s) (i+1) 1) (fK (bI s) (i+1) 2) (fK (bI s) (i+1) 3)):=by
      rintro v rfl
      rcases hi4 with rfl|rfl|rfl|rfl <;> (constructor <;> simp [go_sem,c0,c1,c2,c3,c4,fz,fK_step])
     have HW1:Hid (∀v,F5 (wr.setCell ⟨w.heap.size+1,1+i,none⟩ v) w.heap.size 0 0 0 0 0):=fun v=>F1.out.sm (((Kp.refl (fun b=>b=w.heap.size+1) wr).setCell (p:=⟨w.heap.size+1,1+i,none⟩) (Or.inr rfl) v).sm F1.out.lt (by omega))
     have HW2:Hid (∀v,Nw w (wr.setCell ⟨w.heap.size+1,1+i,none⟩ v)):=fun v=>HN.out.setCell (p:=⟨w.heap.size+1,1+i,none⟩) (Or.inl (by show w.heap.size≤w.heap.size+1;omega)) v
     rcases hi4 with hi4|hi4|hi4|hi4
     ·subst hi4
      go_wp2
      go_roundg (s.size - (0+1))
      case measure=>rw [HM.out];omega
      case rel=>exact ⟨0+1,by simp,rfl,by omega,HNX.out,HW1.out _,HW.out _ (by rw [HSC.out]),HW2.out _⟩
     ·subst hi4
      go_wp2
      go_roundg (s.size - (1+1))
      case measure=>rw [HM.out];omega
      case rel=>exact ⟨1+1,by simp,rfl,by omega,HNX.out,HW1.out _,HW.out _ (by rw [HSC.out]),HW2.out _⟩
     ·subst hi4
      go_wp2
      go_roundg (s.size - (2+1))
      case measure=>rw [HM.out];omega
      case rel=>exact ⟨2+1,by simp,rfl,by omega,HNX.out,HW1.out _,HW.out _ (by rw [HSC.out]),HW2.out _⟩
     ·subst hi4
      go_wp2
      go_roundg (s.size - (3+1))
      case measure=>rw [HM.out];omega
      case rel=>exact ⟨3+1,by simp,rfl,by omega,HNX.out,HW1.out _,HW.out _ (by rw [HSC.out]),HW2.out _⟩
    ·have HSB:Hid (schemaB (bI s)=false):=by
      show _=_
      have hx:=List.mem_of_getElem? (bI_get s i hil)
      cases hsb:schemaB (bI s) with
      | false=>rfl
      | true =>
       simp only [schemaB,Bool.and_eq_true,List.all_eq_true] at hsb
       exact absurd (hsb.1.1 _ hx) hdg
     have hbd:¬(48≤(s[i].toNat:Int)∧(s[i].toNat:Int)≤51):=fun h=>hdg ((digB_iff _).2 h)
     obtain ⟨c0,c1,c2,c3,c4,fz⟩:=f1
     clear f2 hdg
     have hcase:(s[i].toNat:Int)<48∨51<(s[i].toNat:Int):=by omega
     clear hbd
     rcases hcase with hcase|hcase
     all_goals
      go_wp2
      refine bodyPost_ret (results_ct Tryz.results37 _ _ _ ⟨w.heap.size,0,none⟩ rfl _ (HF.out _ F1.out).load) rfl ?_
      exact ⟨HK.out _ HN.out _ _ _ _ _,Or.inr ⟨HSB.out,rfl⟩⟩
   ·have hie:i=s.size:=by omega
    have HSB:Hid (schemaB (bI s)=true):=by
     show _=_
     simp only [schemaB,Bool.and_eq_true,decide_eq_true_eq,List.all_eq_true,bI_length]
     refine ⟨⟨?_,by omega⟩,hs4⟩
     intro c hc
     obtain ⟨j,hj⟩:=List.mem_iff_getElem?.1 hc
     have hjl:j<s.size:=by have:=(List.getElem?_eq_some_iff.1 hj).1;rwa [bI_length] at this
     rw [bI_get s j hjl] at hj
     simp only [Option.some.injEq] at hj
     subst hj
     exact HD.out j hjl (by omega)
    have HE:Hid (∀j,fK (bI s) i j=scF (bI s) j):=by
     intro j
     unfold fK
     split
     ·rfl
     ·have:¬j<(bI s).length:=by rw [bI_length];omega
      simp [scF,this]
    have F3:Hid (F5 wr (w.heap.size+1) 0 (scF (bI s) 0) (scF (bI s) 1) (scF (bI s) 2) (scF (bI s) 3)):=by
     have:=F2.out
     rw [HE.out,HE.out,HE.out,HE.out] at this
     exact this
    have HV:Hid (schV (bI s)=.agg #[.int .i64 s.size,.int .i64 (scF (bI s) 0),.int .i64 (scF (bI s) 1),.int .i64 (scF (bI s) 2),.int .i64 (scF (bI s) 3)]):=by
     show _=_
     unfold schV
     rw [bI_length]
    subst hie
    obtain ⟨c0,c1,c2,c3,c4,fz⟩:=F3.out
    obtain ⟨d0,d1,d2,d3,d4,dz⟩:=F1.out
    have HFF:Hid (∀W:World,F5 W w.heap.size 0 0 0 0 0→∀a b c d e:Int,F5 (((((W.setCell ⟨w.heap.size,0,none⟩ (.int .i64 a)).setCell ⟨w.heap.size,1,none⟩ (.int .i64 b)).setCell ⟨w.heap.size,2,none⟩ (.int .i64 c)).setCell ⟨w.heap.size,3,none⟩ (.int .i64 d)).setCell ⟨w.heap.size,4,none⟩ (.int .i64 e)) w.heap.size a b c d e):=by
     rintro W ⟨c0,c1,c2,c3,c4,fz⟩ a b c d e
     constructor <;> simp [go_sem,c0,c1,c2,c3,c4,fz]
    have F1':Hid (F5 (wr.setCell ⟨w.heap.size+1,0,none⟩ (.int .i64 s.size)) w.heap.size 0 0 0 0 0):=F1.out.sm (((Kp.refl (fun b=>b=w.heap.size+1) wr).setCell (p:=⟨w.heap.size+1,0,none⟩) (Or.inr rfl) _).sm F1.out.lt (by omega))
    have HN':Hid (Nw w (wr.setCell ⟨w.heap.size+1,0,none⟩ (.int .i64 s.size))):=HN.out.setCell (p:=⟨w.heap.size+1,0,none⟩) (Or.inl (by show w.heap.size≤w.heap.size+1;omega)) _
    clear f1 f2 HD F2 HE
    go_wp2
    refine bodyPost_ret (results_ct Tryz.results37 _ _ _ ⟨w.heap.size,0,none⟩ rfl _ (HFF.out _ F1'.out _ _ _ _ _).load) rfl ?_
    refine ⟨HK.out _ HN'.out _ _ _ _ _,Or.inl ⟨HSB.out,?_⟩⟩
    rw [HV.out];rfl
end Go.Proofs.YtcboiapggnmpfabGreat
