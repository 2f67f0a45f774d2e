import Derived.Test.YtcboiapggnmpfabGreatQai
import Derived.Test.YtcboiapggnmpfabGreatQae
import Derived.Deep.DeepCutAuto
import Derived.Deep.MidRow
namespace Go.Proofs.YtcboiapggnmpfabGreat
set_option maxRecDepth 100000
set_option maxHeartbeats 1000000
set_option linter.unusedSimpArgs false
set_option linter.unusedVariables false
open Go.RowKit
open Value (slice)
theorem kindO_of {c:Int} (h:isKindB c=true):kindO c=kindV c:=by simp [kindO,h]
theorem kindO_not {c:Int} (h:isKindB c=false):kindO c = -1:=by simp [kindO,h]
theorem pStep_not {l:List Tok} (h:isKindB (hd l)=false):pStep l=(none,l):=by
 match l,h with
 | [],_=>rfl
 | (c,p)::r,h=>simp only [hd] at h;simp [pStep,h]
theorem isKind_pos {c:Int} (h:isKindB c=true):46≤c∧c≤100:=by
 have:c=46∨(97≤c∧c≤100):=by simpa [isKindB] using h
 omega
theorem kindV_bounds {c:Int} (h:isKindB c=true):0≤kindV c∧kindV c≤4:=by
 have:c=46∨(97≤c∧c≤100):=by simpa [isKindB] using h
 unfold kindV
 split <;> omega
structure SAt (w:World) (B:Nat) (p k n tv:Value):Prop where
 c0:w.cell? ⟨B,0,none⟩=some p
 c1:w.cell? ⟨B,1,none⟩=some k
 c2:w.cell? ⟨B,2,none⟩=some n
 c3:w.cell? ⟨B,3,none⟩=some tv
 fz:∀o,w.frozen? ⟨B,o,none⟩=false
theorem SAt.sm {w w':World} {B:Nat} {p k n tv:Value} (h:SAt w B p k n tv) (s:Sm w w' B):SAt w' B p k n tv :=
 ⟨(s.cell 0).trans h.c0,(s.cell 1).trans h.c1,(s.cell 2).trans h.c2,(s.cell 3).trans h.c3,fun o=>(s.froz o).trans (h.fz o)⟩
def StPost (s : ByteArray) (R : Nat) (w : World) (N : List Nd) (L : List (St × Value)) (r : Option St × List Tok) (e : Ending) (w' : World) : Prop :=
  ∃ (j : Nat) (nv sv : Value), At s j r.2 ∧ Kp (fun k => R ≤ k) w w' ∧
    ((r.1 = none ∧ e = .returned (.tuple #[.int .i64 0, .bool false]) ∧ RS w' R s j nv sv N L) ∨
     (∃ x tv, r.1 = some x ∧ e = .returned (.tuple #[.int .i64 N.length, .bool true]) ∧ RS w' R s j nv sv (N ++ [⟨0, L.length, 0, 0, 0, 0⟩]) (L ++ [(x, tv)])))
theorem SAt.lt {w:World} {B:Nat} {p k n tv:Value} (h:SAt w B p k n tv):B<w.heap.size:=World.block_lt_of_cell? w ⟨B,0,none⟩ h.c0
theorem SAt.drewN {w:World} {B:Nat} {p k n tv:Value} (h:SAt w B p k n tv) (m:Nat):SAt (w.drewN m) B p k n tv:=⟨h.c0,h.c1,h.c2,h.c3,h.fz⟩
theorem SAt.set2 {w:World} {B:Nat} {p k n tv:Value} (h:SAt w B p k n tv) (v:Value):SAt (w.setCell ⟨B,2,none⟩ v) B p k v tv:=by
 obtain ⟨c0,c1,c2,c3,fz⟩:=h
 constructor <;> simp [go_sem,c0,c1,c2,c3,fz]
theorem SAt.set3 {w:World} {B:Nat} {p k n tv:Value} (h:SAt w B p k n tv) (v:Value):SAt (w.setCell ⟨B,3,none⟩ v) B p k n v:=by
 obtain ⟨c0,c1,c2,c3,fz⟩:=h
 constructor <;> simp [go_sem,c0,c1,c2,c3,fz]
theorem SAt.new (w:World) (n:Nat) (p k:Value) (t:TypeId):SAt ((((((w.alloc (.cells #[.int .i64 0,.int .i64 0,.int .i64 0,.slice none 0 0] t)).drewN n).setCell ⟨w.heap.size,0,none⟩ p).setCell ⟨w.heap.size,1,none⟩ k).setCell ⟨w.heap.size,2,none⟩ (.int .i64 (-1))).setCell ⟨w.heap.size,3,none⟩ (.slice none 0 0)) w.heap.size p k (.int .i64 (-1)) (.slice none 0 0):=by
 constructor <;> simp [go_sem,World.cell?_alloc_at,World.frozen?_alloc_at]
theorem ownsKpX {S:Nat→Prop} {w w':World} {base n size:Nat} {e:TypeId} {v:Value} {xs:List Value} (h:w.ownsRow base e size v n xs) (k:Kp S w w') (hs:∀g,v.ownBlock=some g→¬S g):w'.ownsRow base e size v n xs:=by
 refine ⟨h.1,?_⟩
 rcases h.2 with hn|⟨g,cap,cur,rfl,hb,hg,rest⟩
 ·exact .inl hn
 ·refine .inr ⟨g,cap,cur,rfl,hb,?_,rest⟩
  rw [k.block g (Array.getElem?_eq_some_iff.1 hg).1 (hs g rfl)]
  exact hg
theorem ownsBaseX {w:World} {base base' n size:Nat} {e:TypeId} {v:Value} {xs:List Value} (h:w.ownsRow base e size v n xs) (hb:base'≤base):w.ownsRow base' e size v n xs:=by
 refine ⟨h.1,?_⟩
 rcases h.2 with hn|⟨g,cap,cur,rfl,h1,rest⟩
 ·exact .inl hn
 ·exact .inr ⟨g,cap,cur,rfl,Nat.le_trans hb h1,rest⟩
theorem ownsLenX {w:World} {base n size:Nat} {e:TypeId} {v:Value} {xs:List Value} (h:w.ownsRow base e size v n xs):∃p c,v=.slice p n c:=by
 rcases h.2 with ⟨h2,h3⟩ | ⟨g',cap',cur,h2,_⟩
 ·exact ⟨none,0,by rw [h2,h3]⟩
 ·exact ⟨_,_,h2⟩
theorem pTests_len:∀(n:Nat) (l:List Tok) (ts:List Tst),(pTests n l).1=some ts→ts.length≤n:=by
 intro n
 induction n with
 | zero=>intro l ts h;simp [pTests] at h
 | succ n ih =>
  intro l ts h
  simp only [pTests] at h
  split at h
  ·simp at h
  ·simp at h
  ·split at h
   ·split at h
    ·simp at h
    ·rename_i ts' x hts
     simp at h
     subst h
     have:=ih _ ts' (by rw [hts])
     simp;omega
   ·split at h
    ·simp at h;subst h;simp
    ·simp at h
theorem RS.st {w w':World} {R i j:Nat} {s:ByteArray} {nv sv sv':Value} {N:List Nd} {L:List (St×Value)} {x:St×Value} (h:RS w R s i nv sv N L) (hr:Rd w' R s j nv sv') (ho:w'.ownsRow (R+1) 112 4 sv' (L++[x]).length (stsC (L++[x]))) (hk:Kp (fun k=>k=R∨sv.ownBlock=some k) w w') (hx:TestsAt w' R x):RS w' R s j nv sv' N (L++[x]) :=
 ⟨hr,ownsRow_apart h.nodes h.steps (by decide) (Nat.lt_succ_self R) hk,ho,fun y hy=>by
  rcases List.mem_append.1 hy with hy|hy
  ·exact ownsRow_apart (h.tests y hy) h.steps (by decide) (Nat.lt_succ_self R) hk
  ·simp at hy;subst hy;exact hx⟩
theorem Rd.setS {w:World} {R:Nat} {s:ByteArray} {i:Nat} {nv sv:Value} (h:Rd w R s i nv sv) (v:Value):Rd (w.setCell ⟨R,3,none⟩ v) R s i nv v:=by
 obtain ⟨c0,c1,c2,c3,z1,z2,z3⟩:=h
 constructor <;> simp [go_sem,c0,c1,c2,c3,z1,z2,z3]
theorem Tryz.info112:(Tryz.prog.info? 112).map (fun i=>(i.zero,i.size,i.bytes))=some (some (.agg #[.int .i64 0,.int .i64 0,.int .i64 0,.slice none 0 0]),4,48):=by kernel_rfl
theorem newsX (w2:World) (cs:Array Value) (t:TypeId):∀j u,cs.toList[j]? = some u→(w2.alloc (.cells cs t)).cell? ((⟨w2.heap.size,0,none⟩:Addr).add j)=some u :=
 World.news_of_block (heap_alloc_new w2 (.cells cs t))
theorem stC_one (x:St) (p:Option Addr) (n c:Nat):∀u∈stC (x,.slice p n c),u.oneCell'=true:=by
 intro u hu
 simp only [stC,List.mem_cons,List.not_mem_nil,or_false] at hu
 rcases hu with h|h|h|h <;> subst h <;> rfl
theorem pName_of {r:List Tok} (h:isNameB (hd r)=true):∃c p r',r=(c,p)::r'∧hd r=c∧pName r=(c - 65,r'):=by
 match r,h with
 | [],h=>simp [hd,isNameB] at h
 | (c,p)::r',h=>exact ⟨c,p,r',rfl,rfl,by simp only [hd] at h;simp [pName,h]⟩
theorem pName_no {r:List Tok} (h:isNameB (hd r)=false):pName r=(-1,r):=by
 match r,h with
 | [],_=>rfl
 | (c,p)::r',h=>simp only [hd] at h;simp [pName,h]
theorem pBox_of {x:List Tok} (h:hd x=91):∃p r,x=(91,p)::r∧pBox x=pTests (r.length+1) r:=by
 match x,h with
 | [],h=>simp [hd] at h
 | (c,p)::r,h=>simp only [hd] at h;subst h;exact ⟨p,r,rfl,by simp [pBox]⟩
theorem pBox_no {x:List Tok} (h:¬hd x=91):pBox x=(some [],x):=by
 match x,h with
 | [],_=>rfl
 | (c,p)::r,h=>simp only [hd] at h;simp [pBox,h]
theorem readStep_any (s:ByteArray) (R i:Nat) (nv sv:Value) (N:List Nd) (L:List (St×Value)) (l:List Tok) (w:World) (h:RS w R s i nv sv N L) (hs:s.size≤1000) (ha:At s i l) (hN:N.length≤100000) (hL:L.length≤100000) :
  Calls Tryz.prog 135 #[.pointer (some ⟨R,0,none⟩)] w (StPost s R w N L (pStep l)):=by
 have hm:s.size≤maxLen:=by unfold maxLen;omega
 have hl:=h.rd.lt
 have hne:¬w.heap.size=R:=by omega
 have hne':¬R=w.heap.size:=by omega
 have c1:=h.rd.c1
 have hdr:∀n o,(w.drewN n).alloc o=(w.alloc o).drewN n:=fun _ _=>rfl
 have hdr1:∀o,w.drew.alloc o=(w.alloc o).drew:=fun _=>rfl
 have H:Hid (RS w R s i nv sv N L):=h
 have HA:Hid (At s i l):=ha
 obtain ⟨b0,b1⟩:=ha.hd_bounds
 generalize hc:hd l=c at b0 b1
 have HC:Hid (hd l=c):=hc
 clear hc h ha
 generalize hk:kindO c=kv
 have HK:Hid (kindO c=kv):=hk
 clear hk
 go_enter Tryz.func135,Tryz.ntmps135
 go_wp2
 have HRN:Hid (∀n a,Rd ((((((w.alloc (.cells #[.int .i64 0,.int .i64 0,.int .i64 0,.slice none 0 0] 112)).drewN n).setCell ⟨w.heap.size,0,none⟩ (.int .i64 i)).setCell ⟨w.heap.size,1,none⟩ a).setCell ⟨w.heap.size,2,none⟩ (.int .i64 (-1))).setCell ⟨w.heap.size,3,none⟩ (.slice none 0 0)) R s i nv sv):=by
  intro n a
  exact ((((((H.out.rd.alloc _).drewN n).other hne _).other hne _).other hne _).other hne _)
 have HKN:Hid (∀n a,Kp (fun k=>k=R) w ((((((w.alloc (.cells #[.int .i64 0,.int .i64 0,.int .i64 0,.slice none 0 0] 112)).drewN n).setCell ⟨w.heap.size,0,none⟩ (.int .i64 i)).setCell ⟨w.heap.size,1,none⟩ a).setCell ⟨w.heap.size,2,none⟩ (.int .i64 (-1))).setCell ⟨w.heap.size,3,none⟩ (.slice none 0 0))):=by
  intro n a
  have hB:w.heap.size≤w.heap.size:=Nat.le_refl _
  exact ((((((Kp.refl _ w).alloc _).drewN n).setCell (p:=⟨w.heap.size,0,none⟩) (Or.inl hB) _).setCell (p:=⟨w.heap.size,1,none⟩) (Or.inl hB) _).setCell (p:=⟨w.heap.size,2,none⟩) (Or.inl hB) _).setCell (p:=⟨w.heap.size,3,none⟩) (Or.inl hB) _
 go_cut [4] (fun t wr=>t=.pointer (some ⟨w.heap.size,0,none⟩)∧SAt wr w.heap.size (.int .i64 i) (.int .i64 kv) (.int .i64 (-1)) (.slice none 0 0)∧Rd wr R s i nv sv∧Kp (fun k=>k=R) w wr)
 case first =>
  go_region_with ((first
    | (go_at_call 70;refine (peek_at (s:=s) (i:=i) (nv:=nv) (sv:=sv) (l:=l) ?_ hm HA.out).mono ?_;(first|exact H.out.rd.drew|exact (H.out.rd.alloc _).drew|exact H.out.rd.drewN _|exact (H.out.rd.alloc _).drewN _);rw [HC.out];rintro e wx ⟨rfl,n3,rfl⟩)
    | (go_at_call 130;refine (kindOf_any _ _ b0 b1).mono ?_;rw [HK.out];rintro e wx ⟨rfl,rfl⟩)))
  all_goals go_wp2_with fail
  all_goals go_meet
  all_goals go_light
  all_goals exact ⟨rfl,SAt.new w _ _ _ _,HRN.out _ _,HKN.out _ _⟩
 case rest =>
  obtain ⟨rfl,hS,hR,hK⟩:=hcut
  have HS:Hid (SAt wc w.heap.size (.int .i64 i) (.int .i64 kv) (.int .i64 (-1)) (.slice none 0 0)):=hS
  have HR:Hid (Rd wc R s i nv sv):=hR
  have HKK:Hid (Kp (fun k=>k=R) w wc):=hK
  have d1:=hS.c1
  have hBl:=hS.lt
  clear hS hR hK HRN HKN c1 hdr hdr1
  by_cases hkd:isKindB c=true
  ·have hkv:Hid (kv=kindV c):=by rw [←HK.out];exact kindO_of hkd
   obtain ⟨v0,v1⟩:=kindV_bounds hkd
   have hk0:0≤kv:=by rw [hkv.out];exact v0
   have hcp:=isKind_pos hkd
   obtain ⟨p,r,hlr⟩:=hd_cons_of HC.out (by omega)
   subst hlr
   clear v0 v1 hcp
   go_wp2_with fail
   refine (pass_any s R i nv sv c p r _ HR.out hm HA.out).mono ?_
   rintro e w1 ⟨rfl,j1,a1,r1,k1⟩
   have S1:Hid (SAt w1 w.heap.size (.int .i64 i) (.int .i64 kv) (.int .i64 (-1)) (.slice none 0 0)):=HS.out.sm (k1.sm hBl hne)
   have R1:Hid (Rd w1 R s j1 nv sv):=r1
   have A1:Hid (At s j1 r):=a1
   have K1:Hid (Kp (fun k=>k=R) w w1):=HKK.out.trans k1
   have hBl1:=S1.out.lt
   obtain ⟨b2,b3⟩:=a1.hd_bounds
   have HPI:Hid (p=i):=by
    obtain ⟨_,_,hp,_⟩:=HA.out.cons
    exact hp
   clear a1 r1 k1 d1 HS HR HKK
   go_wp2_with fail
   refine (peek_at R1.out hm A1.out).mono ?_
   rintro e w2 ⟨rfl,n2,rfl⟩
   generalize hnm:nameO (hd r)=nm
   have HNM:Hid (nameO (hd r)=nm):=hnm
   clear hnm
   go_wp2_with fail
   refine (nameOf_any (hd r) _ b2 b3).mono ?_
   rw [HNM.out]
   rintro e w3 ⟨rfl,rfl⟩
   have S2:Hid (SAt ((w1.drewN n2).setCell ⟨w.heap.size,2,none⟩ (.int .i64 nm)) w.heap.size (.int .i64 i) (.int .i64 kv) (.int .i64 nm) (.slice none 0 0)):=(S1.out.drewN n2).set2 _
   have R2:Hid (Rd ((w1.drewN n2).setCell ⟨w.heap.size,2,none⟩ (.int .i64 nm)) R s j1 nv sv):=(R1.out.drewN n2).other hne _
   have K2:Hid (Kp (fun k=>k=R) w ((w1.drewN n2).setCell ⟨w.heap.size,2,none⟩ (.int .i64 nm))):=(K1.out.drewN n2).setCell (p:=⟨w.heap.size,2,none⟩) (Or.inl (Nat.le_refl _)) _
   have f2:∀o,w1.frozen? ⟨w.heap.size,o,none⟩=false:=S1.out.fz
   have e2:=S1.out.c2
   clear S1 R1 K1
   go_upto_if 27 with fail
   go_cut [] (fun wr=>∃j:Nat,At s j (pName r).2∧SAt wr w.heap.size (.int .i64 i) (.int .i64 kv) (.int .i64 (pName r).1) (.slice none 0 0)∧Rd wr R s j nv sv∧Kp (fun k=>k=R) w wr)
   case first =>
    by_cases hnb:isNameB (hd r)=true
    ·obtain ⟨c',p',r',hr',hc',hpn⟩:=pName_of hnb
     have hn65:=isName_bounds hnb
     have hnm:nm=c' - 65:=by rw [←HNM.out,nameO_of hnb,hc']
     have hnn:(nm != -1)=true:=by rw [bne_iff_ne];omega
     have HA2:Hid (At s j1 ((c',p')::r')):=by rw [←hr'];exact A1.out
     have HNE:Hid (nm=c' - 65):=hnm
     have HPN:Hid (pName r=(c' - 65,r')):=hpn
     clear hnm hr' hc' hpn hn65
     go_wp2_with fail
     refine (pass_any s R j1 nv sv c' p' r' _ R2.out hm HA2.out).mono ?_
     rintro e w4 ⟨rfl,j4,a4,r4,k4⟩
     have hB2:=S2.out.lt
     have S4:Hid (SAt w4 w.heap.size (.int .i64 i) (.int .i64 kv) (.int .i64 nm) (.slice none 0 0)):=S2.out.sm (k4.sm hB2 hne)
     have K4:Hid (Kp (fun k=>k=R) w w4):=K2.out.trans k4
     have R4:Hid (Rd w4 R s j4 nv sv):=r4
     have A4:Hid (At s j4 r'):=a4
     clear a4 r4 k4
     go_wp2_with fail
     go_meet
     case rel =>
      rw [HPN.out]
      refine ⟨j4,A4.out,?_,R4.out,K4.out⟩
      rw [←HNE.out];exact S4.out
    ·have hnb':isNameB (hd r)=false:=by simpa using hnb
     have hnm:nm = -1:=by rw [←HNM.out];exact nameO_not hnb'
     have HPN:Hid (pName r=(-1,r)):=pName_no hnb'
     subst hnm
     go_wp2_with fail
     go_meet
     case rel =>
      rw [HPN.out]
      exact ⟨j1,A1.out,S2.out,R2.out,K2.out⟩
   case rest =>
    obtain ⟨j5,a5,s5,r5,k5⟩:=hcut
    generalize hx:(pName r).2=x at a5
    generalize hn:(pName r).1=nm5 at s5
    have HX:Hid ((pName r).2=x):=hx
    have HN5:Hid ((pName r).1=nm5):=hn
    have A5:Hid (At s j5 x):=a5
    have S5:Hid (SAt wc w.heap.size (.int .i64 i) (.int .i64 kv) (.int .i64 nm5) (.slice none 0 0)):=s5
    have R5:Hid (Rd wc R s j5 nv sv):=r5
    have K5:Hid (Kp (fun k=>k=R) w wc):=k5
    obtain ⟨b4,b5⟩:=a5.hd_bounds
    clear hx hn a5 s5 r5 k5 S2 R2 K2 f2 e2 HNM A1 b2 b3
    go_wp2_with fail
    refine (peek_at R5.out hm A5.out).mono ?_
    rintro e w6 ⟨rfl,n6,rfl⟩
    have S6:Hid (SAt (wc.drewN n6) w.heap.size (.int .i64 i) (.int .i64 kv) (.int .i64 nm5) (.slice none 0 0)):=S5.out.drewN n6
    have R6:Hid (Rd (wc.drewN n6) R s j5 nv sv):=R5.out.drewN n6
    have K6:Hid (Kp (fun k=>k=R) w (wc.drewN n6)):=K5.out.drewN n6
    clear S5 R5 K5
    generalize wc.drewN n6=w7 at S6 R6 K6
    go_upto_if 32 with fail
    go_cut [] (fun wr=>∃(j:Nat) (tv:Value) (ts:List Tst),(pBox x).1=some ts∧At s j (pBox x).2∧SAt wr w.heap.size (.int .i64 i) (.int .i64 kv) (.int .i64 nm5) tv∧wr.ownsRow (R+1) 60 11 tv ts.length (tstsC ts)∧ts.length≤2000∧Rd wr R s j nv sv∧Kp (fun k=>k=R) w wr)
    case first =>
     by_cases hq:hd x=91
     ·obtain ⟨p',r',hx',hpb⟩:=pBox_of hq
      have HPB:Hid (pBox x=pTests (r'.length+1) r'):=hpb
      have HA7:Hid (At s j5 ((91,p')::r')):=by rw [←hx'];exact A5.out
      rw [hq]
      clear hx' hpb hq
      go_wp2_with fail
      refine (readTests_any s R j5 nv sv p' r' _ R6.out hs HA7.out).mono ?_
      rw [←HPB.out]
      rintro e w8 ⟨⟨j8,a8,r8,k8⟩,t1,t2⟩
      have hB6:=S6.out.lt
      have S8:Hid (SAt w8 w.heap.size (.int .i64 i) (.int .i64 kv) (.int .i64 nm5) (.slice none 0 0)):=S6.out.sm (k8.sm hB6 hne)
      have R8:Hid (Rd w8 R s j8 nv sv):=r8
      have K8:Hid (Kp (fun k=>k=R) w w8):=K6.out.trans k8
      have A8:Hid (At s j8 (pBox x).2):=a8
      have hs8:=k8.size
      clear a8 r8 k8
      cases hb:(pBox x).1 with
      | none =>
       have he:=t1 hb
       subst he
       have HB:Hid ((pBox x).1=none):=hb
       clear t1 t2 hb
       go_wp2
       go_ret2
       have e1:pStep ((c,p)::r)=(none,(pBox x).2):=by
        simp only [pStep,hkd,if_true,HX.out]
        have:pBox x=(none,(pBox x).2):=by rw [←HB.out]
        rw [this]
       rw [e1]
       exact ⟨j8,nv,sv,A8.out,K8.out.mono (fun k _ e=>by omega),Or.inl ⟨rfl,rfl,H.out.kp K8.out R8.out⟩⟩
      | some ts =>
       obtain ⟨v,he,hown⟩:=t2 ts hb
       subst he
       obtain ⟨vp,vc,rfl⟩:=ownsLenX hown
       have HB:Hid ((pBox x).1=some ts):=hb
       have hlen:ts.length≤2000:=by
        have h1:=pTests_len _ _ ts (by rw [←HPB.out];exact hb)
        have h2:=HA7.out.length
        simp at h2
        omega
       have HO:Hid (w8.ownsRow (R+1) 60 11 (.slice vp ts.length vc) ts.length (tstsC ts)):=ownsBaseX hown (by omega)
       have HOB:Hid (∀g,(slice vp ts.length vc).ownBlock=some g→w7.heap.size≤g):=fun g hg=>(hown.lt g hg).1
       have f8:∀o,w8.frozen? ⟨w.heap.size,o,none⟩=false:=S8.out.fz
       have e8:=S8.out.c3
       have hB8:=S8.out.lt
       clear t1 t2 hb hown
       go_wp2_with fail
       go_meet
       case rel =>
        refine ⟨j8,.slice vp ts.length vc,ts,HB.out,A8.out,S8.out.set3 _,?_,hlen,R8.out.other hne _,K8.out.setCell (p:=⟨w.heap.size,3,none⟩) (Or.inl (Nat.le_refl _)) _⟩
        exact ownsKpX HO.out ((Kp.refl (fun b=>b=w.heap.size) w8).setCell (p:=⟨w.heap.size,3,none⟩) (Or.inr rfl) _) (fun g hg e=>by have:=HOB.out g hg;omega)
     ·have HPB:Hid (pBox x=(some [],x)):=pBox_no hq
      have hq':(hd x == 91)=false:=by simp [hq]
      clear hq
      go_wp2_with fail
      go_meet
      case rel =>
       rw [HPB.out]
       exact ⟨j5,.slice none 0 0,[],rfl,A5.out,S6.out,World.ownsRow_nil _ _ _ _,by simp,R6.out,K6.out⟩
    case rest =>
     obtain ⟨j9,tv,ts,h9,a9,s9,o9,l9,r9,k9⟩:=hcut
     have H9:Hid ((pBox x).1=some ts):=h9
     have A9:Hid (At s j9 (pBox x).2):=a9
     have S9:Hid (SAt wc w.heap.size (.int .i64 i) (.int .i64 kv) (.int .i64 nm5) tv):=s9
     have O9:Hid (wc.ownsRow (R+1) 60 11 tv ts.length (tstsC ts)):=o9
     have R9:Hid (Rd wc R s j9 nv sv):=r9
     have K9:Hid (Kp (fun k=>k=R) w wc):=k9
     have Q9:Hid (RS wc R s j9 nv sv N L):=H.out.kp k9 r9
     obtain ⟨sp,sc,hsv⟩:=ownsLenX H.out.steps
     subst hsv
     obtain ⟨tp,tc,htv⟩:=ownsLenX o9
     subst htv
     have hsb:=H.out.steps.lt
     have HSB:Hid (∀b,(slice sp L.length sc).ownBlock=some b→R+1≤b∧b<w.heap.size):=hsb
     have hRs:¬some R=(slice sp L.length sc).ownBlock:=by intro e;have:=hsb R e.symm;omega
     have hown:wc.ownsRow (R+1) 112 4 (.slice sp L.length sc) L.length (stsC L):=Q9.out.steps
     have c3:=r9.c3
     have z3:=r9.z3
     have hlc:R<wc.heap.size:=r9.lt
     obtain ⟨g0,g1,g2,g3,gz⟩:=s9
     have hBc:=S9.out.lt
     have HXS:Hid (pStep ((c,p)::r)=(some ⟨kv,nm5,p,ts⟩,(pBox x).2)):=by
      show _=_
      simp only [pStep,hkd,if_true,HX.out]
      have:pBox x=(some ts,(pBox x).2):=by rw [←H9.out]
      rw [this]
      simp only [HN5.out,hkv.out]
     obtain ⟨i0,hi,hz0,hz1,hz2⟩:=info_parts Tryz.info112
     clear h9 a9 o9 r9 k9 S6 R6 K6 A5 hsb b0 b1 b4 b5 hBl hBl1
     go_wp2
     go_region_law
      ((refine step_append_lies _ (by rfl) _ _ _ (by rfl) (R+1) 112 i0 (.agg #[.int .i64 0,.int .i64 0,.int .i64 0,.slice none 0 0]) 4 48 Tryz.underlying82 hi hz0 hz1 hz2 rfl (by omega) (.slice sp L.length sc) L.length (stsC L) (by rfl) (by exact hown.alloc _) ⟨wc.heap.size,0,none⟩ 1 1 (stC ((⟨kv,nm5,i,ts⟩:St),.slice tp ts.length tc)) (by rfl) (by rfl) (by exact newsX wc _ _) (stC_one _ _ _ _) (by omega) (by unfold maxLen;omega) (by omega) (by simp;omega) (wc.heap.size+1) (by simp) ?_;intro g cap w1 hown1 hgrow hat hlt;have kR:∀o,w1.cell? ⟨R,o,none⟩=wc.cell? ⟨R,o,none⟩:=(fun o=>(hgrow.cell_far _ (by simp;omega) hRs).trans (by simp [go_sem,hlc,World.cell?_alloc_past]));have kz:∀o,w1.frozen? ⟨R,o,none⟩=wc.frozen? ⟨R,o,none⟩:=(fun o=>(hgrow.frozen_far _ (by simp;omega) hRs).trans (by simp [go_sem,hlc,World.frozen?_alloc_past]))))
     all_goals
      have R1:Hid (Rd w1 R s j9 nv (.slice sp L.length sc)):=Rd.grown ((R9.out.alloc _).drew) hgrow hRs
      have K1:Hid (Kp (fun k=>k=R∨(slice sp L.length sc).ownBlock=some k) wc w1):=(((Kp.refl _ wc).alloc _).drew).grown hgrow (fun k hk=>Or.inr (Or.inr hk))
      have O1:Hid (w1.ownsRow (R+1) 112 4 (.slice (some ⟨g,0,none⟩) (L.length+1) cap) (L++[((⟨kv,nm5,i,ts⟩:St),slice tp ts.length tc)]).length (stsC (L++[((⟨kv,nm5,i,ts⟩:St),slice tp ts.length tc)]))):=by
       have e1:(L++[((⟨kv,nm5,i,ts⟩:St),slice tp ts.length tc)]).length=L.length+1:=by simp
       have e2:stsC (L++[((⟨kv,nm5,i,ts⟩:St),slice tp ts.length tc)])=stsC L++stC ((⟨kv,nm5,i,ts⟩:St),slice tp ts.length tc):=by simp [stsC]
       show w1.ownsRow _ _ _ _ _ _
       rw [e1,e2]
       exact hown1
      have K2:Hid (Kp (fun k=>k=R∨(slice sp L.length sc).ownBlock=some k) wc (w1.setCell ⟨R,3,none⟩ (.slice (some ⟨g,0,none⟩) (L.length+1) cap))):=K1.out.setCell (p:=⟨R,3,none⟩) (Or.inr (Or.inl rfl)) _
      have Q2:Hid (RS (w1.setCell ⟨R,3,none⟩ (.slice (some ⟨g,0,none⟩) (L.length+1) cap)) R s j9 nv (.slice (some ⟨g,0,none⟩) (L.length+1) cap) N (L++[((⟨kv,nm5,i,ts⟩:St),slice tp ts.length tc)])) :=
       Q9.out.st (R1.out.setS _) (ownsRow_setCell_below O1.out (a:=⟨R,3,none⟩) (Nat.lt_succ_self R) _) K2.out (ownsRow_apart O9.out hown (by decide) (Nat.lt_succ_self R) K2.out)
      clear hown1 hgrow hat g0 g1 g2 g3 gz c3 z3 kR kz
      go_wp2_with fail
      refine (addNode_any s R j9 nv (.slice (some ⟨g,0,none⟩) (L.length+1) cap) N 0 L.length 0 0 0 0 _ Q2.out.rd Q2.out.nodes hN).mono ?_
      rintro e w3 ⟨rfl,nv',r3,o3,k3,_⟩
      have hnb:=Q2.out.nodes.lt
      go_wp2
      go_ret2
      rw [HXS.out,HPI.out]
      refine ⟨j9,nv',_,A9.out,?_,Or.inr ⟨_,_,rfl,rfl,Q2.out.nd r3 o3 k3⟩⟩
      refine ((K9.out.mono (T:=fun k=>R≤k) (fun k _ e=>by omega)).trans (K2.out.mono (fun k _ e => ?_))).trans (k3.mono (fun k _ e => ?_))
      ·rcases e with e|e
       ·omega
       ·have:=HSB.out k e;omega
      ·rcases e with e|e
       ·omega
       ·have:=hnb k e;omega
  ·have hkv:kv = -1:=by rw [←HK.out];exact kindO_not (by simpa using hkd)
   subst hkv
   go_wp2
   go_ret2
   have hf:isKindB (hd l)=false:=by rw [HC.out];simpa using hkd
   rw [pStep_not hf]
   exact ⟨i,nv,sv,HA.out,HKK.out.mono (fun k _ e=>by omega),Or.inl ⟨rfl,rfl,H.out.kp HKK.out HR.out⟩⟩
section
inductive Nt where
 | one (s:St)
 | two (op:Int) (l r:Nt)
 | rnd (lo hi:Int) (b:Nt)
def Nt.size:Nt→Nat
 | .one _=>1
 | .two _ l r=>l.size+r.size+1
 | .rnd _ _ b=>b.size+1
def Nt.steps:Nt→List St
 | .one s=>[s]
 | .two _ l r=>l.steps++r.steps
 | .rnd _ _ b=>b.steps
def Nt.nd:Nt→Nat→Nat→List Nd
 | .one _,_,st=>[⟨0,st,0,0,0,0⟩]
 | .two op l r,n,st=>l.nd n st++(r.nd (n+l.size) (st+l.steps.length)++[⟨op,0,((n+l.size:Nat):Int) - 1,((n+l.size+r.size:Nat):Int) - 1,0,0⟩])
 | .rnd lo hi b,n,st=>b.nd n st++[⟨3,0,((n+b.size:Nat):Int) - 1,0,lo,hi⟩]
theorem Nt.nd_length:∀(t:Nt) (n st:Nat),(t.nd n st).length=t.size:=by
 intro t
 induction t with
 | one s=>intro n st;rfl
 | two op l r hl hr=>intro n st;simp [Nt.nd,Nt.size,hl,hr];omega
 | rnd lo hi b hb=>intro n st;simp [Nt.nd,Nt.size,hb]
theorem Nt.size_pos:∀t:Nt,1≤t.size:=by
 intro t
 cases t <;> simp [Nt.size] <;> omega
theorem Nt.steps_le:∀t:Nt,t.steps.length≤t.size:=by
 intro t
 induction t with
 | one s=>simp [Nt.steps,Nt.size]
 | two op l r hl hr=>simp [Nt.steps,Nt.size];omega
 | rnd lo hi b hb=>simp [Nt.steps,Nt.size];omega
abbrev PR:=Option Nt×List Tok
def Fits (l:List Tok) (r:PR):Prop:=r.2.length≤l.length∧∀t,r.1=some t→t.size+1+2*r.2.length≤2*l.length
section
variable {α:Type} (pa:List Tok→Option α×List Tok) (f:α→Nt)
def aR (l:List Tok):PR:=((pa l).1.map f,(pa l).2)
def repTr (x:α×Rep):Nt:=match x.2 with|none=>f x.1|some (lo,hi)=>.rnd lo hi (f x.1)
def repR (l:List Tok):PR:=((pRep pa l).1.map (repTr f),(pRep pa l).2)
def goOn (op:Int) (pr:List Tok→PR) (skip:List Tok→Option (List Tok)):Nat→Nt→List Tok→PR
 | 0,t,l=>(some t,l)
 | n+1,t,l=>match skip l with
  | none=>(some t,l)
  | some x=>match pr x with
   | (none,y)=>(none,y)
   | (some u,y)=>goOn op pr skip n (.two op t u) y
def skipA (l:List Tok):Option (List Tok):=if beginsB (hd l)=true then some l else none
def skipB:List Tok→Option (List Tok)
 | []=>none
 | (c,_)::r=>if c=124 then some r else none
def seqTr (x:SeqOf α):Nt:=x.2.foldl (fun t y=>.two 1 t (repTr f y)) (repTr f x.1)
def altTr (x:AltOf α):Nt:=x.2.foldl (fun t y=>.two 2 t (seqTr f y)) (seqTr f x.1)
def seqR (l:List Tok):PR:=((pSeq pa l).1.map (seqTr f),(pSeq pa l).2)
def altR (l:List Tok):PR:=((pAlt pa l).1.map (altTr f),(pAlt pa l).2)
theorem begins_iff (c:Int):beginsB c=true↔c=40∨isKindB c=true:=by simp [beginsB]
theorem goOn_more:∀(n:Nat) (t:Nt) (l:List Tok),goOn 1 (repR pa f) skipA n t l=((pMore pa n l).1.map (fun ys=>ys.foldl (fun t y=>Nt.two 1 t (repTr f y)) t),(pMore pa n l).2):=by
 intro n
 induction n with
 | zero=>intro t l;simp [goOn,pMore]
 | succ n ih =>
  intro t l
  match l with
  | []=>simp [goOn,pMore,skipA,hd,beginsB,isKindB]
  | (c,p)::r =>
   simp only [goOn,pMore,skipA,hd]
   by_cases hb:beginsB c=true
   ·have hb':=(begins_iff c).1 hb
    simp only [hb,if_pos hb',if_true]
    simp only [repR]
    cases hp:pRep pa ((c,p)::r) with
    | mk o x =>
     cases o with
     | none=>rfl
     | some a =>
      simp only [Option.map_some]
      rw [ih]
      cases hm:pMore pa n x with
      | mk q y=>cases q <;> simp
   ·have hb':¬(c=40∨isKindB c=true):=fun h=>hb ((begins_iff c).2 h)
    simp only [hb,if_neg hb',if_false,Bool.false_eq_true]
    rfl
theorem seqR_eq (l:List Tok):seqR pa f l=match repR pa f l with|(none,x)=>(none,x)|(some t,x)=>goOn 1 (repR pa f) skipA x.length t x:=by
 simp only [seqR,pSeq,repR]
 cases hp:pRep pa l with
 | mk o x =>
  cases o with
  | none=>rfl
  | some a =>
   show _=goOn 1 (repR pa f) skipA x.length (repTr f a) x
   rw [goOn_more]
   cases hm:pMore pa x.length x with
   | mk q y=>cases q <;> simp [seqTr,hm]
theorem goOn_alts:∀(n:Nat) (t:Nt) (l:List Tok),goOn 2 (seqR pa f) skipB n t l=((pAlts pa n l).1.map (fun ys=>ys.foldl (fun t y=>Nt.two 2 t (seqTr f y)) t),(pAlts pa n l).2):=by
 intro n
 induction n with
 | zero=>intro t l;simp [goOn,pAlts]
 | succ n ih =>
  intro t l
  match l with
  | []=>simp [goOn,pAlts,skipB]
  | (c,p)::r =>
   simp only [goOn,pAlts,skipB]
   by_cases hb:c=124
   ·simp only [if_pos hb]
    simp only [seqR]
    cases hp:pSeq pa r with
    | mk o x =>
     cases o with
     | none=>rfl
     | some a =>
      simp only [Option.map_some]
      rw [ih]
      cases hm:pAlts pa n x with
      | mk q y=>cases q <;> simp
   ·simp only [if_neg hb]
    rfl
theorem altR_eq (l:List Tok):altR pa f l=match seqR pa f l with|(none,x)=>(none,x)|(some t,x)=>goOn 2 (seqR pa f) skipB x.length t x:=by
 simp only [altR,pAlt,seqR]
 cases hp:pSeq pa l with
 | mk o x =>
  cases o with
  | none=>rfl
  | some a =>
   show _=goOn 2 (seqR pa f) skipB x.length (seqTr f a) x
   rw [goOn_alts]
   cases hm:pAlts pa x.length x with
   | mk q y=>cases q <;> simp [altTr,hm]
theorem pRepS_le (l:List Tok):(pRepS l).2.length≤l.length∧∀q,(pRepS l).1=some (some q)→(pRepS l).2.length<l.length:=by
 match l with
 | []=>simp [pRepS]
 | (c,p)::r =>
  have hc:∀(a b:Int) (l:List Tok),(pClose a b l).2.length≤l.length:=by
   intro a b l
   match l with
   | []=>simp [pClose]
   | (d,q)::r=>simp only [pClose];split <;> simp
  have hh:∀(a:Int) (l:List Tok),(pHigh a l).2.length≤l.length:=by
   intro a l
   match l with
   | []=>simp [pHigh]
   | (d,q)::r =>
    simp only [pHigh]
    split
    ·have:=hc a (d - 48) r;simp;omega
    ·simp
  have hl:∀(l:List Tok),(pLow l).2.length≤l.length:=by
   intro l
   match l with
   | []=>simp [pLow]
   | (d,q)::r =>
    simp only [pLow]
    split
    ·have:=hh (d - 48) r;simp;omega
    ·simp
  simp only [pRepS]
  split
  ·simp
  ·split
   ·simp
   ·split
    ·simp
    ·split
     ·exact ⟨by have:=hl r;simp only [List.length_cons];omega,fun q _=>by have:=hl r;simp only [List.length_cons];omega⟩
     ·simp
variable {pa f}
theorem fits_rep (h:∀l,Fits l (aR pa f l)) (l:List Tok):Fits l (repR pa f l):=by
 have h1:=h l
 simp only [Fits,aR,repR,pRep] at h1 ⊢
 cases hp:pa l with
 | mk o x =>
  rw [hp] at h1
  cases o with
  | none=>exact ⟨h1.1,by simp⟩
  | some a =>
   have h2:=pRepS_le x
   have h3:=h1.2 (f a) rfl
   have h4:=h1.1
   cases hq:pRepS x with
   | mk q y =>
    rw [hq] at h2
    cases q with
    | none =>
     simp only [hq,Option.map_none]
     exact ⟨by have:=h2.1;simp at this h4 ⊢;omega,by simp⟩
    | some q =>
     simp only [hq,Option.map_some,Option.some.injEq]
     refine ⟨by have:=h2.1;simp at this h4 ⊢;omega,?_⟩
     rintro t rfl
     cases q with
     | none=>have:=h2.1;simp [repTr] at this h3 ⊢;omega
     | some q=>have:=h2.2 q rfl;simp [repTr,Nt.size] at this h3 ⊢;omega
theorem fits_goOn {op:Int} {pr:List Tok→PR} {skip:List Tok→Option (List Tok)} (hp:∀l,Fits l (pr l)) (hs:∀l x,skip l=some x→x.length≤l.length):∀(n:Nat) (t:Nt) (m l:List Tok),t.size+1+2*l.length≤2*m.length→l.length≤m.length→Fits m (goOn op pr skip n t l):=by
 intro n
 induction n with
 | zero=>intro t m l h hl;exact ⟨hl,fun u hu=>by simp [goOn] at hu;subst hu;simpa [goOn] using h⟩
 | succ n ih =>
  intro t m l h hl
  simp only [goOn]
  cases hk:skip l with
  | none=>exact ⟨hl,fun u hu=>by simp at hu;subst hu;simpa using h⟩
  | some x =>
   have h1:=hs l x hk
   have h2:=hp x
   cases hq:pr x with
   | mk o y =>
    rw [hq] at h2
    cases o with
    | none =>
     simp only [hq]
     exact ⟨by have:=h2.1;simp at this ⊢;omega,by simp⟩
    | some u =>
     simp only [hq]
     have h3:=h2.2 u rfl
     have h4:=h2.1
     simp only at h3 h4
     exact ih (.two op t u) m y (by simp [Nt.size];omega) (by omega)
theorem skipA_le (l x:List Tok) (h:skipA l=some x):x.length≤l.length:=by
 unfold skipA at h
 split at h
 ·simp at h;subst h;exact Nat.le_refl _
 ·simp at h
theorem skipB_le (l x:List Tok) (h:skipB l=some x):x.length≤l.length:=by
 match l,h with
 | (c,p)::r,h =>
  simp only [skipB] at h
  split at h
  ·simp at h;subst h;simp
  ·simp at h
theorem fits_seq (h:∀l,Fits l (aR pa f l)) (l:List Tok):Fits l (seqR pa f l):=by
 have h1:=fits_rep h l
 rw [seqR_eq]
 cases hp:repR pa f l with
 | mk o x =>
  rw [hp] at h1
  cases o with
  | none=>exact ⟨h1.1,by simp⟩
  | some t=>exact fits_goOn (fits_rep h) skipA_le _ t l x (h1.2 t rfl) h1.1
theorem fits_alt (h:∀l,Fits l (aR pa f l)) (l:List Tok):Fits l (altR pa f l):=by
 have h1:=fits_seq h l
 rw [altR_eq]
 cases hp:seqR pa f l with
 | mk o x =>
  rw [hp] at h1
  cases o with
  | none=>exact ⟨h1.1,by simp⟩
  | some t=>exact fits_goOn (fits_seq h) skipB_le _ t l x (h1.2 t rfl) h1.1
end
def atomTr:(n:Nat)→Atom n→Nt
 | 0,s=>.one s
 | _+1,.inl s=>.one s
 | n+1,.inr t=>altTr (atomTr n) t
theorem pTest_lt (l:List Tok):(pTest l).2.length≤l.length:=(pTest_goes l ⟨8,0,0,0,0⟩ rfl rfl).le
theorem pTests_le:∀(n:Nat) (l:List Tok),(pTests n l).2.length≤l.length:=by
 intro n
 induction n with
 | zero=>intro l;simp [pTests]
 | succ n ih =>
  intro l
  have h1:=pTest_lt l
  simp only [pTests]
  cases hp:pTest l with
  | mk o x =>
   rw [hp] at h1
   cases o with
   | none=>exact h1
   | some t =>
    match x,h1 with
    | [],h1=>simp
    | (c,p)::r,h1 =>
     simp only
     split
     ·have h2:=ih r
      cases hq:pTests n r with
      | mk q y=>rw [hq] at h2;cases q <;> simp at h1 h2 ⊢ <;> omega
     ·split
      ·simp at h1 ⊢;omega
      ·exact h1
theorem pName_le (l:List Tok):(pName l).2.length≤l.length:=by
 match l with
 | []=>simp [pName]
 | (c,p)::r=>simp only [pName];split <;> simp
theorem pBox_le (l:List Tok):(pBox l).2.length≤l.length:=by
 match l with
 | []=>simp [pBox]
 | (c,p)::r =>
  simp only [pBox]
  split
  ·have:=pTests_le (r.length+1) r;simp;omega
  ·simp
theorem pStep_le (l:List Tok):(pStep l).2.length≤l.length∧∀s,(pStep l).1=some s→(pStep l).2.length<l.length:=by
 match l with
 | []=>simp [pStep]
 | (c,p)::r =>
  have h1:=pName_le r
  have h2:=pBox_le (pName r).2
  simp only [pStep]
  split
  ·cases hb:pBox (pName r).2 with
   | mk o x=>rw [hb] at h2;cases o <;> simp at h2 ⊢ <;> omega
  ·simp
theorem fits_atom:∀(n:Nat) (l:List Tok),Fits l (aR (pAtom n) (atomTr n) l):=by
 intro n
 induction n with
 | zero =>
  intro l
  have h:=pStep_le l
  refine ⟨h.1,fun t ht => ?_⟩
  have ht':(pStep l).1.map Nt.one=some t:=ht
  show t.size+1+2*(pStep l).2.length≤2*l.length
  cases hp:(pStep l).1 with
  | none=>rw [hp] at ht';cases ht'
  | some s =>
   have:=h.2 s hp
   rw [hp] at ht'
   simp only [Option.map_some,Option.some.injEq] at ht'
   subst ht'
   simp only [Nt.size];omega
 | succ n ih =>
  intro l
  match l with
  | []=>simp [Fits,aR,pAtom]
  | (c,p)::r =>
   simp only [Fits,aR,pAtom]
   split
   ·have h1:=fits_alt ih r
    simp only [Fits,altR] at h1
    cases hp:pAlt (pAtom n) r with
    | mk o x =>
     rw [hp] at h1
     cases o with
     | none=>exact ⟨by have:=h1.1;simp at this ⊢;omega,by simp⟩
     | some t =>
      have h2:=h1.2 _ rfl
      match x,h2 with
      | [],h2=>exact ⟨by simp,by simp⟩
      | (d,q)::y,h2 =>
       simp only
       split
       ·refine ⟨by have:=h1.1;simp at this ⊢;omega,?_⟩
        intro u hu
        have hu':some (altTr (atomTr n) t)=some u:=hu
        simp only [Option.some.injEq] at hu'
        subst hu'
        simp at h2 ⊢;omega
       ·exact ⟨by have:=h1.1;simp at this ⊢;omega,by simp⟩
   ·have h:=pStep_le ((c,p)::r)
    cases hp:pStep ((c,p)::r) with
    | mk o x =>
     rw [hp] at h
     cases o with
     | none=>exact ⟨h.1,by simp⟩
     | some s =>
      have:=h.2 s rfl
      refine ⟨h.1,?_⟩
      intro u hu
      have hu':some (Nt.one s)=some u:=hu
      simp only [Option.some.injEq] at hu'
      subst hu'
      simp [Nt.size] at this ⊢;omega
end
end Go.Proofs.YtcboiapggnmpfabGreat
