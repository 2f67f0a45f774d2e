import Derived.Test.YtcboiapggnmpfaaGreatDoorQah
import Derived.Test.YtcboiapggnmpfaaGreatDoorQad
import Derived.Deep.DeepCutAuto
import Derived.Deep.MidRow
namespace Go.Proofs.YtcboiapggnmpfaaGreatDoor
set_option maxRecDepth 100000
set_option maxHeartbeats 1000000
set_option linter.unusedSimpArgs false
set_option linter.unusedVariables false
open Go.RowKit
open Value (slice)
theorem kindO_of {c:Int} (h:isKindB c=true):kindO c=kindV c:=by simp [kindO,h]
theorem kindO_not {c:Int} (h:isKindB c=false):kindO c = -1:=by simp [kindO,h]
theorem pStep_not {l:List Tok} (h:isKindB (hd l)=false):pStep l=(none,l):=by
 match l,h with
 | [],_=>rfl
 | (c,p)::r,h=>simp only [hd] at h;simp [pStep,h]
theorem isKind_pos {c:Int} (h:isKindB c=true):46≤c∧c≤100:=by
 have:c=46∨(97≤c∧c≤100):=by simpa [isKindB] using h
 omega
theorem kindV_bounds {c:Int} (h:isKindB c=true):0≤kindV c∧kindV c≤4:=by
 have:c=46∨(97≤c∧c≤100):=by simpa [isKindB] using h
 unfold kindV
 split <;> omega
structure SAt (w:World) (B:Nat) (p k n tv:Value):Prop where
 c0:w.cell? ⟨B,0,none⟩=some p
 c1:w.cell? ⟨B,1,none⟩=some k
 c2:w.cell? ⟨B,2,none⟩=some n
 c3:w.cell? ⟨B,3,none⟩=some tv
 fz:∀o,w.frozen? ⟨B,o,none⟩=false
theorem SAt.sm {w w':World} {B:Nat} {p k n tv:Value} (h:SAt w B p k n tv) (s:Sm w w' B):SAt w' B p k n tv :=
 ⟨(s.cell 0).trans h.c0,(s.cell 1).trans h.c1,(s.cell 2).trans h.c2,(s.cell 3).trans h.c3,fun o=>(s.froz o).trans (h.fz o)⟩
def StPost (s : ByteArray) (R : Nat) (w : World) (N : List Nd) (L : List (St × Value)) (r : Option St × List Tok) (e : Ending) (w' : World) : Prop :=
  ∃ (j : Nat) (nv sv : Value), At s j r.2 ∧ Kp (fun k => R ≤ k) w w' ∧
    ((r.1 = none ∧ e = .returned (.tuple #[.int .i64 0, .bool false]) ∧ RS w' R s j nv sv N L) ∨
     (∃ x tv, r.1 = some x ∧ e = .returned (.tuple #[.int .i64 N.length, .bool true]) ∧ RS w' R s j nv sv (N ++ [⟨0, L.length, 0, 0, 0, 0⟩]) (L ++ [(x, tv)])))
theorem SAt.lt {w:World} {B:Nat} {p k n tv:Value} (h:SAt w B p k n tv):B<w.heap.size:=World.block_lt_of_cell? w ⟨B,0,none⟩ h.c0
theorem SAt.drewN {w:World} {B:Nat} {p k n tv:Value} (h:SAt w B p k n tv) (m:Nat):SAt (w.drewN m) B p k n tv:=⟨h.c0,h.c1,h.c2,h.c3,h.fz⟩
theorem SAt.set2 {w:World} {B:Nat} {p k n tv:Value} (h:SAt w B p k n tv) (v:Value):SAt (w.setCell ⟨B,2,none⟩ v) B p k v tv:=by
 obtain ⟨c0,c1,c2,c3,fz⟩:=h
 constructor <;> simp [go_sem,c0,c1,c2,c3,fz]
theorem SAt.set3 {w:World} {B:Nat} {p k n tv:Value} (h:SAt w B p k n tv) (v:Value):SAt (w.setCell ⟨B,3,none⟩ v) B p k n v:=by
 obtain ⟨c0,c1,c2,c3,fz⟩:=h
 constructor <;> simp [go_sem,c0,c1,c2,c3,fz]
theorem SAt.new (w:World) (n:Nat) (p k:Value) (t:TypeId):SAt ((((((w.alloc (.cells #[.int .i64 0,.int .i64 0,.int .i64 0,.slice none 0 0] t)).drewN n).setCell ⟨w.heap.size,0,none⟩ p).setCell ⟨w.heap.size,1,none⟩ k).setCell ⟨w.heap.size,2,none⟩ (.int .i64 (-1))).setCell ⟨w.heap.size,3,none⟩ (.slice none 0 0)) w.heap.size p k (.int .i64 (-1)) (.slice none 0 0):=by
 constructor <;> simp [go_sem,World.cell?_alloc_at,World.frozen?_alloc_at]
theorem ownsKpX {S:Nat→Prop} {w w':World} {base n size:Nat} {e:TypeId} {v:Value} {xs:List Value} (h:w.ownsRow base e size v n xs) (k:Kp S w w') (hs:∀g,v.ownBlock=some g→¬S g):w'.ownsRow base e size v n xs:=by
 refine ⟨h.1,?_⟩
 rcases h.2 with hn|⟨g,cap,cur,rfl,hb,hg,rest⟩
 ·exact .inl hn
 ·refine .inr ⟨g,cap,cur,rfl,hb,?_,rest⟩
  rw [k.block g (Array.getElem?_eq_some_iff.1 hg).1 (hs g rfl)]
  exact hg
theorem ownsBaseX {w:World} {base base' n size:Nat} {e:TypeId} {v:Value} {xs:List Value} (h:w.ownsRow base e size v n xs) (hb:base'≤base):w.ownsRow base' e size v n xs:=by
 refine ⟨h.1,?_⟩
 rcases h.2 with hn|⟨g,cap,cur,rfl,h1,rest⟩
 ·exact .inl hn
 ·exact .inr ⟨g,cap,cur,rfl,Nat.le_trans hb h1,rest⟩
theorem ownsLenX {w:World} {base n size:Nat} {e:TypeId} {v:Value} {xs:List Value} (h:w.ownsRow base e size v n xs):∃p c,v=.slice p n c:=by
 rcases h.2 with ⟨h2,h3⟩ | ⟨g',cap',cur,h2,_⟩
 ·exact ⟨none,0,by rw [h2,h3]⟩
 ·exact ⟨_,_,h2⟩
theorem pTests_len:∀(n:Nat) (l:List Tok) (ts:List Tst),(pTests n l).1=some ts→ts.length≤n:=by
 intro n
 induction n with
 | zero=>intro l ts h;simp [pTests] at h
 | succ n ih =>
  intro l ts h
  simp only [pTests] at h
  split at h
  ·simp at h
  ·simp at h
  ·split at h
   ·split at h
    ·simp at h
    ·rename_i ts' x hts
     simp at h
     subst h
     have:=ih _ ts' (by rw [hts])
     simp;omega
   ·split at h
    ·simp at h;subst h;simp
    ·simp at h
theorem RS.st {w w':World} {R i j:Nat} {s:ByteArray} {nv sv sv':Value} {N:List Nd} {L:List (St×Value)} {x:St×Value} (h:RS w R s i nv sv N L) (hr:Rd w' R s j nv sv') (ho:w'.ownsRow (R+1) 100 4 sv' (L++[x]).length (stsC (L++[x]))) (hk:Kp (fun k=>k=R∨sv.ownBlock=some k) w w') (hx:TestsAt w' R x):RS w' R s j nv sv' N (L++[x]) :=
 ⟨hr,ownsRow_apart h.nodes h.steps (by decide) (Nat.lt_succ_self R) hk,ho,fun y hy=>by
  rcases List.mem_append.1 hy with hy|hy
  ·exact ownsRow_apart (h.tests y hy) h.steps (by decide) (Nat.lt_succ_self R) hk
  ·simp at hy;subst hy;exact hx⟩
theorem Rd.setS {w:World} {R:Nat} {s:ByteArray} {i:Nat} {nv sv:Value} (h:Rd w R s i nv sv) (v:Value):Rd (w.setCell ⟨R,3,none⟩ v) R s i nv v:=by
 obtain ⟨c0,c1,c2,c3,z1,z2,z3⟩:=h
 constructor <;> simp [go_sem,c0,c1,c2,c3,z1,z2,z3]
theorem Tryz.info100:(Tryz.prog.info? 100).map (fun i=>(i.zero,i.size,i.bytes))=some (some (.agg #[.int .i64 0,.int .i64 0,.int .i64 0,.slice none 0 0]),4,48):=by kernel_rfl
theorem newsX (w2:World) (cs:Array Value) (t:TypeId):∀j u,cs.toList[j]? = some u→(w2.alloc (.cells cs t)).cell? ((⟨w2.heap.size,0,none⟩:Addr).add j)=some u :=
 World.news_of_block (heap_alloc_new w2 (.cells cs t))
theorem stC_one (x:St) (p:Option Addr) (n c:Nat):∀u∈stC (x,.slice p n c),u.oneCell'=true:=by
 intro u hu
 simp only [stC,List.mem_cons,List.not_mem_nil,or_false] at hu
 rcases hu with h|h|h|h <;> subst h <;> rfl
theorem pName_of {r:List Tok} (h:isNameB (hd r)=true):∃c p r',r=(c,p)::r'∧hd r=c∧pName r=(c - 65,r'):=by
 match r,h with
 | [],h=>simp [hd,isNameB] at h
 | (c,p)::r',h=>exact ⟨c,p,r',rfl,rfl,by simp only [hd] at h;simp [pName,h]⟩
theorem pName_no {r:List Tok} (h:isNameB (hd r)=false):pName r=(-1,r):=by
 match r,h with
 | [],_=>rfl
 | (c,p)::r',h=>simp only [hd] at h;simp [pName,h]
theorem pBox_of {x:List Tok} (h:hd x=91):∃p r,x=(91,p)::r∧pBox x=pTests (r.length+1) r:=by
 match x,h with
 | [],h=>simp [hd] at h
 | (c,p)::r,h=>simp only [hd] at h;subst h;exact ⟨p,r,rfl,by simp [pBox]⟩
theorem pBox_no {x:List Tok} (h:¬hd x=91):pBox x=(some [],x):=by
 match x,h with
 | [],_=>rfl
 | (c,p)::r,h=>simp only [hd] at h;simp [pBox,h]
theorem readStep_any (s:ByteArray) (R i:Nat) (nv sv:Value) (N:List Nd) (L:List (St×Value)) (l:List Tok) (w:World) (h:RS w R s i nv sv N L) (hs:s.size≤1000) (ha:At s i l) (hN:N.length≤100000) (hL:L.length≤100000) :
  Calls Tryz.prog 124 #[.pointer (some ⟨R,0,none⟩)] w (StPost s R w N L (pStep l)):=by
 have hm:s.size≤maxLen:=by unfold maxLen;omega
 have hl:=h.rd.lt
 have hne:¬w.heap.size=R:=by omega
 have hne':¬R=w.heap.size:=by omega
 have c1:=h.rd.c1
 have hdr:∀n o,(w.drewN n).alloc o=(w.alloc o).drewN n:=fun _ _=>rfl
 have hdr1:∀o,w.drew.alloc o=(w.alloc o).drew:=fun _=>rfl
 have H:Hid (RS w R s i nv sv N L):=h
 have HA:Hid (At s i l):=ha
 obtain ⟨b0,b1⟩:=ha.hd_bounds
 generalize hc:hd l=c at b0 b1
 have HC:Hid (hd l=c):=hc
 clear hc h ha
 generalize hk:kindO c=kv
 have HK:Hid (kindO c=kv):=hk
 clear hk
 go_enter Tryz.func124,Tryz.ntmps124
 go_wp2
 have HRN:Hid (∀n a,Rd ((((((w.alloc (.cells #[.int .i64 0,.int .i64 0,.int .i64 0,.slice none 0 0] 100)).drewN n).setCell ⟨w.heap.size,0,none⟩ (.int .i64 i)).setCell ⟨w.heap.size,1,none⟩ a).setCell ⟨w.heap.size,2,none⟩ (.int .i64 (-1))).setCell ⟨w.heap.size,3,none⟩ (.slice none 0 0)) R s i nv sv):=by
  intro n a
  exact ((((((H.out.rd.alloc _).drewN n).other hne _).other hne _).other hne _).other hne _)
 have HKN:Hid (∀n a,Kp (fun k=>k=R) w ((((((w.alloc (.cells #[.int .i64 0,.int .i64 0,.int .i64 0,.slice none 0 0] 100)).drewN n).setCell ⟨w.heap.size,0,none⟩ (.int .i64 i)).setCell ⟨w.heap.size,1,none⟩ a).setCell ⟨w.heap.size,2,none⟩ (.int .i64 (-1))).setCell ⟨w.heap.size,3,none⟩ (.slice none 0 0))):=by
  intro n a
  have hB:w.heap.size≤w.heap.size:=Nat.le_refl _
  exact ((((((Kp.refl _ w).alloc _).drewN n).setCell (p:=⟨w.heap.size,0,none⟩) (Or.inl hB) _).setCell (p:=⟨w.heap.size,1,none⟩) (Or.inl hB) _).setCell (p:=⟨w.heap.size,2,none⟩) (Or.inl hB) _).setCell (p:=⟨w.heap.size,3,none⟩) (Or.inl hB) _
 go_cut [4] (fun t wr=>t=.pointer (some ⟨w.heap.size,0,none⟩)∧SAt wr w.heap.size (.int .i64 i) (.int .i64 kv) (.int .i64 (-1)) (.slice none 0 0)∧Rd wr R s i nv sv∧Kp (fun k=>k=R) w wr)
 case first =>
  go_region_with ((first
    | (go_at_call 61;refine (peek_at (s:=s) (i:=i) (nv:=nv) (sv:=sv) (l:=l) ?_ hm HA.out).mono ?_;(first|exact H.out.rd.drew|exact (H.out.rd.alloc _).drew|exact H.out.rd.drewN _|exact (H.out.rd.alloc _).drewN _);rw [HC.out];rintro e wx ⟨rfl,n3,rfl⟩)
    | (go_at_call 119;refine (kindOf_any _ _ b0 b1).mono ?_;rw [HK.out];rintro e wx ⟨rfl,rfl⟩)))
  all_goals go_wp2_with fail
  all_goals go_meet
  all_goals go_light
  all_goals exact ⟨rfl,SAt.new w _ _ _ _,HRN.out _ _,HKN.out _ _⟩
 case rest =>
  obtain ⟨rfl,hS,hR,hK⟩:=hcut
  have HS:Hid (SAt wc w.heap.size (.int .i64 i) (.int .i64 kv) (.int .i64 (-1)) (.slice none 0 0)):=hS
  have HR:Hid (Rd wc R s i nv sv):=hR
  have HKK:Hid (Kp (fun k=>k=R) w wc):=hK
  have d1:=hS.c1
  have hBl:=hS.lt
  clear hS hR hK HRN HKN c1 hdr hdr1
  by_cases hkd:isKindB c=true
  ·have hkv:Hid (kv=kindV c):=by rw [←HK.out];exact kindO_of hkd
   obtain ⟨v0,v1⟩:=kindV_bounds hkd
   have hk0:0≤kv:=by rw [hkv.out];exact v0
   have hcp:=isKind_pos hkd
   obtain ⟨p,r,hlr⟩:=hd_cons_of HC.out (by omega)
   subst hlr
   clear v0 v1 hcp
   go_wp2_with fail
   refine (pass_any s R i nv sv c p r _ HR.out hm HA.out).mono ?_
   rintro e w1 ⟨rfl,j1,a1,r1,k1⟩
   have S1:Hid (SAt w1 w.heap.size (.int .i64 i) (.int .i64 kv) (.int .i64 (-1)) (.slice none 0 0)):=HS.out.sm (k1.sm hBl hne)
   have R1:Hid (Rd w1 R s j1 nv sv):=r1
   have A1:Hid (At s j1 r):=a1
   have K1:Hid (Kp (fun k=>k=R) w w1):=HKK.out.trans k1
   have hBl1:=S1.out.lt
   obtain ⟨b2,b3⟩:=a1.hd_bounds
   have HPI:Hid (p=i):=by
    obtain ⟨_,_,hp,_⟩:=HA.out.cons
    exact hp
   clear a1 r1 k1 d1 HS HR HKK
   go_wp2_with fail
   refine (peek_at R1.out hm A1.out).mono ?_
   rintro e w2 ⟨rfl,n2,rfl⟩
   generalize hnm:nameO (hd r)=nm
   have HNM:Hid (nameO (hd r)=nm):=hnm
   clear hnm
   go_wp2_with fail
   refine (nameOf_any (hd r) _ b2 b3).mono ?_
   rw [HNM.out]
   rintro e w3 ⟨rfl,rfl⟩
   have S2:Hid (SAt ((w1.drewN n2).setCell ⟨w.heap.size,2,none⟩ (.int .i64 nm)) w.heap.size (.int .i64 i) (.int .i64 kv) (.int .i64 nm) (.slice none 0 0)):=(S1.out.drewN n2).set2 _
   have R2:Hid (Rd ((w1.drewN n2).setCell ⟨w.heap.size,2,none⟩ (.int .i64 nm)) R s j1 nv sv):=(R1.out.drewN n2).other hne _
   have K2:Hid (Kp (fun k=>k=R) w ((w1.drewN n2).setCell ⟨w.heap.size,2,none⟩ (.int .i64 nm))):=(K1.out.drewN n2).setCell (p:=⟨w.heap.size,2,none⟩) (Or.inl (Nat.le_refl _)) _
   have f2:∀o,w1.frozen? ⟨w.heap.size,o,none⟩=false:=S1.out.fz
   have e2:=S1.out.c2
   clear S1 R1 K1
   go_upto_if 27 with fail
   go_cut [] (fun wr=>∃j:Nat,At s j (pName r).2∧SAt wr w.heap.size (.int .i64 i) (.int .i64 kv) (.int .i64 (pName r).1) (.slice none 0 0)∧Rd wr R s j nv sv∧Kp (fun k=>k=R) w wr)
   case first =>
    by_cases hnb:isNameB (hd r)=true
    ·obtain ⟨c',p',r',hr',hc',hpn⟩:=pName_of hnb
     have hn65:=isName_bounds hnb
     have hnm:nm=c' - 65:=by rw [←HNM.out,nameO_of hnb,hc']
     have hnn:(nm != -1)=true:=by rw [bne_iff_ne];omega
     have HA2:Hid (At s j1 ((c',p')::r')):=by rw [←hr'];exact A1.out
     have HNE:Hid (nm=c' - 65):=hnm
     have HPN:Hid (pName r=(c' - 65,r')):=hpn
     clear hnm hr' hc' hpn hn65
     go_wp2_with fail
     refine (pass_any s R j1 nv sv c' p' r' _ R2.out hm HA2.out).mono ?_
     rintro e w4 ⟨rfl,j4,a4,r4,k4⟩
     have hB2:=S2.out.lt
     have S4:Hid (SAt w4 w.heap.size (.int .i64 i) (.int .i64 kv) (.int .i64 nm) (.slice none 0 0)):=S2.out.sm (k4.sm hB2 hne)
     have K4:Hid (Kp (fun k=>k=R) w w4):=K2.out.trans k4
     have R4:Hid (Rd w4 R s j4 nv sv):=r4
     have A4:Hid (At s j4 r'):=a4
     clear a4 r4 k4
     go_wp2_with fail
     go_meet
     case rel =>
      rw [HPN.out]
      refine ⟨j4,A4.out,?_,R4.out,K4.out⟩
      rw [←HNE.out];exact S4.out
    ·have hnb':isNameB (hd r)=false:=by simpa using hnb
     have hnm:nm = -1:=by rw [←HNM.out];exact nameO_not hnb'
     have HPN:Hid (pName r=(-1,r)):=pName_no hnb'
     subst hnm
     go_wp2_with fail
     go_meet
     case rel =>
      rw [HPN.out]
      exact ⟨j1,A1.out,S2.out,R2.out,K2.out⟩
   case rest =>
    obtain ⟨j5,a5,s5,r5,k5⟩:=hcut
    generalize hx:(pName r).2=x at a5
    generalize hn:(pName r).1=nm5 at s5
    have HX:Hid ((pName r).2=x):=hx
    have HN5:Hid ((pName r).1=nm5):=hn
    have A5:Hid (At s j5 x):=a5
    have S5:Hid (SAt wc w.heap.size (.int .i64 i) (.int .i64 kv) (.int .i64 nm5) (.slice none 0 0)):=s5
    have R5:Hid (Rd wc R s j5 nv sv):=r5
    have K5:Hid (Kp (fun k=>k=R) w wc):=k5
    obtain ⟨b4,b5⟩:=a5.hd_bounds
    clear hx hn a5 s5 r5 k5 S2 R2 K2 f2 e2 HNM A1 b2 b3
    go_wp2_with fail
    refine (peek_at R5.out hm A5.out).mono ?_
    rintro e w6 ⟨rfl,n6,rfl⟩
    have S6:Hid (SAt (wc.drewN n6) w.heap.size (.int .i64 i) (.int .i64 kv) (.int .i64 nm5) (.slice none 0 0)):=S5.out.drewN n6
    have R6:Hid (Rd (wc.drewN n6) R s j5 nv sv):=R5.out.drewN n6
    have K6:Hid (Kp (fun k=>k=R) w (wc.drewN n6)):=K5.out.drewN n6
    clear S5 R5 K5
    generalize wc.drewN n6=w7 at S6 R6 K6
    go_upto_if 32 with fail
    go_cut [] (fun wr=>∃(j:Nat) (tv:Value) (ts:List Tst),(pBox x).1=some ts∧At s j (pBox x).2∧SAt wr w.heap.size (.int .i64 i) (.int .i64 kv) (.int .i64 nm5) tv∧wr.ownsRow (R+1) 118 11 tv ts.length (tstsC ts)∧ts.length≤2000∧Rd wr R s j nv sv∧Kp (fun k=>k=R) w wr)
    case first =>
     by_cases hq:hd x=91
     ·obtain ⟨p',r',hx',hpb⟩:=pBox_of hq
      have HPB:Hid (pBox x=pTests (r'.length+1) r'):=hpb
      have HA7:Hid (At s j5 ((91,p')::r')):=by rw [←hx'];exact A5.out
      rw [hq]
      clear hx' hpb hq
      go_wp2_with fail
      refine (readTests_any s R j5 nv sv p' r' _ R6.out hs HA7.out).mono ?_
      rw [←HPB.out]
      rintro e w8 ⟨⟨j8,a8,r8,k8⟩,t1,t2⟩
      have hB6:=S6.out.lt
      have S8:Hid (SAt w8 w.heap.size (.int .i64 i) (.int .i64 kv) (.int .i64 nm5) (.slice none 0 0)):=S6.out.sm (k8.sm hB6 hne)
      have R8:Hid (Rd w8 R s j8 nv sv):=r8
      have K8:Hid (Kp (fun k=>k=R) w w8):=K6.out.trans k8
      have A8:Hid (At s j8 (pBox x).2):=a8
      have hs8:=k8.size
      clear a8 r8 k8
      cases hb:(pBox x).1 with
      | none =>
       have he:=t1 hb
       subst he
       have HB:Hid ((pBox x).1=none):=hb
       clear t1 t2 hb
       go_wp2
       go_ret2
       have e1:pStep ((c,p)::r)=(none,(pBox x).2):=by
        simp only [pStep,hkd,if_true,HX.out]
        have:pBox x=(none,(pBox x).2):=by rw [←HB.out]
        rw [this]
       rw [e1]
       exact ⟨j8,nv,sv,A8.out,K8.out.mono (fun k _ e=>by omega),Or.inl ⟨rfl,rfl,H.out.kp K8.out R8.out⟩⟩
      | some ts =>
       obtain ⟨v,he,hown⟩:=t2 ts hb
       subst he
       obtain ⟨vp,vc,rfl⟩:=ownsLenX hown
       have HB:Hid ((pBox x).1=some ts):=hb
       have hlen:ts.length≤2000:=by
        have h1:=pTests_len _ _ ts (by rw [←HPB.out];exact hb)
        have h2:=HA7.out.length
        simp at h2
        omega
       have HO:Hid (w8.ownsRow (R+1) 118 11 (.slice vp ts.length vc) ts.length (tstsC ts)):=ownsBaseX hown (by omega)
       have HOB:Hid (∀g,(slice vp ts.length vc).ownBlock=some g→w7.heap.size≤g):=fun g hg=>(hown.lt g hg).1
       have f8:∀o,w8.frozen? ⟨w.heap.size,o,none⟩=false:=S8.out.fz
       have e8:=S8.out.c3
       have hB8:=S8.out.lt
       clear t1 t2 hb hown
       go_wp2_with fail
       go_meet
       case rel =>
        refine ⟨j8,.slice vp ts.length vc,ts,HB.out,A8.out,S8.out.set3 _,?_,hlen,R8.out.other hne _,K8.out.setCell (p:=⟨w.heap.size,3,none⟩) (Or.inl (Nat.le_refl _)) _⟩
        exact ownsKpX HO.out ((Kp.refl (fun b=>b=w.heap.size) w8).setCell (p:=⟨w.heap.size,3,none⟩) (Or.inr rfl) _) (fun g hg e=>by have:=HOB.out g hg;omega)
     ·have HPB:Hid (pBox x=(some [],x)):=pBox_no hq
      have hq':(hd x == 91)=false:=by simp [hq]
      clear hq
      go_wp2_with fail
      go_meet
      case rel =>
       rw [HPB.out]
       exact ⟨j5,.slice none 0 0,[],rfl,A5.out,S6.out,World.ownsRow_nil _ _ _ _,by simp,R6.out,K6.out⟩
    case rest =>
     obtain ⟨j9,tv,ts,h9,a9,s9,o9,l9,r9,k9⟩:=hcut
     have H9:Hid ((pBox x).1=some ts):=h9
     have A9:Hid (At s j9 (pBox x).2):=a9
     have S9:Hid (SAt wc w.heap.size (.int .i64 i) (.int .i64 kv) (.int .i64 nm5) tv):=s9
     have O9:Hid (wc.ownsRow (R+1) 118 11 tv ts.length (tstsC ts)):=o9
     have R9:Hid (Rd wc R s j9 nv sv):=r9
     have K9:Hid (Kp (fun k=>k=R) w wc):=k9
     have Q9:Hid (RS wc R s j9 nv sv N L):=H.out.kp k9 r9
     obtain ⟨sp,sc,hsv⟩:=ownsLenX H.out.steps
     subst hsv
     obtain ⟨tp,tc,htv⟩:=ownsLenX o9
     subst htv
     have hsb:=H.out.steps.lt
     have HSB:Hid (∀b,(slice sp L.length sc).ownBlock=some b→R+1≤b∧b<w.heap.size):=hsb
     have hRs:¬some R=(slice sp L.length sc).ownBlock:=by intro e;have:=hsb R e.symm;omega
     have hown:wc.ownsRow (R+1) 100 4 (.slice sp L.length sc) L.length (stsC L):=Q9.out.steps
     have c3:=r9.c3
     have z3:=r9.z3
     have hlc:R<wc.heap.size:=r9.lt
     obtain ⟨g0,g1,g2,g3,gz⟩:=s9
     have hBc:=S9.out.lt
     have HXS:Hid (pStep ((c,p)::r)=(some ⟨kv,nm5,p,ts⟩,(pBox x).2)):=by
      show _=_
      simp only [pStep,hkd,if_true,HX.out]
      have:pBox x=(some ts,(pBox x).2):=by rw [←H9.out]
      rw [this]
      simp only [HN5.out,hkv.out]
     obtain ⟨i0,hi,hz0,hz1,hz2⟩:=info_parts Tryz.info100
     clear h9 a9 o9 r9 k9 S6 R6 K6 A5 hsb b0 b1 b4 b5 hBl hBl1
     go_wp2
     go_region_law
      ((refine step_append_lies _ (by rfl) _ _ _ (by rfl) (R+1) 100 i0 (.agg #[.int .i64 0,.int .i64 0,.int .i64 0,.slice none 0 0]) 4 48 Tryz.underlying68 hi hz0 hz1 hz2 rfl (by omega) (.slice sp L.length sc) L.length (stsC L) (by rfl) (by exact hown.alloc _) ⟨wc.heap.size,0,none⟩ 1 1 (stC ((⟨kv,nm5,i,ts⟩:St),.slice tp ts.length tc)) (by rfl) (by rfl) (by exact newsX wc _ _) (stC_one _ _ _ _) (by omega) (by unfold maxLen;omega) (by omega) (by simp;omega) (wc.heap.size+1) (by simp) ?_;intro g cap w1 hown1 hgrow hat hlt;have kR:∀o,w1.cell? ⟨R,o,none⟩=wc.cell? ⟨R,o,none⟩:=(fun o=>(hgrow.cell_far _ (by simp;omega) hRs).trans (by simp [go_sem,hlc,World.cell?_alloc_past]));have kz:∀o,w1.frozen? ⟨R,o,none⟩=wc.frozen? ⟨R,o,none⟩:=(fun o=>(hgrow.frozen_far _ (by simp;omega) hRs).trans (by simp [go_sem,hlc,World.frozen?_alloc_past]))))
     all_goals
      have R1:Hid (Rd w1 R s j9 nv (.slice sp L.length sc)):=Rd.grown ((R9.out.alloc _).drew) hgrow hRs
      have K1:Hid (Kp (fun k=>k=R∨(slice sp L.length sc).ownBlock=some k) wc w1):=(((Kp.refl _ wc).alloc _).drew).grown hgrow (fun k hk=>Or.inr (Or.inr hk))
      have O1:Hid (w1.ownsRow (R+1) 100 4 (.slice (some ⟨g,0,none⟩) (L.length+1) cap) (L++[((⟨kv,nm5,i,ts⟩:St),slice tp ts.length tc)]).length (stsC (L++[((⟨kv,nm5,i,ts⟩:St),slice tp ts.length tc)]))):=by
       have e1:(L++[((⟨kv,nm5,i,ts⟩:St),slice tp ts.length tc)]).length=L.length+1:=by simp
       have e2:stsC (L++[((⟨kv,nm5,i,ts⟩:St),slice tp ts.length tc)])=stsC L++stC ((⟨kv,nm5,i,ts⟩:St),slice tp ts.length tc):=by simp [stsC]
       show w1.ownsRow _ _ _ _ _ _
       rw [e1,e2]
       exact hown1
      have K2:Hid (Kp (fun k=>k=R∨(slice sp L.length sc).ownBlock=some k) wc (w1.setCell ⟨R,3,none⟩ (.slice (some ⟨g,0,none⟩) (L.length+1) cap))):=K1.out.setCell (p:=⟨R,3,none⟩) (Or.inr (Or.inl rfl)) _
      have Q2:Hid (RS (w1.setCell ⟨R,3,none⟩ (.slice (some ⟨g,0,none⟩) (L.length+1) cap)) R s j9 nv (.slice (some ⟨g,0,none⟩) (L.length+1) cap) N (L++[((⟨kv,nm5,i,ts⟩:St),slice tp ts.length tc)])) :=
       Q9.out.st (R1.out.setS _) (ownsRow_setCell_below O1.out (a:=⟨R,3,none⟩) (Nat.lt_succ_self R) _) K2.out (ownsRow_apart O9.out hown (by decide) (Nat.lt_succ_self R) K2.out)
      clear hown1 hgrow hat g0 g1 g2 g3 gz c3 z3 kR kz
      go_wp2_with fail
      refine (addNode_any s R j9 nv (.slice (some ⟨g,0,none⟩) (L.length+1) cap) N 0 L.length 0 0 0 0 _ Q2.out.rd Q2.out.nodes hN).mono ?_
      rintro e w3 ⟨rfl,nv',r3,o3,k3,_⟩
      have hnb:=Q2.out.nodes.lt
      go_wp2
      go_ret2
      rw [HXS.out,HPI.out]
      refine ⟨j9,nv',_,A9.out,?_,Or.inr ⟨_,_,rfl,rfl,Q2.out.nd r3 o3 k3⟩⟩
      refine ((K9.out.mono (T:=fun k=>R≤k) (fun k _ e=>by omega)).trans (K2.out.mono (fun k _ e => ?_))).trans (k3.mono (fun k _ e => ?_))
      ·rcases e with e|e
       ·omega
       ·have:=HSB.out k e;omega
      ·rcases e with e|e
       ·omega
       ·have:=hnb k e;omega
  ·have hkv:kv = -1:=by rw [←HK.out];exact kindO_not (by simpa using hkd)
   subst hkv
   go_wp2
   go_ret2
   have hf:isKindB (hd l)=false:=by rw [HC.out];simpa using hkd
   rw [pStep_not hf]
   exact ⟨i,nv,sv,HA.out,HKK.out.mono (fun k _ e=>by omega),Or.inl ⟨rfl,rfl,H.out.kp HKK.out HR.out⟩⟩
end Go.Proofs.YtcboiapggnmpfaaGreatDoor
