import Derived.Test.YtcboiapggnmpfabGreatQbz
import Derived.Test.YtcboiapggnmpfabGreatQbx
namespace Go.Proofs.YtcboiapggnmpfabGreat
set_option maxRecDepth 100000
set_option maxHeartbeats 16000000
set_option linter.unusedSimpArgs false
set_option linter.unusedVariables false
open Go.RowKit
structure TrmR (code:List In) (L:List Evt):Prop where
 o0:∀i e,L[i]? = some e→(feedS (bI ⟨#[49,49,49]⟩) code (beginsS code) 200 200 (runS (bI ⟨#[49,49,49]⟩) code (beginsS code) 200 200 ⟨[],0,0,false⟩ (L.take i)) e).2.2=0
 o1:∀i e,L[i]? = some e→(feedS (bI ⟨#[49,49,49]⟩) (moreOf code) (beginsS (moreOf code)) 200 200 (runS (bI ⟨#[49,49,49]⟩) (moreOf code) (beginsS (moreOf code)) 200 200 ⟨[],0,0,false⟩ (L.take i)) e).2.2=0
 o2:∀i e,L[i]? = some e→(feedS (bI ⟨#[49,49,49]⟩) (trimOf code) (beginsS (trimOf code)) 200 200 (runS (bI ⟨#[49,49,49]⟩) (trimOf code) (beginsS (trimOf code)) 200 200 ⟨[],0,0,false⟩ (L.take i)) e).2.2=0
 e1:outS (bI ⟨#[49,49,49]⟩) (moreOf code) (beginsS (moreOf code)) 200 200 ⟨[],0,0,false⟩ L=outS (bI ⟨#[49,49,49]⟩) code (beginsS code) 200 200 ⟨[],0,0,false⟩ L
 e2:outS (bI ⟨#[49,49,49]⟩) (trimOf code) (beginsS (trimOf code)) 200 200 ⟨[],0,0,false⟩ L=outS (bI ⟨#[49,49,49]⟩) code (beginsS code) 200 200 ⟨[],0,0,false⟩ L
 s:∀l∈outS (bI ⟨#[49,49,49]⟩) code (beginsS code) 200 200 ⟨[],0,0,false⟩ L,l.length≤1000∧∀m∈l,MtOk m
structure TrmK (s:ByteArray) (code:List In):Prop where
 n:NamK s code
 l4:4≤code.length
 l5:code.length≤500
 t0:TrimIs code 0 code
 v1:ValidIs (moreOf code) 0 0
 i1:∀x∈moreOf code,InOk x
 t1:TrimIs (moreOf code) 0 (trimOf code)
 v2:ValidIs (trimOf code) 0 0
 i2:∀x∈trimOf code,InOk x
 h:∀x∈code,(x.op=4∨x.op=5 → -1000000≤x.a∧x.a≤1000000)∧(x.op=5 → -1000000≤x.b∧x.b≤1000000)
 r:∀L:List Evt,L.length≤12→GoesE (bI ⟨#[49,49,49]⟩) 0 L→TrmR code L
theorem bgB_is {code c2:List In} {d:Nat} {ex:Nat→Bool} (h:bgB code c2 d ex=true):(∀b∈beginsS c2,(∃b'∈beginsS code,b=b'+d)∨ex b=true)∧(∀b∈beginsS code,b+d∈beginsS c2∧isTk code b=true):=by
 unfold bgB at h
 simp only [Bool.and_eq_true,List.all_eq_true,Bool.or_eq_true,decide_eq_true_eq,List.contains_iff_mem] at h
 refine ⟨fun b hb => ?_,fun b hb=>h.2 b hb⟩
 rcases h.1 b hb with h1|h1
 ·exact Or.inr h1
 ·exact Or.inl ⟨b - d,h1.2,by omega⟩
theorem free_begins {c:List In} {n:Nat} (h:freeB c (beginsS c) n=true) (hI:Inb c):∀b∈beginsS c,b+1<c.length∧∃x,c[b]? = some x∧x.op=0:=by
 unfold freeB at h
 simp only [Bool.and_eq_true] at h
 intro b hb
 obtain ⟨x,hx,h0⟩:=isTk_is ((List.all_eq_true.1 h.1.1) b hb)
 exact ⟨(hI b x hx).1 (Or.inl h0),x,hx,h0⟩
theorem tm_is {s:ByteArray} {code:List In} (hN:NamK s code) (h:tmB code=true):TrmK s code:=by
 unfold tmB at h
 simp only [Bool.and_eq_true,decide_eq_true_eq] at h
 obtain ⟨⟨⟨⟨⟨⟨⟨⟨⟨⟨h1,h2⟩,h3⟩,h4⟩,h5⟩,h6⟩,h7⟩,h8⟩,h9⟩,h10⟩,h11⟩:=h
 have v1:ValidIs (moreOf code) 0 0:=by
  unfold trimB at h2
  simp only [Bool.and_eq_true] at h2
  exact validB_is h2.1.1.1
 have v2:=validB_is h3
 obtain ⟨_,_,hA⟩:=hN.p.v.all
 obtain ⟨_,_,hA1⟩:=v1.all
 obtain ⟨_,_,hA2⟩:=v2.all
 have hI:=hA.inb
 have b0:=free_begins hN.f hI
 have b1:=free_begins h6 hA1.inb
 have b2:=free_begins h7 hA2.inb
 obtain ⟨m1,m2⟩:=bgB_is h8
 obtain ⟨n1,n2⟩:=bgB_is h9
 have E1:EmbK code (moreOf code) 3 (beginsS code) (beginsS (moreOf code)) (fun a=>a=1):=⟨more_emb code,hI,b0,fun b hb=>by
  rcases m1 b hb with h|h
  ·exact Or.inl h
  ·right
   have:b=1:=by simpa using h
   subst this
   rfl,fun b hb=>(m2 b hb).1,fun hand t ht u hg=>more_w code hand t ht u hg,fun hand t ht u=>more_n code hand t ht u⟩
 have E2:EmbK code (trimOf code) 1 (beginsS code) (beginsS (trimOf code)) (fun _=>False):=by
  refine ⟨trim_emb code,hI,b0,?_,fun b hb=>(n2 b hb).1,fun _ _ h=>False.elim h,fun _ _ h=>False.elim h⟩
  intro b hb
  rcases n1 b hb with h|h
  ·exact Or.inl h
  ·cases h
 refine ⟨hN,h10,h11,trimB_is h1,v1,inOkB_is h4,trimB_is h2,v2,inOkB_is h5,?_,?_⟩
 ·intro x hx
  obtain ⟨k,hk⟩:=List.mem_iff_getElem?.1 hx
  obtain ⟨_,i2,i3⟩:=hI k x hk
  exact ⟨fun h=>by have:=i2 h;omega,fun h=>by have:=i3 h;omega⟩
 ·intro L hL hg
  have k0:∀i e,L[i]? = some e→(feedS (bI ⟨#[49,49,49]⟩) code (beginsS code) 200 200 (runS (bI ⟨#[49,49,49]⟩) code (beginsS code) 200 200 ⟨[],0,0,false⟩ (L.take i)) e).2.2=0:=fun i e hi=>(free_of hN.f hL hg hi).1
  have k1:∀i e,L[i]? = some e→(feedS (bI ⟨#[49,49,49]⟩) (moreOf code) (beginsS (moreOf code)) 200 200 (runS (bI ⟨#[49,49,49]⟩) (moreOf code) (beginsS (moreOf code)) 200 200 ⟨[],0,0,false⟩ (L.take i)) e).2.2=0:=fun i e hi=>(free_of h6 hL hg hi).1
  have k2:∀i e,L[i]? = some e→(feedS (bI ⟨#[49,49,49]⟩) (trimOf code) (beginsS (trimOf code)) 200 200 (runS (bI ⟨#[49,49,49]⟩) (trimOf code) (beginsS (trimOf code)) 200 200 ⟨[],0,0,false⟩ (L.take i)) e).2.2=0:=fun i e hi=>(free_of h7 hL hg hi).1
  refine ⟨k0,k1,k2,emb_out E1 hA1.inb (fun b hb=>(b1 b hb).1) k0 k1,emb_out E2 hA2.inb (fun b hb=>(b2 b hb).1) k0 k2,?_⟩
  intro l hl
  have:=out_small hL hI (fun b hb=>(b0 b hb).1) k0 l hl
  exact ⟨by omega,fun m hm=>(this.2 m hm).ok⟩
theorem names5_at:∀k,k<10→∃s code,namesC[k]? = some (.string s)∧TrmK s code:=by
 intro k hk
 rcases (show k=0∨k=1∨k=2∨k=3∨k=4∨k=5∨k=6∨k=7∨k=8∨k=9 by omega) with rfl|rfl|rfl|rfl|rfl|rfl|rfl|rfl|rfl|rfl
 ·exact ⟨_,ncode0,rfl,tm_is ⟨nprog0,by decide,nfree0⟩ tmd0⟩
 ·exact ⟨_,ncode1,rfl,tm_is ⟨nprog1,by decide,nfree1⟩ tmd1⟩
 ·exact ⟨_,ncode2,rfl,tm_is ⟨nprog2,by decide,nfree2⟩ tmd2⟩
 ·exact ⟨_,ncode3,rfl,tm_is ⟨nprog3,by decide,nfree3⟩ tmd3⟩
 ·exact ⟨_,ncode4,rfl,tm_is ⟨nprog4,by decide,nfree4⟩ tmd4⟩
 ·exact ⟨_,ncode5,rfl,tm_is ⟨nprog5,by decide,nfree5⟩ tmd5⟩
 ·exact ⟨_,ncode6,rfl,tm_is ⟨nprog6,by decide,nfree6⟩ tmd6⟩
 ·exact ⟨_,ncode7,rfl,tm_is ⟨nprog7,by decide,nfree7⟩ tmd7⟩
 ·exact ⟨_,ncode8,rfl,tm_is ⟨nprog8,by decide,nfree8⟩ tmd8⟩
 ·exact ⟨_,ncode9,rfl,tm_is ⟨nprog9,by decide,nfree9⟩ tmd9⟩
theorem nmdS_any (c:Int) (k:Nat) (s:ByteArray) (w:World) (hc:In64 c) (hk:pickK c 10=k) (hs:namesC[k]? = some (.string s)):Calls Tryz.prog 15 #[.int .i64 c] w fun e w'=>e=.returned (.string s)∧Nw w w':=by
 have HP:Hid (∀W,Calls Tryz.prog 14 #[.int .i64 c,.int .i64 10] W fun e w'=>e=.returned (.int .i64 (pickK c 10))∧w'=W):=fun W=>pickK_any c 10 W hc (by omega) (by omega)
 have hk10:k<10:=by have:=pickK_lt (c:=c) (n:=10) (by omega);omega
 rw [hk] at HP
 have HB:Hid (Bx (w.alloc (.cells namesC.toArray 72)) w.heap.size namesC):=Bx.new w namesC _
 have hcell:=HB.out.cell hs
 unfold namesC at hcell
 have HK:Hid (∀o,Nw w (w.alloc o)):=fun o=>(Kp.refl _ _).alloc _
 have hki:(k:Int)<10:=by omega
 clear hk hs HB
 go_enter Tryz.func15,Tryz.ntmps15
 go_wp2_with fail
 refine (HP.out _).mono ?_
 rintro e1 w1 ⟨rfl,rfl⟩
 go_wp2
 go_ret
 exact ⟨rfl,HK.out _⟩
theorem nmdF_any (c:Int) (hc:In64 c):∃s code,TrmK s code∧∀W,Calls Tryz.prog 15 #[.int .i64 c] W fun e w'=>e=.returned (.string s)∧Nw W w':=by
 obtain ⟨k,hk⟩:∃k:Nat,pickK c 10=k:=⟨(pickK c 10).toNat,by have:=pickK_lt (c:=c) (n:=10) (by omega);omega⟩
 obtain ⟨s,code,hs,hT⟩:=names5_at k (by have:=pickK_lt (c:=c) (n:=10) (by omega);omega)
 exact ⟨s,code,hT,fun W=>nmdS_any c k s W hc hk hs⟩
def pre3:List In:=[⟨5,3,1,tst0⟩,⟨0,4,0,tst0⟩,⟨4,1,0,tst0⟩]
def post2:List In:=[⟨0,0,0,tst0⟩,⟨6,0,0,tst0⟩]
def pre1:List In:=[⟨4,1,0,tst0⟩]
theorem more_cells (code:List In):codeC pre3++codeC (code.map (shI 3))++codeC post2=codeC (moreOf code):=by
 rw [←codeC_append,←codeC_append];rfl
theorem trim_cells (code:List In):codeC pre1++codeC (code.map (shI 1))=codeC (trimOf code):=by
 rw [←codeC_append];rfl
theorem more_len (code:List In):(moreOf code).length=3+code.length+2:=by simp [moreOf];omega
theorem trim_len (code:List In):(trimOf code).length=1+code.length:=by simp [trimOf];omega
theorem codeP_own {w:World} {base g n c:Nat} {l:List In} (ho:w.ownsRow base 62 14 (.slice (some ⟨g,0,none⟩) n c) n (codeC l)):CodeP w (some ⟨g,0,none⟩) l:=fun _=>⟨g,rfl,codeOw ho⟩
theorem news_own {w:World} {base g n c:Nat} {xs:List Value} (ho:w.ownsRow base 62 14 (.slice (some ⟨g,0,none⟩) n c) n xs):∀j u,xs[j]? = some u→w.cell? ((⟨g,0,none⟩:Addr).add j)=some u:=by
 intro j u hu
 rw [Addr.add_mid,Nat.zero_add]
 exact owns_cell ho j hu
theorem trimmed_any (p:Option Addr) (cap:Nat) (ns:List Int) (a:Int) (w:World) (hp:NumsP w p ns) (h64:∀n∈ns,In64 n) (hl:ns.length≤maxLen) (ha:In64 a) :
  Calls Tryz.prog 8 #[.slice p ns.length cap,.int .i64 a] w fun e w'=>e=.returned (.bool true)∧Nw w w':=by
 have HST:Hid (Calls Tryz.prog 9 #[.slice p ns.length cap,.int .i64 12] w fun e w'=>∃v,e=.returned v∧Eb w w' v (strTo ns (min ns.length 12)).1):=stream_any p cap 12 ns w hp h64 hl (by omega)
 have HL12:Hid ((strTo ns (min ns.length 12)).1.length≤12):=by show _≤_;rw [strTo_len ns _ (by omega)];omega
 have HLE:Hid (∀e∈(strTo ns (min ns.length 12)).1,EvOk e):=str_ok ns h64 _ (by omega)
 have HLG:Hid (GoesE (bI ⟨#[49,49,49]⟩) 0 (strTo ns (min ns.length 12)).1):=str_goes ns _ (by omega)
 generalize (strTo ns (min ns.length 12)).1=L at HST HL12 HLE HLG
 clear hp h64 hl
 obtain ⟨s,code,hT,hnm⟩:=nmdF_any a ha
 have HT:Hid (TrmK s code):=hT
 have HNM:Hid (∀W,Calls Tryz.prog 15 #[.int .i64 a] W fun e w'=>e=.returned (.string s)∧Nw W w'):=hnm
 have HR:Hid (TrmR code L):=hT.r L HL12.out HLG.out
 have hc4:¬(code.length:Int)<4:=by have:=hT.l4;omega
 have hc44:4≤code.length:=hT.l4
 have hc5:code.length≤500:=hT.l5
 clear hT hnm
 have hL12:=HL12.out
 obtain ⟨i0,hi0,hz0,hz1,hz2⟩:=info_parts Tryz.info62
 go_enter Tryz.func8,Tryz.ntmps8
 go_wp2_with fail
 refine HST.out.mono ?_
 rintro e1 w1 ⟨lv,rfl,hE⟩
 obtain ⟨lp,lc,rfl⟩:=ownsLenX hE.own
 obtain ⟨hev,hge⟩:=hE.evs
 have HE1:Hid (∀W,Nw w1 W→EvsP W lp L):=fun W kW=>hev.kp kW (fun _ _ h=>h)
 have HGE1:Hid (∀g,lp=some ⟨g,0,none⟩→g<w1.heap.size):=hge
 have K1:Hid (Nw w w1):=hE.nw
 clear hE hev hge HST
 go_wp2_with fail
 refine (awake_any lp lc L w1 (HE1.out w1 (Kp.refl _ _)) HGE1.out (by omega) HLE.out HLG.out).mono ?_
 rintro e2 w2 ⟨rfl,k2⟩
 have K2:Hid (Nw w1 w2):=k2
 clear k2
 go_wp2_with fail
 refine (HNM.out w2).mono ?_
 rintro e3 w3 ⟨rfl,k3⟩
 have K3:Hid (Nw w1 w3):=K2.out.trans k3
 clear k3 K2
 have HCM:Hid (∀W,Calls Tryz.prog 24 #[.string ⟨#[49,49,49]⟩,.string s] W fun e w'=>∃g cap,e=.returned (.tuple #[.slice (some ⟨g,0,none⟩) code.length cap,.int .i64 0])∧w'.ownsRow W.heap.size 62 14 (.slice (some ⟨g,0,none⟩) code.length cap) code.length (codeC code)∧Nw W w'):=fun W=>compileO_any _ _ _ (by unfold maxLen;decide) (by have:=HT.out.n.z;unfold maxLen;omega) HT.out.n.p W
 go_wp2_with fail
 refine (HCM.out w3).mono ?_
 rintro e4 w4 ⟨gc,cc,rfl,hO,k4⟩
 have RC:Hid (w4.ownsRow w3.heap.size 62 14 (.slice (some ⟨gc,0,none⟩) code.length cc) code.length (codeC code)):=hO
 have K4:Hid (Nw w1 w4):=K3.out.trans k4
 clear hO k4 HCM K3
 have HTR:Hid (∀(l o:List In) (g c:Nat) (W:World) (base:Nat),W.ownsRow base 62 14 (.slice (some ⟨g,0,none⟩) l.length c) l.length (codeC l)→l.length≤1000→0<o.length→TrimIs l 0 o→Calls Tryz.prog 26 #[.slice (some ⟨g,0,none⟩) l.length c] W fun e w'=>∃g2 c2,e=.returned (.tuple #[.slice (some ⟨g2,0,none⟩) o.length c2,.int .i64 0])∧w'.ownsRow W.heap.size 62 14 (.slice (some ⟨g2,0,none⟩) o.length c2) o.length (codeC o)∧Nw W w'):=by
  intro l o g c W base ho hll hol ht
  refine (trimS_any _ c l W (codeP_own ho) (by unfold maxLen;omega)).mono ?_
  rintro e w' ⟨v,f,out,rfl,ht2,ho2,k⟩
  obtain ⟨rfl,rfl⟩:=ht2.uniq ht
  obtain ⟨g2,c2,rfl⟩:=owns_some ho2 hol
  exact ⟨g2,c2,rfl,ho2,k⟩
 have HVA:Hid (∀(l:List In) (g c:Nat) (W:World) (base:Nat),W.ownsRow base 62 14 (.slice (some ⟨g,0,none⟩) l.length c) l.length (codeC l)→l.length≤1000→ValidIs l 0 0→Calls Tryz.prog 29 #[.slice (some ⟨g,0,none⟩) l.length c] W fun e w'=>e=.returned (.tuple #[.int .i64 0,.int .i64 0])∧Nw W w'):=by
  intro l g c W base ho hll hv
  refine (validS_any _ c l W (codeP_own ho) (by unfold maxLen;omega)).mono ?_
  rintro e w' ⟨a',b',rfl,h,k⟩
  obtain ⟨rfl,rfl⟩:=h.uniq hv
  exact ⟨rfl,k⟩
 have HSC:Hid (∀(l:List In) (g c g' c':Nat) (W:World) (base base':Nat),W.ownsRow base 62 14 (.slice (some ⟨g,0,none⟩) l.length c) l.length (codeC l)→W.ownsRow base' 62 14 (.slice (some ⟨g',0,none⟩) l.length c') l.length (codeC l)→l.length≤1000→Calls Tryz.prog 27 #[.slice (some ⟨g,0,none⟩) l.length c,.slice (some ⟨g',0,none⟩) l.length c'] W fun e w'=>e=.returned (.bool true)∧Nw W w'):=fun l g c g' c' W base base' h1 h2 hll=>sameCodeK _ _ c c' l W (codeP_own h1) (codeP_own h2) (by omega)
 have HSH:Hid (∀(d:Nat) (W:World),d≤100→Nw w4 W→Calls Tryz.prog 28 #[.slice (some ⟨gc,0,none⟩) code.length cc,.int .i64 (d:Int)] W (ShPost W (code.map (shI d)))):=fun d W hd kW=>shifted_any gc cc d code W ((codeOw RC.out).kp kW (fun h=>h)) (by omega) hd HT.out.h
 have HLD:Hid (∀(c:List In) (W:World) (g cap base:Nat),W.ownsRow base 62 14 (.slice (some ⟨g,0,none⟩) c.length cap) c.length (codeC c)→ValidIs c 0 0→(∀x∈c,InOk x)→Calls Tryz.prog 25 #[.string ⟨#[49,49,49]⟩,.agg #[.int .i64 200,.int .i64 200],.slice (some ⟨g,0,none⟩) c.length cap] W (LdPost W (bI ⟨#[49,49,49]⟩) 200 200 c)):=fun c W g cap base ho hv hi=>load_any _ 200 200 g cap c W (by unfold maxLen;decide) HT.out.n.p.sc (by omega) (by omega) (by omega) (by omega) (codeOw ho) hv hi
 go_wp2_with fail
 refine (HTR.out code code gc cc w4 _ RC.out (by omega) (by omega) HT.out.t0).mono ?_
 rintro e5 w5 ⟨g5,c5,rfl,ho5,k5⟩
 have R5:Hid (w5.ownsRow w4.heap.size 62 14 (.slice (some ⟨g5,0,none⟩) code.length c5) code.length (codeC code)):=ho5
 have K5:Hid (Nw w4 w5):=k5
 clear ho5 k5
 go_wp2_with fail
 refine (HSC.out code g5 c5 gc cc w5 _ _ R5.out (owns_kp RC.out K5.out (fun _ _ h=>h)) (by omega)).mono ?_
 rintro e6 w6 ⟨rfl,k6⟩
 have K6:Hid (Nw w4 w6):=K5.out.trans k6
 clear k6 R5 K5
 go_wp2_with (first|(at_builtin;refine wpList_append_lies _ rfl _ _ 53 rfl w6.heap.size 62 i0 (.agg #[.int .i64 0,.int .i64 0,.int .i64 0,.int .i64 0,.int .i64 0,.int .i64 0,.int .i64 0,.int .i64 0,.int .i64 0,.int .i64 0,.int .i64 0,.int .i64 0,.int .i64 0,.int .i64 0]) 14 112 Tryz.underlying53 hi0 hz0 hz1 hz2 rfl (by decide) _ _ _ rfl (World.ownsRow_nil _ w6.heap.size 62 14) ⟨w6.heap.size,0,none⟩ 3 3 (codeC pre3) rfl rfl (news_one w6 rfl _ _) (codeC_one pre3) (by decide) ?a3 ?a4 ?a5 _ rfl ?_)|fail)
 case a3=>unfold maxLen;omega
 case a4=>omega
 case a5=>first|omega|(simp;done)|(simp;omega)
 intro g7 c7 w7 ho7 hg7 hat7 hlt7
 have R7:Hid (w7.ownsRow w6.heap.size 62 14 (.slice (some ⟨g7,0,none⟩) 3 c7) 3 (codeC pre3)):=by show World.ownsRow _ _ _ _ _ _ _;simpa using ho7
 have K67:Hid (Nw w6 w7):=((Kp.refl _ _).alloc _).grown hg7 (fun b hb=>by cases hb)
 clear ho7 hg7 hat7 hlt7
 go_wp2_with fail
 refine (HSH.out 3 w7 (by omega) (K6.out.trans K67.out)).mono ?_
 rintro e8 w8 ⟨v8,rfl,ho8,k8⟩
 rw [List.length_map] at ho8
 obtain ⟨g8,c8,rfl⟩:=owns_some ho8 (by omega)
 have R8:Hid (w8.ownsRow w7.heap.size 62 14 (.slice (some ⟨g8,0,none⟩) code.length c8) code.length (codeC (code.map (shI (3:Nat))))):=ho8
 have R78:Hid (w8.ownsRow w6.heap.size 62 14 (.slice (some ⟨g7,0,none⟩) 3 c7) 3 (codeC pre3)):=owns_kp R7.out k8 (fun _ _ h=>h)
 have K68:Hid (Nw w6 w8):=K67.out.trans k8
 have hs68:w6.heap.size≤w8.heap.size:=K68.out.size
 have HL8:Hid ((codeC (code.map (shI (3:Nat)))).length=code.length*14):=by show _=_;rw [codeC_length,List.length_map]
 clear ho8 k8 R7 K67
 go_wp2_with (first|(at_builtin;refine wpList_append_lies _ rfl _ _ 53 rfl w6.heap.size 62 i0 (.agg #[.int .i64 0,.int .i64 0,.int .i64 0,.int .i64 0,.int .i64 0,.int .i64 0,.int .i64 0,.int .i64 0,.int .i64 0,.int .i64 0,.int .i64 0,.int .i64 0,.int .i64 0,.int .i64 0]) 14 112 Tryz.underlying53 hi0 hz0 hz1 hz2 rfl (by decide) _ _ _ rfl R78.out ⟨g8,0,none⟩ code.length c8 (codeC (code.map (shI (3:Nat)))) rfl HL8.out (news_own R8.out) (codeC_one _) (by omega) ?b3 ?b4 ?b5 _ rfl ?_)|fail)
 case b3=>unfold maxLen;omega
 case b4=>omega
 case b5=>first|omega|(simp;done)|(simp;omega)
 intro g9 c9 w9 ho9 hg9 hat9 hlt9
 have R9:Hid (w9.ownsRow w6.heap.size 62 14 (.slice (some ⟨g9,0,none⟩) (3+code.length) c9) (3+code.length) (codeC pre3++codeC (code.map (shI (3:Nat))))):=ho9
 have K69:Hid (Nw w6 w9):=K68.out.grown hg9 (fun b hb=>Or.inl (R78.out.lt b hb).1)
 have hs69:w6.heap.size≤w9.heap.size:=K69.out.size
 clear ho9 hg9 hat9 hlt9 R8 R78 K68 HL8 hs68
 go_wp2_with (first|(at_builtin;refine wpList_append_lies _ rfl _ _ 53 rfl w6.heap.size 62 i0 (.agg #[.int .i64 0,.int .i64 0,.int .i64 0,.int .i64 0,.int .i64 0,.int .i64 0,.int .i64 0,.int .i64 0,.int .i64 0,.int .i64 0,.int .i64 0,.int .i64 0,.int .i64 0,.int .i64 0]) 14 112 Tryz.underlying53 hi0 hz0 hz1 hz2 rfl (by decide) _ _ _ rfl (R9.out.alloc _) ⟨w9.heap.size,0,none⟩ 2 2 (codeC post2) rfl rfl (news_one w9 rfl _ _) (codeC_one post2) (by decide) ?c3 ?c4 ?c5 _ rfl ?_)|fail)
 case c3=>unfold maxLen;omega
 case c4=>omega
 case c5=>first|omega|(simp;done)|(simp;omega)
 intro g10 c10 w10 ho10 hg10 hat10 hlt10
 have K10:Hid (Nw w6 w10):=(K69.out.alloc _).grown hg10 (fun b hb=>Or.inl (R9.out.lt b hb).1)
 have RM:Hid (w10.ownsRow w6.heap.size 62 14 (.slice (some ⟨g10,0,none⟩) (moreOf code).length c10) (moreOf code).length (codeC (moreOf code))):=by
  have h:=ho10
  have e:codeC pre3++(codeC (code.map (shI 3))++codeC post2)=codeC (moreOf code):=by rw [←List.append_assoc];exact more_cells code
  rw [e,←more_len] at h
  exact h
 have hml:3+code.length+2=(moreOf code).length:=(more_len code).symm
 rw [hml]
 have HMN:Hid ((moreOf code).length≤1000):=by show _≤_;rw [←hml];omega
 clear ho10 hg10 hat10 hlt10 R9 K69 hs69 hml
 go_wp2_with fail
 refine (HVA.out (moreOf code) g10 c10 w10 _ RM.out HMN.out HT.out.v1).mono ?_
 rintro e11 w11 ⟨rfl,k11⟩
 have RM11:Hid (w11.ownsRow w6.heap.size 62 14 (.slice (some ⟨g10,0,none⟩) (moreOf code).length c10) (moreOf code).length (codeC (moreOf code))):=owns_kp RM.out k11 (fun _ _ h=>h)
 have K11:Hid (Nw w6 w11):=K10.out.trans k11
 clear k11 RM K10 HVA
 have HTL:Hid (0<(trimOf code).length∧(trimOf code).length≤1000):=by have:=trim_len code;show _∧_;omega
 go_wp2_with fail
 refine (HTR.out (moreOf code) (trimOf code) g10 c10 w11 _ RM11.out HMN.out HTL.out.1 HT.out.t1).mono ?_
 rintro e12 w12 ⟨g12,c12,rfl,ho12,k12⟩
 have RT:Hid (w12.ownsRow w11.heap.size 62 14 (.slice (some ⟨g12,0,none⟩) (trimOf code).length c12) (trimOf code).length (codeC (trimOf code))):=ho12
 have RM12:Hid (w12.ownsRow w6.heap.size 62 14 (.slice (some ⟨g10,0,none⟩) (moreOf code).length c10) (moreOf code).length (codeC (moreOf code))):=owns_kp RM11.out k12 (fun _ _ h=>h)
 have K12:Hid (Nw w4 w12):=(K6.out.trans K11.out).trans k12
 clear ho12 k12 RM11 K11 K6 HTR
 go_wp2_with (first|(at_builtin;refine wpList_append_lies _ rfl _ _ 53 rfl w12.heap.size 62 i0 (.agg #[.int .i64 0,.int .i64 0,.int .i64 0,.int .i64 0,.int .i64 0,.int .i64 0,.int .i64 0,.int .i64 0,.int .i64 0,.int .i64 0,.int .i64 0,.int .i64 0,.int .i64 0,.int .i64 0]) 14 112 Tryz.underlying53 hi0 hz0 hz1 hz2 rfl (by decide) _ _ _ rfl (World.ownsRow_nil _ w12.heap.size 62 14) ⟨w12.heap.size,0,none⟩ 1 1 (codeC pre1) rfl rfl (news_one w12 rfl _ _) (codeC_one pre1) (by decide) ?d3 ?d4 ?d5 _ rfl ?_)|fail)
 case d3=>unfold maxLen;omega
 case d4=>omega
 case d5=>first|omega|(simp;done)|(simp;omega)
 intro g13 c13 w13 ho13 hg13 hat13 hlt13
 have R13:Hid (w13.ownsRow w12.heap.size 62 14 (.slice (some ⟨g13,0,none⟩) 1 c13) 1 (codeC pre1)):=by show World.ownsRow _ _ _ _ _ _ _;simpa using ho13
 have K13:Hid (Nw w12 w13):=((Kp.refl _ _).alloc _).grown hg13 (fun b hb=>by cases hb)
 clear ho13 hg13 hat13 hlt13
 go_wp2_with fail
 refine (HSH.out 1 w13 (by omega) (K12.out.trans K13.out)).mono ?_
 rintro e14 w14 ⟨v14,rfl,ho14,k14⟩
 rw [List.length_map] at ho14
 obtain ⟨g14,c14,rfl⟩:=owns_some ho14 (by omega)
 have R14:Hid (w14.ownsRow w13.heap.size 62 14 (.slice (some ⟨g14,0,none⟩) code.length c14) code.length (codeC (code.map (shI (1:Nat))))):=ho14
 have R1314:Hid (w14.ownsRow w12.heap.size 62 14 (.slice (some ⟨g13,0,none⟩) 1 c13) 1 (codeC pre1)):=owns_kp R13.out k14 (fun _ _ h=>h)
 have K14:Hid (Nw w12 w14):=K13.out.trans k14
 have hs14:w12.heap.size≤w14.heap.size:=K14.out.size
 have HL14:Hid ((codeC (code.map (shI (1:Nat)))).length=code.length*14):=by show _=_;rw [codeC_length,List.length_map]
 clear ho14 k14 R13 K13 HSH
 go_wp2_with (first|(at_builtin;refine wpList_append_lies _ rfl _ _ 53 rfl w12.heap.size 62 i0 (.agg #[.int .i64 0,.int .i64 0,.int .i64 0,.int .i64 0,.int .i64 0,.int .i64 0,.int .i64 0,.int .i64 0,.int .i64 0,.int .i64 0,.int .i64 0,.int .i64 0,.int .i64 0,.int .i64 0]) 14 112 Tryz.underlying53 hi0 hz0 hz1 hz2 rfl (by decide) _ _ _ rfl R1314.out ⟨g14,0,none⟩ code.length c14 (codeC (code.map (shI (1:Nat)))) rfl HL14.out (news_own R14.out) (codeC_one _) (by omega) ?e3 ?e4 ?e5 _ rfl ?_)|fail)
 case e3=>unfold maxLen;omega
 case e4=>omega
 case e5=>first|omega|(simp;done)|(simp;omega)
 intro g15 c15 w15 ho15 hg15 hat15 hlt15
 have K15:Hid (Nw w12 w15):=K14.out.grown hg15 (fun b hb=>Or.inl (R1314.out.lt b hb).1)
 have RW:Hid (w15.ownsRow w12.heap.size 62 14 (.slice (some ⟨g15,0,none⟩) (trimOf code).length c15) (trimOf code).length (codeC (trimOf code))):=by
  have h:=ho15
  have e:codeC pre1++codeC (code.map (shI 1))=codeC (trimOf code):=trim_cells code
  rw [e,←trim_len] at h
  exact h
 have htl:1+code.length=(trimOf code).length:=(trim_len code).symm
 rw [htl]
 have RT15:Hid (w15.ownsRow w11.heap.size 62 14 (.slice (some ⟨g12,0,none⟩) (trimOf code).length c12) (trimOf code).length (codeC (trimOf code))):=owns_kp RT.out K15.out (fun _ _ h=>h)
 have RM15:Hid (w15.ownsRow w6.heap.size 62 14 (.slice (some ⟨g10,0,none⟩) (moreOf code).length c10) (moreOf code).length (codeC (moreOf code))):=owns_kp RM12.out K15.out (fun _ _ h=>h)
 clear ho15 hg15 hat15 hlt15 R14 R1314 K14 HL14 hs14 htl RT RM12
 go_wp2_with fail
 refine (HSC.out (trimOf code) g12 c12 g15 c15 w15 _ _ RT15.out RW.out HTL.out.2).mono ?_
 rintro e16 w16 ⟨rfl,k16⟩
 have K16:Hid (Nw w4 w16):=(K12.out.trans K15.out).trans k16
 have RT16:Hid (w16.ownsRow w11.heap.size 62 14 (.slice (some ⟨g12,0,none⟩) (trimOf code).length c12) (trimOf code).length (codeC (trimOf code))):=owns_kp RT15.out k16 (fun _ _ h=>h)
 have RM16:Hid (w16.ownsRow w6.heap.size 62 14 (.slice (some ⟨g10,0,none⟩) (moreOf code).length c10) (moreOf code).length (codeC (moreOf code))):=owns_kp RM15.out k16 (fun _ _ h=>h)
 clear k16 RT15 RM15 RW K12 K15 HSC
 go_wp2_with fail
 refine (great_any w16).mono ?_
 rintro e17 w17 ⟨rfl,k17⟩
 go_wp2_with fail
 refine (HLD.out (moreOf code) w17 g10 c10 _ (owns_kp RM16.out k17 (fun _ _ h=>h)) HT.out.v1 HT.out.i1).mono ?_
 rintro e18 w18 ⟨X,rfl,hnx⟩
 have RX:Hid (RunA w18 X (bI ⟨#[49,49,49]⟩) 200 200 (moreOf code) (fun b=>w17.heap.size≤b∧b<w18.heap.size) ⟨[],0,0,false⟩):=hnx.runA
 have HXX:Hid (w17.heap.size≤X∧X<w18.heap.size):=⟨hnx.x,RX.out.lt⟩
 have K18:Hid (Nw w4 w18):=(K16.out.trans k17).trans hnx.n
 have RT18:Hid (w18.ownsRow w11.heap.size 62 14 (.slice (some ⟨g12,0,none⟩) (trimOf code).length c12) (trimOf code).length (codeC (trimOf code))):=owns_kp RT16.out (k17.trans hnx.n) (fun _ _ h=>h)
 have HS417:Hid (w4.heap.size≤w17.heap.size):=(K16.out.trans k17).size
 clear hnx k17 RT16 RM16 K16
 go_wp2_with fail
 refine (great_any w18).mono ?_
 rintro e19 w19 ⟨rfl,k19⟩
 go_wp2_with fail
 refine (HLD.out (trimOf code) w19 g12 c12 _ (owns_kp RT18.out k19 (fun _ _ h=>h)) HT.out.v2 HT.out.i2).mono ?_
 rintro e20 w20 ⟨Y,rfl,hny⟩
 have RY:Hid (RunA w20 Y (bI ⟨#[49,49,49]⟩) 200 200 (trimOf code) (fun b=>¬b=X) ⟨[],0,0,false⟩):=hny.runA.mono (by intro b _ h e;have:=HXX.out;have:=k19.size;omega)
 have HYY:Hid (w18.heap.size≤Y∧Y<w20.heap.size):=⟨Nat.le_trans k19.size hny.x,RY.out.lt⟩
 have RX20:Hid (RunA w20 X (bI ⟨#[49,49,49]⟩) 200 200 (moreOf code) (fun b=>¬b=Y) ⟨[],0,0,false⟩):=(RX.out.nw (k19.trans hny.n)).mono (by intro b _ h e;have:=HYY.out;omega)
 have K20:Hid (Nw w4 w20):=K18.out.trans (k19.trans hny.n)
 clear hny k19 RX RT18 K18 HLD
 have hcnt:∀(c:List In),(∀i e,L[i]? = some e→(feedS (bI ⟨#[49,49,49]⟩) c (beginsS c) 200 200 (runS (bI ⟨#[49,49,49]⟩) c (beginsS c) 200 200 ⟨[],0,0,false⟩ (L.take i)) e).2.2=0)→(∀i e,L[i]? = some e→(feedS (bI ⟨#[49,49,49]⟩) c (beginsS c) 200 200 (runS (bI ⟨#[49,49,49]⟩) c (beginsS c) 200 200 ⟨[],0,0,false⟩ (L.take i)) e).2.2=0∧(runS (bI ⟨#[49,49,49]⟩) c (beginsS c) 200 200 ⟨[],0,0,false⟩ (L.take i)).count≤1000000)∧(runS (bI ⟨#[49,49,49]⟩) c (beginsS c) 200 200 ⟨[],0,0,false⟩ L).count=L.length:=by
  intro c hok
  have hcn:=run_count (r:=⟨[],0,0,false⟩) hok
  refine ⟨fun i e hi=>⟨hok i e hi,?_⟩,?_⟩
  ·have hil:=(List.getElem?_eq_some_iff.1 hi).1
   rw [hcn i (by omega)]
   show 0+i≤_
   omega
  ·have:=hcn L.length (Nat.le_refl _)
   rw [List.take_length] at this
   rw [this];show 0+_=_;omega
 have HC1:=hcnt _ HR.out.o1
 have HC2:=hcnt _ HR.out.o2
 clear hcnt
 have HK1:Hid (∀W A,RunA W A (bI ⟨#[49,49,49]⟩) 200 200 (moreOf code) (fun b=>¬b=Y) ⟨[],0,0,false⟩→Nw w1 W→w1.heap.size≤A→Calls Tryz.prog 30 #[.pointer (some ⟨A,0,none⟩),.slice lp L.length lc] W fun e w'=>∃v hs,e=.returned (.tuple #[v,.bool true])∧Mds w' W.heap.size v hs∧hs.map (·.2)=outS (bI ⟨#[49,49,49]⟩) code (beginsS code) 200 200 ⟨[],0,0,false⟩ L∧Kp (fun b=>b=A) W w'):=by
  rintro W A ⟨g,cp,bv,hk,hc,_⟩ kW hA
  refine (fed_any (bI ⟨#[49,49,49]⟩) (moreOf code) (beginsS (moreOf code)) A g cp bv lp lc L ⟨[],0,0,false⟩ W hc hk (HE1.out W kW) (fun g e=>by have:=HGE1.out g e;omega) (fun g e=>Nat.lt_of_lt_of_le (HGE1.out g e) kW.size) (by omega) HLE.out HC1.1).mono ?_
  rintro e w' ⟨v,hs,rfl,hm,ho,_,kk⟩
  refine ⟨v,hs,?_,hm,by rw [ho,HR.out.e1],kk⟩
  rw [HC1.2];simp
 have HK2:Hid (∀W A,RunA W A (bI ⟨#[49,49,49]⟩) 200 200 (trimOf code) (fun b=>¬b=X) ⟨[],0,0,false⟩→(∀g,lp=some ⟨g,0,none⟩→g<w1.heap.size)→EvsP W lp L→w1.heap.size≤W.heap.size→w1.heap.size≤A→Calls Tryz.prog 30 #[.pointer (some ⟨A,0,none⟩),.slice lp L.length lc] W fun e w'=>∃v hs,e=.returned (.tuple #[v,.bool true])∧Mds w' W.heap.size v hs∧hs.map (·.2)=outS (bI ⟨#[49,49,49]⟩) code (beginsS code) 200 200 ⟨[],0,0,false⟩ L∧Kp (fun b=>b=A) W w'):=by
  rintro W A ⟨g,cp,bv,hk,hc,_⟩ hg hev hsz hA
  refine (fed_any (bI ⟨#[49,49,49]⟩) (trimOf code) (beginsS (trimOf code)) A g cp bv lp lc L ⟨[],0,0,false⟩ W hc hk hev (fun g e=>by have:=hg g e;omega) (fun g e=>Nat.lt_of_lt_of_le (hg g e) hsz) (by omega) HLE.out HC2.1).mono ?_
  rintro e w' ⟨v,hs,rfl,hm,ho,_,kk⟩
  refine ⟨v,hs,?_,hm,by rw [ho,HR.out.e2],kk⟩
  rw [HC2.2];simp
 clear HC1 HC2
 have HLO:Hid ((outS (bI ⟨#[49,49,49]⟩) code (beginsS code) 200 200 ⟨[],0,0,false⟩ L).length=L.length):=outS_len _ _ _ _ _ _ _
 have HSS:Hid (∀l∈outS (bI ⟨#[49,49,49]⟩) code (beginsS code) 200 200 ⟨[],0,0,false⟩ L,l.length≤1000∧∀m∈l,MtOk m):=HR.out.s
 have HFN:Hid (∀W,EvsP W lp L→(∀g,lp=some ⟨g,0,none⟩→g<W.heap.size)→Calls Tryz.prog 11 #[.string s,.slice lp L.length lc] W fun e w'=>∃v hs,e=.returned (.tuple #[v,.bool true])∧Mds w' W.heap.size v hs∧hs.map (·.2)=outS (bI ⟨#[49,49,49]⟩) code (beginsS code) 200 200 ⟨[],0,0,false⟩ L∧Nw W w'):=fun W h1 h2=>found_any _ _ lp lc L W (HT.out.n.pat hL12 HLG.out) h1 h2 (by omega) HLE.out
 have HS14:Hid (w1.heap.size≤w4.heap.size):=K4.out.size
 clear HR HT
 generalize outS (bI ⟨#[49,49,49]⟩) code (beginsS code) 200 200 ⟨[],0,0,false⟩ L=O at HK1 HK2 HLO HSS HFN
 go_wp2_with fail
 refine (HK1.out w20 X RX20.out (K4.out.trans K20.out) (by have:=HXX.out;have:=HS417.out;have:=HS14.out;omega)).mono ?_
 rintro e21 w21 ⟨v1,hs1,rfl,hm1,ho1,k21⟩
 have hn1:hs1.length=L.length:=by have h1:=congrArg List.length ho1;simp at h1;rw [h1,HLO.out]
 obtain ⟨vp1,vc1,rfl⟩:=ownsLenX hm1.row
 rw [hn1]
 have M1:Hid (Mds w21 w20.heap.size (.slice vp1 hs1.length vc1) hs1):=hm1
 have HN1:Hid (hs1.length=L.length):=hn1
 have HQ1:Hid (hs1.map (·.2)=O):=ho1
 have K21:Hid (Kp (fun b=>b=X) w20 w21):=k21
 have RY21:Hid (RunA w21 Y (bI ⟨#[49,49,49]⟩) 200 200 (trimOf code) (fun b=>¬b=X) ⟨[],0,0,false⟩):=RY.out.kp k21 (fun b _ h=>h)
 have E21:Hid (EvsP w21 lp L):=(HE1.out w20 (K4.out.trans K20.out)).kp k21 (by intro g e e2;have:=HGE1.out g e;have:=HXX.out;have:=HS417.out;have:=HS14.out;omega)
 have HS20:Hid (w1.heap.size≤w20.heap.size):=(K4.out.trans K20.out).size
 have HS21:Hid (w20.heap.size≤w21.heap.size):=k21.size
 clear hm1 ho1 k21 hn1 HK1 RX20 RY
 go_wp2_with fail
 refine (HK2.out w21 Y RY21.out HGE1.out E21.out (by have:=HS20.out;have:=HS21.out;omega) (by have:=HXX.out;have:=HYY.out;have:=HS417.out;have:=HS14.out;omega)).mono ?_
 rintro e22 w22 ⟨v2,hs2,rfl,hm2,ho2,k22⟩
 have hn2:hs2.length=L.length:=by have h1:=congrArg List.length ho2;simp at h1;rw [h1,HLO.out]
 obtain ⟨vp2,vc2,rfl⟩:=ownsLenX hm2.row
 rw [hn2]
 have M2:Hid (Mds w22 w21.heap.size (.slice vp2 L.length vc2) hs2):=by rw [hn2] at hm2;exact hm2
 have HQ2:Hid (hs2.map (·.2)=O):=ho2
 have M12:Hid (Mds w22 w20.heap.size (.slice vp1 hs1.length vc1) hs1):=M1.out.kp k22 (by intro b hb _ e;have:=HYY.out;omega)
 have E22:Hid (EvsP w22 lp L):=E21.out.kp k22 (by intro g e e2;have:=HGE1.out g e;have:=HXX.out;have:=HYY.out;have:=HS417.out;have:=HS14.out;omega)
 have K22:Hid (Nw w w22):=(((K1.out.trans K4.out).trans K20.out).trans' K21.out (by intro b hb e;have:=HXX.out;have:=HS417.out;have:=HS14.out;have:=K1.out.size;omega)).trans' k22 (by intro b hb e;have:=HXX.out;have:=HYY.out;have:=HS417.out;have:=HS14.out;have:=K1.out.size;omega)
 have HS22:Hid (w21.heap.size≤w22.heap.size):=k22.size
 clear hm2 ho2 k22 hn2 HK2 RY21 E21 M1 K21 K20 K4 K1
 go_wp2_with fail
 refine (HNM.out w22).mono ?_
 rintro e23 w23 ⟨rfl,k23⟩
 go_wp2_with fail
 refine (HFN.out w23 (E22.out.kp k23 (fun _ _ h=>h)) (by intro g e;have:=HGE1.out g e;have:=HS20.out;have:=HS21.out;have:=HS22.out;have:=k23.size;omega)).mono ?_
 rintro e24 w24 ⟨v3,hs3,rfl,hm3,ho3,k24⟩
 have hn3:hs3.length=L.length:=by have h1:=congrArg List.length ho3;simp at h1;rw [h1,HLO.out]
 obtain ⟨vp3,vc3,rfl⟩:=ownsLenX hm3.row
 rw [hn3]
 have M3:Hid (Mds w24 w23.heap.size (.slice vp3 L.length vc3) hs3):=by rw [hn3] at hm3;exact hm3
 have HQ3:Hid (hs3.map (·.2)=O):=ho3
 have N1:Hid (Mds w24 w20.heap.size (.slice vp1 L.length vc1) hs1):=by
  have:=M12.out.kp (k23.trans k24) (fun _ _ _ h=>h)
  rw [HN1.out] at this
  exact this
 have N2:Hid (Mds w24 w21.heap.size (.slice vp2 L.length vc2) hs2):=M2.out.kp (k23.trans k24) (fun _ _ _ h=>h)
 have K24:Hid (Nw w w24):=K22.out.trans (k23.trans k24)
 have HX:Hid (∀x∈hs1,x.2.length≤1000∧∀m∈x.2,MtOk m):=by
  intro x hx
  exact HSS.out _ (by rw [←HQ1.out];exact List.mem_map.2 ⟨x,hx,rfl⟩)
 have HA1:Hid (∀W,Nw w24 W→Calls Tryz.prog 13 #[.slice vp1 L.length vc1,.slice vp2 L.length vc2] W fun e w'=>e=.returned (.bool true)∧Nw W w'):=fun W kW=>by
  have h1:=N1.out.kp kW (fun _ _ _ h=>h)
  have h2:=N2.out.kp kW (fun _ _ _ h=>h)
  rw [←HN1.out] at h1 h2
  have:=sameAll_same vp1 vp2 vc1 vc2 _ _ hs1 hs2 W h1 h2 (by rw [HQ1.out,HQ2.out]) (by rw [HN1.out];omega) HX.out
  rw [HN1.out] at this
  exact this
 have HA2:Hid (∀W,Nw w24 W→Calls Tryz.prog 13 #[.slice vp1 L.length vc1,.slice vp3 L.length vc3] W fun e w'=>e=.returned (.bool true)∧Nw W w'):=fun W kW=>by
  have h1:=N1.out.kp kW (fun _ _ _ h=>h)
  have h2:=M3.out.kp kW (fun _ _ _ h=>h)
  rw [←HN1.out] at h1 h2
  have:=sameAll_same vp1 vp3 vc1 vc3 _ _ hs1 hs3 W h1 h2 (by rw [HQ1.out,HQ3.out]) (by rw [HN1.out];omega) HX.out
  rw [HN1.out] at this
  exact this
 clear hm3 ho3 k23 k24 hn3 HFN M12 M2 M3 N1 N2 K22 E22 HNM
 go_wp2_with fail
 refine (HA1.out w24 (Kp.refl _ _)).mono ?_
 rintro e25 w25 ⟨rfl,k25⟩
 have K25:Hid (Nw w24 w25):=k25
 clear k25 HA1
 go_wp2_with fail
 refine (HA2.out w25 K25.out).mono ?_
 rintro e26 w26 ⟨rfl,k26⟩
 have K26:Hid (Nw w w26):=(K24.out.trans K25.out).trans k26
 clear k26 HA2
 go_wp2
 go_ret
 exact ⟨rfl,K26.out⟩
end Go.Proofs.YtcboiapggnmpfabGreat
