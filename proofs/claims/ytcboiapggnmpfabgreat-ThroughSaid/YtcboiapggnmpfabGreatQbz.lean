import Derived.Test.YtcboiapggnmpfabGreatQby
namespace Go.Proofs.YtcboiapggnmpfabGreat
set_option maxRecDepth 100000
set_option maxHeartbeats 16000000
set_option linter.unusedSimpArgs false
set_option linter.unusedVariables false
open Go.RowKit
theorem Eb.evs {W0 wr:World} {lp:Option Addr} {n c:Nat} {L:List Evt} (h:Eb W0 wr (.slice lp n c) L):EvsP wr lp L∧(∀g,lp=some ⟨g,0,none⟩→g<wr.heap.size):=by
 refine ⟨?_,?_⟩
 ·intro hne
  obtain ⟨g,c',e⟩:=owns_some h.own (List.length_pos_iff.2 hne)
  simp only [Value.slice.injEq] at e
  obtain ⟨rfl,rfl,rfl⟩:=e
  refine ⟨g,rfl,(h.own.lt g rfl).2,?_⟩
  intro i x hx j v hv
  have hj:j<5:=by have:=(List.getElem?_eq_some_iff.1 hv).1;simpa [evC5] using this
  exact owns_cell h.own (i*5+j) (by rw [evsR_get L i j x hx hj];exact hv)
 ·intro g e
  subst e
  exact (h.own.lt g rfl).2
theorem mtsC_get (l:List Mt):∀(i j:Nat) (x:Mt),l[i]? = some x→j<6→(mtsC l)[i*6+j]? = (mtC x)[j]?:=by
 induction l with
 | nil=>intro i j x h;simp at h
 | cons y r ih =>
  intro i j x h hj
  have e:mtsC (y::r)=mtC y++mtsC r:=by simp [mtsC]
  have hl:(mtC y).length=6:=rfl
  rw [e]
  cases i with
  | zero=>simp at h;subst h;rw [List.getElem?_append_left (by omega)];simp
  | succ i =>
   simp at h
   rw [List.getElem?_append_right (by omega),hl]
   have:(i+1)*6+j - 6=i*6+j:=by omega
   rw [this];exact ih i j x h hj
theorem mts_of {w:World} {base:Nat} {mp:Option Addr} {mc:Nat} {l:List Mt} (h:w.ownsRow base 36 6 (.slice mp l.length mc) l.length (mtsC l)):MtsP w mp l:=by
 intro hne
 obtain ⟨g,c',e⟩:=owns_some h (List.length_pos_iff.2 hne)
 simp only [Value.slice.injEq,true_and] at e
 obtain ⟨rfl,rfl⟩:=e
 refine ⟨g,rfl,(h.lt g rfl).2,?_⟩
 intro i x hx j v hv
 have hj:j<6:=by have:=(List.getElem?_eq_some_iff.1 hv).1;simpa [mtC] using this
 exact owns_cell h (i*6+j) (by rw [mtsC_get l i j x hx hj];exact hv)
structure StrK (code:List In) (L:List Evt):Prop where
 n:L.length≤12
 e:∀e∈L,EvOk e
 g:GoesE (bI ⟨#[49,49,49]⟩) 0 L
 t:∀i,i≤L.length→0≤(L.take i).foldl (fun _ x=>x.at') 0∧(L.take i).foldl (fun _ x=>x.at') 0≤100000
 ok:∀i e,L[i]? = some e→(feedS (bI ⟨#[49,49,49]⟩) code (beginsS code) 200 200 (runS (bI ⟨#[49,49,49]⟩) code (beginsS code) 200 200 ⟨[],0,0,false⟩ (L.take i)) e).2.2=0
theorem strTo_take (ns : List Int) : ∀ k i, i ≤ k → k ≤ ns.length → (strTo ns k).1.take i = (strTo ns i).1 := by
  intro k
  induction k with
  | zero => intro i hi _; have : i = 0 := by omega
            subst this; rfl
  | succ k ih =>
    intro i hi hk
    by_cases e : i = k + 1
    · subst e; rw [List.take_of_length_le]; rw [strTo_len ns _ hk]; omega
    · rw [strTo_succ (n := ns[k]'(by omega)) (by simp)]
      show ((strTo ns k).1 ++ _).take i = _
      rw [List.take_append_of_le_length (by rw [strTo_len ns k (by omega)]; omega)]
      exact ih i (by omega) (by omega)
theorem StrK.of {s:ByteArray} {code:List In} (hN:NamK s code) {ns:List Int} (h64:∀n∈ns,In64 n):StrK code (strTo ns (min ns.length 12)).1:=by
 have hlen:=strTo_len ns (min ns.length 12) (by omega)
 have hg:=str_goes ns (min ns.length 12) (by omega)
 refine ⟨by omega,str_ok ns h64 _ (by omega),hg,?_,(hN.pat (by omega) hg).ok⟩
 intro i hi
 rw [hlen] at hi
 rw [strTo_take ns _ i hi (by omega),str_last]
 have:=strTo_now ns i
 omega
structure TrcM (code:List In) (L:List Evt) (bad:List Int) (w:World) (X Y M M2:Nat) (lp pb:Option Addr) (i:Nat) (wr:World):Prop where
 x:RunA wr X (bI ⟨#[49,49,49]⟩) 200 200 code (fun b=>b<M∨M2≤b) (runS (bI ⟨#[49,49,49]⟩) code (beginsS code) 200 200 ⟨[],0,0,false⟩ (L.take i))
 y:RunA wr Y (bI ⟨#[49,49,49]⟩) 200 200 code (fun b=>M≤b) (runS (bI ⟨#[49,49,49]⟩) code (beginsS code) 200 200 ⟨[],0,0,false⟩ (L.take i))
 e:EvsP wr lp L
 b:NumsP wr pb bad
 n:Nw w wr
 m:M2≤wr.heap.size
theorem traceless_any (hSP:SpoiltOk) (p pb:Option Addr) (cap capb:Nat) (ns bad:List Int) (a:Int) (w:World) (hp:NumsP w p ns) (hpb:NumsP w pb bad) (h64:∀n∈ns,In64 n) (hb64:∀n∈bad,In64 n) (hl:ns.length≤maxLen) (hlb:bad.length≤maxLen) (ha:In64 a) :
  Calls Tryz.prog 5 #[.slice p ns.length cap,.int .i64 a,.slice pb bad.length capb] w fun e w'=>e=.returned (.bool true)∧Nw w w':=by
 have HSP0:Hid SpoiltOk:=hSP
 clear hSP
 have HST:Hid (Calls Tryz.prog 9 #[.slice p ns.length cap,.int .i64 12] w fun e w'=>∃v,e=.returned v∧Eb w w' v (strTo ns (min ns.length 12)).1):=stream_any p cap 12 ns w hp h64 hl (by omega)
 have HSK:Hid (∀s code,NamK s code→StrK code (strTo ns (min ns.length 12)).1):=fun s code hN=>StrK.of hN h64
 have HL12:Hid ((strTo ns (min ns.length 12)).1.length≤12):=by show _≤_;rw [strTo_len ns _ (by omega)];omega
 have HLE:Hid (∀e∈(strTo ns (min ns.length 12)).1,EvOk e):=str_ok ns h64 _ (by omega)
 have HLG:Hid (GoesE (bI ⟨#[49,49,49]⟩) 0 (strTo ns (min ns.length 12)).1):=str_goes ns _ (by omega)
 have HPB:Hid (NumsP w pb bad):=hpb
 have HB64:Hid (∀n∈bad,In64 n):=hb64
 have HGB:Hid (¬bad=[]→∀g o,pb=some ⟨g,o,none⟩→g<w.heap.size):=by
  intro hbn g o e
  obtain ⟨g',o',e',hl,_⟩:=hpb hbn
  rw [e] at e'
  cases e'
  exact hl
 unfold maxLen at hlb
 generalize (strTo ns (min ns.length 12)).1=L at HST HSK HL12 HLE HLG
 clear hp hpb h64 hb64 hl
 go_enter Tryz.func5,Tryz.ntmps5
 go_wp2_with fail
 refine HST.out.mono ?_
 rintro e1 w1 ⟨lv,rfl,hE⟩
 obtain ⟨lp,lc,rfl⟩:=ownsLenX hE.own
 obtain ⟨hev,hge⟩:=hE.evs
 have HE1:Hid (EvsP w1 lp L):=hev
 have HGE1:Hid (∀g,lp=some ⟨g,0,none⟩→g<w1.heap.size):=hge
 have K1:Hid (Nw w w1):=hE.nw
 clear hE hev hge HST
 go_wp2_with fail
 refine (awake_any lp lc L w1 HE1.out HGE1.out (by have:=HL12.out;omega) HLE.out HLG.out).mono ?_
 rintro e2 w2 ⟨rfl,k2⟩
 have K2:Hid (Nw w1 w2):=k2
 clear k2
 go_wp2_with fail
 refine (namedK_any a w2 ha).mono ?_
 rintro e3 w3 ⟨s,code,rfl,hN,k3⟩
 have K3:Hid (Nw w1 w3):=K2.out.trans k3
 have SK:Hid (StrK code L):=HSK.out s code hN
 have HNW:Hid (∀W,Calls Tryz.prog 18 #[.string ⟨#[49,49,49]⟩,.agg #[.int .i64 200,.int .i64 200],.string s] W (LdPost W (bI ⟨#[49,49,49]⟩) 200 200 code)):=fun W=>new_any _ _ 200 200 _ W (by unfold maxLen;decide) (by have:=hN.z;unfold maxLen;omega) hN.p (by omega) (by omega) (by omega) (by omega)
 clear hN k3 HSK K2
 go_wp2_with fail
 refine (great_any w3).mono ?_
 rintro e4 w4 ⟨rfl,k4⟩
 go_wp2_with fail
 refine (HNW.out w4).mono ?_
 rintro e5 w5 ⟨X,rfl,hnx⟩
 have RX:Hid (RunA w5 X (bI ⟨#[49,49,49]⟩) 200 200 code (fun b=>w4.heap.size≤b∧b<w5.heap.size) ⟨[],0,0,false⟩):=hnx.runA
 have K5:Hid (Nw w1 w5):=(K3.out.trans k4).trans hnx.n
 have HX4:Hid (w4.heap.size≤X∧X<w5.heap.size):=⟨hnx.x,RX.out.lt⟩
 have HS4:Hid (w1.heap.size≤w4.heap.size):=(K3.out.trans k4).size
 clear hnx k4 K3
 go_wp2_with fail
 refine (great_any w5).mono ?_
 rintro e6 w6 ⟨rfl,k6⟩
 go_wp2_with fail
 refine (HNW.out w6).mono ?_
 rintro e7 w7 ⟨Y,rfl,hny⟩
 have RY:Hid (RunA w7 Y (bI ⟨#[49,49,49]⟩) 200 200 code (fun b=>w5.heap.size≤b) ⟨[],0,0,false⟩):=hny.runA.mono (fun b _ h=>Nat.le_trans k6.size h.1)
 have K57:Nw w5 w7:=k6.trans hny.n
 have RX7:Hid (RunA w7 X (bI ⟨#[49,49,49]⟩) 200 200 code (fun b=>b<w5.heap.size∨w7.heap.size≤b) ⟨[],0,0,false⟩):=(RX.out.nw K57).mono (fun b _ h=>Or.inl h.2)
 have K7:Hid (Nw w1 w7):=K5.out.trans K57
 have HS57:Hid (w5.heap.size≤w7.heap.size):=K57.size
 have HY7:Hid (w5.heap.size≤Y∧Y<w7.heap.size):=⟨Nat.le_trans k6.size hny.x,RY.out.lt⟩
 have T0:Hid (TrcM code L bad w X Y w5.heap.size w7.heap.size lp pb 0 w7):=⟨RX7.out,RY.out,HE1.out.kp K7.out (fun _ _ h=>h),HPB.out.nw (K1.out.trans K7.out),K1.out.trans K7.out,Nat.le_refl _⟩
 have HWG:Hid (w.heap.size≤w1.heap.size):=K1.out.size
 clear hny k6 K57 HNW RX RX7 RY K5 K7 HPB HE1
 have HXM:Hid (X<w5.heap.size):=HX4.out.2
 have HXG:Hid (w1.heap.size≤X):=Nat.le_trans HS4.out HX4.out.1
 have HYM:Hid (Y<w7.heap.size):=HY7.out.2
 have HYG:Hid (w5.heap.size≤Y):=HY7.out.1
 have HM12:Hid (w5.heap.size≤w7.heap.size):=HS57.out
 have HGE:Hid (∀g,lp=some ⟨g,0,none⟩→g<w1.heap.size):=HGE1.out
 clear HX4 HS4 HY7 HS57 HGE1
 generalize w5.heap.size=M at *
 generalize w7.heap.size=M2 at *
 have HLL:=HL12.out
 go_wp2
 go_loopg [14,15] L.length (fun m v14 v15 wr=>∃i:Nat,v14=.int .i64 ((L.take i).foldl (fun _ x=>x.at') 0)∧v15=.int .i64 i∧m=L.length - i∧i≤L.length∧TrcM code L bad w X Y M M2 lp pb i wr)
 case atStart=>exact ⟨0,rfl,rfl,rfl,by omega,T0.out⟩
 case round =>
  obtain ⟨i,rfl,rfl,hm,hil,hT⟩:=hrel
  have HMM:Hid (_=L.length - i):=hm
  have HT:Hid (TrcM code L bad w X Y M M2 lp pb i wr):=hT
  clear hm T0
  have hst:=run_state (r:=⟨[],0,0,false⟩) rfl SK.out.ok i hil
  have hcn:=run_count (r:=⟨[],0,0,false⟩) SK.out.ok i hil
  have HSP:Hid ((runS (bI ⟨#[49,49,49]⟩) code (beginsS code) 200 200 ⟨[],0,0,false⟩ (L.take i)).spent=false):=hst.1
  have HLA:Hid ((runS (bI ⟨#[49,49,49]⟩) code (beginsS code) 200 200 ⟨[],0,0,false⟩ (L.take i)).last=(L.take i).foldl (fun _ x=>x.at') 0):=hst.2
  have HCN:Hid ((runS (bI ⟨#[49,49,49]⟩) code (beginsS code) 200 200 ⟨[],0,0,false⟩ (L.take i)).count=i):=by show _=_;rw [hcn];show 0+i=i;omega
  have HCT:Hid ((runS (bI ⟨#[49,49,49]⟩) code (beginsS code) 200 200 ⟨[],0,0,false⟩ (L.take i)).count≤1000000):=by show _≤_;rw [HCN.out];omega
  have hnow:=SK.out.t i hil
  clear hst hcn
  by_cases hi:i<L.length
  ·obtain ⟨x,hx⟩:∃x,L[i]? = some x:=⟨L[i],by simp [hi]⟩
   have hne:¬L=[]:=by intro e;rw [e] at hx;simp at hx
   have HXO:Hid (EvOk x):=HLE.out x (List.mem_of_getElem? hx)
   have HTK:Hid (L.take (i+1)=L.take i++[x]):=by show _=_;rw [List.take_add_one,hx];rfl
   have HNW1:Hid ((L.take (i+1)).foldl (fun _ x=>x.at') 0=x.at'):=by show _=_;rw [HTK.out,List.foldl_append];rfl
   obtain ⟨gx,cx,bx,hkx,hcx,_⟩:=hT.x
   have hmo:=feed_mts hcx hkx.k HXO.out HCT.out
   have HR1:Hid (runS (bI ⟨#[49,49,49]⟩) code (beginsS code) 200 200 ⟨[],0,0,false⟩ (L.take (i+1))=(feedS (bI ⟨#[49,49,49]⟩) code (beginsS code) 200 200 (runS (bI ⟨#[49,49,49]⟩) code (beginsS code) 200 200 ⟨[],0,0,false⟩ (L.take i)) x).1):=by show _=_;rw [HTK.out,runS_snoc]
   have hz:=SK.out.ok i x hx
   obtain ⟨P,hP⟩:∃P,feedS (bI ⟨#[49,49,49]⟩) code (beginsS code) 200 200 (runS (bI ⟨#[49,49,49]⟩) code (beginsS code) 200 200 ⟨[],0,0,false⟩ (L.take i)) x=P:=⟨_,rfl⟩
   rw [hP] at hmo HR1 hz
   have HP:Hid (feedS (bI ⟨#[49,49,49]⟩) code (beginsS code) 200 200 (runS (bI ⟨#[49,49,49]⟩) code (beginsS code) 200 200 ⟨[],0,0,false⟩ (L.take i)) x=P):=hP
   have HZ:Hid (P.2.2=0):=hz
   have HMO:Hid (∀m∈P.2.1,MtOk m):=hmo
   have HML:Hid (P.2.1.length≤10000):=by
    show _≤_
    have:=feed_len (sc:=bI ⟨#[49,49,49]⟩) hcx hkx.k HXO.out HCT.out
    rw [hP] at this
    exact this
   clear hmo hz hP hkx hcx HTK
   have hil2:(i:Int)<L.length:=by omega
   by_cases hb:i<bad.length
   ·obtain ⟨c,hc⟩:∃c,bad[i]? = some c:=⟨bad[i],by simp [hb]⟩
    have hbne:¬bad=[]:=by intro e;rw [e] at hc;simp at hc
    obtain ⟨gb,ob,rfl,hgbl,hcb⟩:=hT.b hbne
    have cb:=hcb i c hc
    have hc64:In64 c:=HB64.out c (List.mem_of_getElem? hc)
    have hib:(i:Int)<bad.length:=by omega
    clear hcb hc hT hbne
    go_wp2_with fail
    refine (HSP0.out c _ wr hc64 hnow.1 hnow.2).mono ?_
    rintro e8 w8 ⟨eb,rfl,hok,hbad,k8⟩
    have T8:Hid (∀o,TrcM code L bad w X Y M M2 lp (some ⟨gb,ob,none⟩) i (w8.alloc o)):=fun o=>HT.out.nw (k8.alloc o)
    have HF0:Hid (∀o,Calls Tryz.prog 21 #[.pointer (some ⟨Y,0,none⟩),.agg #[.int .i64 eb.at',.int .i64 eb.kind,.int .i64 eb.x,.int .i64 eb.y,.int .i64 eb.z]] (w8.alloc o) (FedA (w8.alloc o) Y (bI ⟨#[49,49,49]⟩) 200 200 code (fun b=>M≤b) (runS (bI ⟨#[49,49,49]⟩) code (beginsS code) 200 200 ⟨[],0,0,false⟩ (L.take i),[],10))):=by
     intro o
     have:=feedA_any (T8.out o).y (fun b hb=>by have:=(T8.out o).m;have:=HM12.out;omega) hok HCT.out
     rw [feed_bad HSP.out (by rw [HLA.out];exact hbad)] at this
     exact this
    clear k8 hok hbad cb
    go_wp2_with fail
    refine (HF0.out _).mono ?_
    rintro e9 w9 ⟨mp,mc,rfl,hO9,hy9,kk9,hnl⟩
    have hnl2:=hnl (by simp)
    simp only [List.length_nil,Value.slice.injEq,true_and] at hnl2
    obtain ⟨rfl,rfl⟩:=hnl2
    simp only [List.length_nil]
    have T9:Hid (TrcM code L bad w X Y M M2 lp (some ⟨gb,ob,none⟩) i w9):=by
     have h8:=T8.out (.cells #[.int .i64 eb.at',.int .i64 eb.kind,.int .i64 eb.x,.int .i64 eb.y,.int .i64 eb.z] 47)
     exact ⟨h8.x.kp kk9 (by intro b _ hb e;have:=HYM.out;have:=HYG.out;omega),hy9,h8.e.kp kk9 (by intro g' e' e2;have:=HGE.out g' e';have:=HYG.out;have:=HXG.out;have:=HXM.out;omega),h8.b.kq kk9 (by intro hbn g' o' e' e2;have:=HGB.out hbn g' o' e';have:=HYG.out;have:=HXG.out;have:=HXM.out;have:=HWG.out;omega),h8.n.trans' kk9 (by intro b hb e;have:=HYG.out;have:=HXG.out;have:=HXM.out;have:=HWG.out;omega),Nat.le_trans h8.m kk9.size⟩
    clear hO9 hy9 kk9 hnl HF0 T8
    have T0:Hid (TrcM code L bad w X Y M M2 lp (some ⟨gb,ob,none⟩) i w9):=T9.out
    obtain ⟨ge,rfl,hgl,hce⟩:=T0.out.e hne
    have d0:=hce i x hx 0 _ rfl
    have d1:=hce i x hx 1 _ rfl
    have d2:=hce i x hx 2 _ rfl
    have d3:=hce i x hx 3 _ rfl
    have d4:=hce i x hx 4 _ rfl
    simp only [Nat.add_zero] at d0
    have HF1:Hid (Calls Tryz.prog 21 #[.pointer (some ⟨X,0,none⟩),.agg #[.int .i64 x.at',.int .i64 x.kind,.int .i64 x.x,.int .i64 x.y,.int .i64 x.z]] w9 (FedA w9 X (bI ⟨#[49,49,49]⟩) 200 200 code (fun b=>b<M∨M2≤b) P)):=by
     have:=feedA_any T0.out.x (fun b hb=>Or.inr (Nat.le_trans T0.out.m hb)) HXO.out HCT.out
     rw [HP.out] at this
     exact this
    clear hce hx hne
    go_wp2_with fail
    refine HF1.out.mono ?_
    rintro e5 w5 ⟨mp1,mc1,rfl,hO1,hx5,kk5,_⟩
    have HO1:Hid (w5.ownsRow w9.heap.size 36 6 (.slice mp1 P.2.1.length mc1) P.2.1.length (mtsC P.2.1)):=hO1
    have X5:Hid (RunA w5 X (bI ⟨#[49,49,49]⟩) 200 200 code (fun b=>b<M∨M2≤b) P.1):=hx5
    have K5:Hid (Kp (fun b=>b=X) w9 w5):=kk5
    have Y5:Hid (RunA w5 Y (bI ⟨#[49,49,49]⟩) 200 200 code (fun b=>M≤b) (runS (bI ⟨#[49,49,49]⟩) code (beginsS code) 200 200 ⟨[],0,0,false⟩ (L.take i))):=T0.out.y.kp kk5 (by intro b _ hb e;have:=HXM.out;omega)
    have E5:Hid (EvsP w5 (some ⟨ge,0,none⟩) L):=T0.out.e.kp kk5 (by intro g' e' e2;have:=HGE.out g' e';have:=HXG.out;omega)
    have HF2:Hid (Calls Tryz.prog 21 #[.pointer (some ⟨Y,0,none⟩),.agg #[.int .i64 x.at',.int .i64 x.kind,.int .i64 x.x,.int .i64 x.y,.int .i64 x.z]] w5 (FedA w5 Y (bI ⟨#[49,49,49]⟩) 200 200 code (fun b=>M≤b) P)):=by
     have:=feedA_any Y5.out (fun b hb=>by have:=T0.out.m;have:=HM12.out;have:=K5.out.size;omega) HXO.out HCT.out
     rw [HP.out] at this
     exact this
    have q0:w5.cell? ⟨ge,i*5,none⟩=some (.int .i64 x.at'):=(kk5.cell (p:=⟨ge,i*5,none⟩) hgl (by intro (e:ge=X);have:=HGE.out ge rfl;have:=HXG.out;omega)).trans d0
    have q1:w5.cell? ⟨ge,i*5+1,none⟩=some (.int .i64 x.kind):=(kk5.cell (p:=⟨ge,i*5+1,none⟩) hgl (by intro (e:ge=X);have:=HGE.out ge rfl;have:=HXG.out;omega)).trans d1
    have q2:w5.cell? ⟨ge,i*5+2,none⟩=some (.int .i64 x.x):=(kk5.cell (p:=⟨ge,i*5+2,none⟩) hgl (by intro (e:ge=X);have:=HGE.out ge rfl;have:=HXG.out;omega)).trans d2
    have q3:w5.cell? ⟨ge,i*5+3,none⟩=some (.int .i64 x.y):=(kk5.cell (p:=⟨ge,i*5+3,none⟩) hgl (by intro (e:ge=X);have:=HGE.out ge rfl;have:=HXG.out;omega)).trans d3
    have q4:w5.cell? ⟨ge,i*5+4,none⟩=some (.int .i64 x.z):=(kk5.cell (p:=⟨ge,i*5+4,none⟩) hgl (by intro (e:ge=X);have:=HGE.out ge rfl;have:=HXG.out;omega)).trans d4
    have hz1:=HZ.out
    rw [hz1]
    clear hO1 hx5 kk5 HF1 d0 d1 d2 d3 d4
    go_wp2_with fail
    refine HF2.out.mono ?_
    rintro e6 w6 ⟨mp2,mc2,rfl,hO2,hy6,kk6,_⟩
    have hsz5:w9.heap.size≤w5.heap.size:=K5.out.size
    have hsz0:M2≤w9.heap.size:=T0.out.m
    have HO1':Hid (w6.ownsRow w9.heap.size 36 6 (.slice mp1 P.2.1.length mc1) P.2.1.length (mtsC P.2.1)):=owns_kp HO1.out kk6 (by intro b hb e;have:=(HO1.out.lt b hb).1;have:=HYM.out;omega)
    have HSM:Hid (Calls Tryz.prog 17 #[.slice mp1 P.2.1.length mc1,.slice mp2 P.2.1.length mc2] w6 fun e w'=>e=.returned (.bool true)∧Nw w6 w'):=sameM_same mp1 mp2 mc1 mc2 P.2.1 w6 (mts_of HO1'.out) (mts_of hO2) (by have:=HML.out;omega) HMO.out
    have T6:Hid (TrcM code L bad w X Y M M2 (some ⟨ge,0,none⟩) (some ⟨gb,ob,none⟩) (i+1) w6):=by
     refine ⟨?_,?_,E5.out.kp kk6 ?_,(T0.out.b.kq K5.out ?_).kq kk6 ?_,(T0.out.n.trans' K5.out ?_).trans' kk6 ?_,by have:=kk6.size;omega⟩
     ·rw [HR1.out];exact X5.out.kp kk6 (by intro b _ hb e;have:=HYM.out;have:=HYG.out;omega)
     ·rw [HR1.out];exact hy6
     ·intro g' e' e2;have:=HGE.out g' e';have:=HYG.out;have:=HXG.out;have:=HXM.out;omega
     ·intro hbn g' o' e' e2;have:=HGB.out hbn g' o' e';have:=HXG.out;have:=HWG.out;omega
     ·intro hbn g' o' e' e2;have:=HGB.out hbn g' o' e';have:=HYG.out;have:=HXG.out;have:=HXM.out;have:=HWG.out;omega
     ·intro b hb e;have:=HXG.out;have:=HWG.out;omega
     ·intro b hb e;have:=HYG.out;have:=HXG.out;have:=HXM.out;have:=HWG.out;omega
    rw [hz1]
    clear hO2 hy6 kk6 HF2 q0 q1 q2 q3 q4 HO1
    go_wp2_with fail
    refine HSM.out.mono ?_
    rintro e7 w7 ⟨rfl,k7⟩
    have T7:Hid (TrcM code L bad w X Y M M2 (some ⟨ge,0,none⟩) (some ⟨gb,ob,none⟩) (i+1) w7):=T6.out.nw k7
    clear k7 HSM T6
    go_wp2
    go_roundg (L.length - (i+1))
    case measure=>rw [HMM.out];omega
    case rel=>exact ⟨i+1,by rw [HNW1.out],by simp,rfl,by omega,T7.out⟩
   ·have hib:¬(i:Int)<bad.length:=by omega
    clear hT
    have T0:Hid (TrcM code L bad w X Y M M2 lp pb i wr):=HT.out
    obtain ⟨ge,rfl,hgl,hce⟩:=T0.out.e hne
    have d0:=hce i x hx 0 _ rfl
    have d1:=hce i x hx 1 _ rfl
    have d2:=hce i x hx 2 _ rfl
    have d3:=hce i x hx 3 _ rfl
    have d4:=hce i x hx 4 _ rfl
    simp only [Nat.add_zero] at d0
    have HF1:Hid (Calls Tryz.prog 21 #[.pointer (some ⟨X,0,none⟩),.agg #[.int .i64 x.at',.int .i64 x.kind,.int .i64 x.x,.int .i64 x.y,.int .i64 x.z]] wr (FedA wr X (bI ⟨#[49,49,49]⟩) 200 200 code (fun b=>b<M∨M2≤b) P)):=by
     have:=feedA_any T0.out.x (fun b hb=>Or.inr (Nat.le_trans T0.out.m hb)) HXO.out HCT.out
     rw [HP.out] at this
     exact this
    clear hce hx hne
    go_wp2_with fail
    refine HF1.out.mono ?_
    rintro e5 w5 ⟨mp1,mc1,rfl,hO1,hx5,kk5,_⟩
    have HO1:Hid (w5.ownsRow wr.heap.size 36 6 (.slice mp1 P.2.1.length mc1) P.2.1.length (mtsC P.2.1)):=hO1
    have X5:Hid (RunA w5 X (bI ⟨#[49,49,49]⟩) 200 200 code (fun b=>b<M∨M2≤b) P.1):=hx5
    have K5:Hid (Kp (fun b=>b=X) wr w5):=kk5
    have Y5:Hid (RunA w5 Y (bI ⟨#[49,49,49]⟩) 200 200 code (fun b=>M≤b) (runS (bI ⟨#[49,49,49]⟩) code (beginsS code) 200 200 ⟨[],0,0,false⟩ (L.take i))):=T0.out.y.kp kk5 (by intro b _ hb e;have:=HXM.out;omega)
    have E5:Hid (EvsP w5 (some ⟨ge,0,none⟩) L):=T0.out.e.kp kk5 (by intro g' e' e2;have:=HGE.out g' e';have:=HXG.out;omega)
    have HF2:Hid (Calls Tryz.prog 21 #[.pointer (some ⟨Y,0,none⟩),.agg #[.int .i64 x.at',.int .i64 x.kind,.int .i64 x.x,.int .i64 x.y,.int .i64 x.z]] w5 (FedA w5 Y (bI ⟨#[49,49,49]⟩) 200 200 code (fun b=>M≤b) P)):=by
     have:=feedA_any Y5.out (fun b hb=>by have:=T0.out.m;have:=HM12.out;have:=K5.out.size;omega) HXO.out HCT.out
     rw [HP.out] at this
     exact this
    have q0:w5.cell? ⟨ge,i*5,none⟩=some (.int .i64 x.at'):=(kk5.cell (p:=⟨ge,i*5,none⟩) hgl (by intro (e:ge=X);have:=HGE.out ge rfl;have:=HXG.out;omega)).trans d0
    have q1:w5.cell? ⟨ge,i*5+1,none⟩=some (.int .i64 x.kind):=(kk5.cell (p:=⟨ge,i*5+1,none⟩) hgl (by intro (e:ge=X);have:=HGE.out ge rfl;have:=HXG.out;omega)).trans d1
    have q2:w5.cell? ⟨ge,i*5+2,none⟩=some (.int .i64 x.x):=(kk5.cell (p:=⟨ge,i*5+2,none⟩) hgl (by intro (e:ge=X);have:=HGE.out ge rfl;have:=HXG.out;omega)).trans d2
    have q3:w5.cell? ⟨ge,i*5+3,none⟩=some (.int .i64 x.y):=(kk5.cell (p:=⟨ge,i*5+3,none⟩) hgl (by intro (e:ge=X);have:=HGE.out ge rfl;have:=HXG.out;omega)).trans d3
    have q4:w5.cell? ⟨ge,i*5+4,none⟩=some (.int .i64 x.z):=(kk5.cell (p:=⟨ge,i*5+4,none⟩) hgl (by intro (e:ge=X);have:=HGE.out ge rfl;have:=HXG.out;omega)).trans d4
    have hz1:=HZ.out
    rw [hz1]
    clear hO1 hx5 kk5 HF1 d0 d1 d2 d3 d4
    go_wp2_with fail
    refine HF2.out.mono ?_
    rintro e6 w6 ⟨mp2,mc2,rfl,hO2,hy6,kk6,_⟩
    have hsz5:wr.heap.size≤w5.heap.size:=K5.out.size
    have hsz0:M2≤wr.heap.size:=T0.out.m
    have HO1':Hid (w6.ownsRow wr.heap.size 36 6 (.slice mp1 P.2.1.length mc1) P.2.1.length (mtsC P.2.1)):=owns_kp HO1.out kk6 (by intro b hb e;have:=(HO1.out.lt b hb).1;have:=HYM.out;omega)
    have HSM:Hid (Calls Tryz.prog 17 #[.slice mp1 P.2.1.length mc1,.slice mp2 P.2.1.length mc2] w6 fun e w'=>e=.returned (.bool true)∧Nw w6 w'):=sameM_same mp1 mp2 mc1 mc2 P.2.1 w6 (mts_of HO1'.out) (mts_of hO2) (by have:=HML.out;omega) HMO.out
    have T6:Hid (TrcM code L bad w X Y M M2 (some ⟨ge,0,none⟩) pb (i+1) w6):=by
     refine ⟨?_,?_,E5.out.kp kk6 ?_,(T0.out.b.kq K5.out ?_).kq kk6 ?_,(T0.out.n.trans' K5.out ?_).trans' kk6 ?_,by have:=kk6.size;omega⟩
     ·rw [HR1.out];exact X5.out.kp kk6 (by intro b _ hb e;have:=HYM.out;have:=HYG.out;omega)
     ·rw [HR1.out];exact hy6
     ·intro g' e' e2;have:=HGE.out g' e';have:=HYG.out;have:=HXG.out;have:=HXM.out;omega
     ·intro hbn g' o' e' e2;have:=HGB.out hbn g' o' e';have:=HXG.out;have:=HWG.out;omega
     ·intro hbn g' o' e' e2;have:=HGB.out hbn g' o' e';have:=HYG.out;have:=HXG.out;have:=HXM.out;have:=HWG.out;omega
     ·intro b hb e;have:=HXG.out;have:=HWG.out;omega
     ·intro b hb e;have:=HYG.out;have:=HXG.out;have:=HXM.out;have:=HWG.out;omega
    rw [hz1]
    clear hO2 hy6 kk6 HF2 q0 q1 q2 q3 q4 HO1
    go_wp2_with fail
    refine HSM.out.mono ?_
    rintro e7 w7 ⟨rfl,k7⟩
    have T7:Hid (TrcM code L bad w X Y M M2 (some ⟨ge,0,none⟩) pb (i+1) w7):=T6.out.nw k7
    clear k7 HSM T6
    go_wp2
    go_roundg (L.length - (i+1))
    case measure=>rw [HMM.out];omega
    case rel=>exact ⟨i+1,by rw [HNW1.out],by simp,rfl,by omega,T7.out⟩
  ·have hil2:¬(i:Int)<L.length:=by omega
   have ei:i=L.length:=by omega
   have HLX:=HT.out.x.live
   have HLY:=HT.out.y.live
   have HCY:=HT.out.y.count
   have HCN2:((runS (bI ⟨#[49,49,49]⟩) code (beginsS code) 200 200 ⟨[],0,0,false⟩ (L.take i)).count:Int)=(L.length:Int):=by rw [HCN.out,ei]
   rw [HCN2] at HCY
   have HLX':Hid (Calls Tryz.prog 22 #[.pointer (some ⟨X,0,none⟩)] wr fun e w'=>e=.returned (.int .i64 ((runS (bI ⟨#[49,49,49]⟩) code (beginsS code) 200 200 ⟨[],0,0,false⟩ (L.take i)).ws.length:Int))∧w'=wr):=HLX
   have HLY':Hid (Calls Tryz.prog 22 #[.pointer (some ⟨Y,0,none⟩)] wr fun e w'=>e=.returned (.int .i64 ((runS (bI ⟨#[49,49,49]⟩) code (beginsS code) 200 200 ⟨[],0,0,false⟩ (L.take i)).ws.length:Int))∧w'=wr):=HLY
   have HCY':Hid (Calls Tryz.prog 23 #[.pointer (some ⟨Y,0,none⟩)] wr fun e w'=>e=.returned (.int .i64 (L.length:Int))∧w'=wr):=HCY
   clear HLX HLY HCY HCN2 hT
   generalize ((runS (bI ⟨#[49,49,49]⟩) code (beginsS code) 200 200 ⟨[],0,0,false⟩ (L.take i)).ws.length:Int)=ll at HLX' HLY'
   go_wp2_with fail
   refine HLX'.out.mono ?_
   rintro e8 w8 ⟨rfl,rfl⟩
   go_wp2_with fail
   refine HLY'.out.mono ?_
   rintro e8 w8 ⟨rfl,rfl⟩
   go_wp2_with fail
   refine HCY'.out.mono ?_
   rintro e8 w8 ⟨rfl,rfl⟩
   go_wp2
   go_ret
   exact ⟨rfl,HT.out.n⟩
theorem owns_over {w:World} {base g n cap size i:Nat} {e:TypeId} {cs vs:List Value} (h:w.ownsRow base e size (.slice (some ⟨g,0,none⟩) n cap) n cs) (hi:i<n) (hl:cs.length=n*size) (hv:vs.length=size) :
  w.there g (i*size) vs.toArray.size∧∃cs',cs'.length=n*size∧(w.setCells g (i*size) vs).ownsRow base e size (.slice (some ⟨g,0,none⟩) n cap) n cs':=by
 have hle:i*size+size≤n*size:=by
  have:=Nat.mul_le_mul_right size (show i+1≤n by omega)
  rw [Nat.add_mul,Nat.one_mul] at this
  exact this
 refine ⟨?_,cs.take (i*size)++vs++cs.drop (i*size+size),?_,?_⟩
 ·intro k hk
  have hk':k<size:=by rwa [List.size_toArray,hv] at hk
  refine ⟨?_,h.frozenAt _⟩
  have hc:=owns_cell h (i*size+k) (v:=cs[i*size+k]'(by omega)) (by simp)
  rw [hc];rfl
 ·rw [List.length_append,List.length_append,List.length_take,List.length_drop,hl,hv,Nat.min_eq_left (by omega)];omega
 ·have e1:cs=cs.take (i*size)++(cs.drop (i*size)).take size++cs.drop (i*size+size):=by
   rw [List.append_assoc,←List.drop_drop,List.take_append_drop,List.take_append_drop]
  rw [e1] at h
  have:=owns_setCells vs (i*size) w (cs.take (i*size)) (cs.drop (i*size+size)) ((cs.drop (i*size)).take size) h (by rw [List.length_take,hl,Nat.min_eq_left (by omega)]) (by rw [List.length_take,List.length_drop,hl,hv,Nat.min_eq_left (by omega)])
  exact this
theorem mtsC_len0 (l:List Mt):(mtsC l).length=l.length*6:=by
 induction l with
 | nil=>rfl
 | cons y r ih =>
  have e:mtsC (y::r)=mtC y++mtsC r:=by simp [mtsC]
  have hl:(mtC y).length=6:=rfl
  rw [e,List.length_append,ih,hl,List.length_cons];omega
def FedC (w:World) (X:Nat) (sc:List Int) (live found:Int) (l:List In) (P:Nat→Prop) (p:Rst×List Mt×Int) (e:Ending) (w':World):Prop :=
 ∃mp mc,e=.returned (.tuple #[.slice mp p.2.1.length mc,.int .i64 p.2.2])∧w'.ownsRow w.heap.size 36 6 (.slice mp p.2.1.length mc) p.2.1.length (mtsC p.2.1)∧RunA w' X sc live found l (fun b=>P b∧∀g,mp=some ⟨g,0,none⟩→¬b=g) p.1∧Kp (fun b=>b=X) w w'
theorem feedC_any {w:World} {X:Nat} {sc:List Int} {live found:Int} {l:List In} {P:Nat→Prop} {r:Rst} (h:RunA w X sc live found l P r) (hP:∀b,w.heap.size≤b→P b) {e:Evt} (he:EvOk e) (hct:r.count≤1000000) :
  Calls Tryz.prog 21 #[.pointer (some ⟨X,0,none⟩),.agg #[.int .i64 e.at',.int .i64 e.kind,.int .i64 e.x,.int .i64 e.y,.int .i64 e.z]] w (FedC w X sc live found l P (feedS sc l (beginsS l) live found r e)):=by
 obtain ⟨g,cap,bv,hk,hc,p1,p2,p3,p4⟩:=h
 have hk0:=hk
 refine (feedX_any X sc live found g cap l bv (beginsS l) r e w hc hk he hct).mono ?_
 rintro e3 w3 ⟨v,rfl,hO,hk3,kk,hnl,hlw⟩
 obtain ⟨mp,mc,rfl⟩:=ownsLenX hO
 obtain ⟨⟨wv0,hm0⟩,_,_⟩:=hk0
 obtain ⟨⟨wv3,hm3⟩,_,_⟩:=id hk3
 have hnew:∀gm,mp=some ⟨gm,0,none⟩→w.heap.size≤gm:=by
  intro gm e
  subst e
  exact (hO.lt gm rfl).1
 refine ⟨mp,mc,rfl,hO,⟨g,cap,bv,hk3,hc,⟨p1,?_⟩,⟨p2,?_⟩,?_,?_⟩,kk⟩
 ·intro gm e h;have:=hnew gm e;have:=hm0.lt;omega
 ·intro gm e h;have:=hnew gm e;have:=hm0.code.lt;omega
 ·intro b hb
  refine ⟨p3 b hb,?_⟩
  intro gm e h;have:=hnew gm e;have:=(hm0.bo.lt b hb).2;omega
 ·intro v b hv hb
  refine ⟨?_,?_⟩
  ·rcases hlw v b hv hb with h|h
   ·exact hP b h
   ·exact p4 v b h hb
  ·intro gm e h
   subst h
   subst e
   rw [hm3.wt] at hv
   cases hv
   exact absurd (owns_types hm3.wo hO hb rfl) (by decide)
theorem compileO_any (sc s:ByteArray) (l:List In) (hsc:sc.size≤maxLen) (hs:s.size≤maxLen) (hp:ProgIs sc s l) (W:World) :
  Calls Tryz.prog 24 #[.string sc,.string s] W fun e w'=>∃g cap,e=.returned (.tuple #[.slice (some ⟨g,0,none⟩) l.length cap,.int .i64 0])∧w'.ownsRow W.heap.size 62 14 (.slice (some ⟨g,0,none⟩) l.length cap) l.length (codeC l)∧Nw W w':=by
 obtain ⟨_,hne,_⟩:=hp.v.all
 have h0:0<l.length:=List.length_pos_iff.2 hne
 refine (compileP_any sc s W hsc hs).mono ?_
 rintro e w' ⟨hk,⟨f,p,he,hf,hck⟩ | ⟨p,t,win,L,v,he,hck,⟨x,hx⟩,hkn,ho⟩⟩
 ·exact absurd (hp.ck f p hck) hf
 ·rw [hp.code t win L x hx hkn] at ho
  obtain ⟨g,cap,rfl⟩:=owns_some ho h0
  exact ⟨g,cap,he,ho,hk⟩
theorem codeOw {w:World} {base g n c:Nat} {l:List In} (ho:w.ownsRow base 62 14 (.slice (some ⟨g,0,none⟩) n c) n (codeC l)):Code' w g l :=
 Code'.of_cells (ho.lt g rfl).2 (fun j v hv=>owns_cell ho j hv)
theorem names4_at:∀k,k<10→∃s code,namesC[k]? = some (.string s)∧NamK s code∧4≤code.length∧code.length≤1000:=by
 intro k hk
 rcases (show k=0∨k=1∨k=2∨k=3∨k=4∨k=5∨k=6∨k=7∨k=8∨k=9 by omega) with rfl|rfl|rfl|rfl|rfl|rfl|rfl|rfl|rfl|rfl
 ·exact ⟨_,ncode0,rfl,⟨nprog0,by decide,nfree0⟩,by decide,by decide⟩
 ·exact ⟨_,ncode1,rfl,⟨nprog1,by decide,nfree1⟩,by decide,by decide⟩
 ·exact ⟨_,ncode2,rfl,⟨nprog2,by decide,nfree2⟩,by decide,by decide⟩
 ·exact ⟨_,ncode3,rfl,⟨nprog3,by decide,nfree3⟩,by decide,by decide⟩
 ·exact ⟨_,ncode4,rfl,⟨nprog4,by decide,nfree4⟩,by decide,by decide⟩
 ·exact ⟨_,ncode5,rfl,⟨nprog5,by decide,nfree5⟩,by decide,by decide⟩
 ·exact ⟨_,ncode6,rfl,⟨nprog6,by decide,nfree6⟩,by decide,by decide⟩
 ·exact ⟨_,ncode7,rfl,⟨nprog7,by decide,nfree7⟩,by decide,by decide⟩
 ·exact ⟨_,ncode8,rfl,⟨nprog8,by decide,nfree8⟩,by decide,by decide⟩
 ·exact ⟨_,ncode9,rfl,⟨nprog9,by decide,nfree9⟩,by decide,by decide⟩
theorem named4_any (c:Int) (w:World) (hc:In64 c):Calls Tryz.prog 15 #[.int .i64 c] w fun e w'=>∃s code,e=.returned (.string s)∧(NamK s code∧4≤code.length∧code.length≤1000)∧Nw w w':=by
 have HP:Hid (∀W,Calls Tryz.prog 14 #[.int .i64 c,.int .i64 10] W fun e w'=>e=.returned (.int .i64 (pickK c 10))∧w'=W):=fun W=>pickK_any c 10 W hc (by omega) (by omega)
 obtain ⟨k,hk⟩:∃k:Nat,pickK c 10=k:=⟨(pickK c 10).toNat,by have:=pickK_lt (c:=c) (n:=10) (by omega);omega⟩
 have hk10:k<10:=by have:=pickK_lt (c:=c) (n:=10) (by omega);omega
 rw [hk] at HP
 obtain ⟨s,code,hs,hN⟩:=names4_at k hk10
 have HN:Hid (NamK s code∧4≤code.length∧code.length≤1000):=hN
 have HB:Hid (Bx (w.alloc (.cells namesC.toArray 72)) w.heap.size namesC):=Bx.new w namesC _
 have hcell:=HB.out.cell hs
 unfold namesC at hcell
 have HK:Hid (∀o,Nw w (w.alloc o)):=fun o=>(Kp.refl _ _).alloc _
 have hki:(k:Int)<10:=by omega
 clear hk hs hN HB
 go_enter Tryz.func15,Tryz.ntmps15
 go_wp2_with fail
 refine (HP.out _).mono ?_
 rintro e1 w1 ⟨rfl,rfl⟩
 go_wp2
 go_ret
 exact ⟨s,code,rfl,HN.out,HK.out _⟩
end Go.Proofs.YtcboiapggnmpfabGreat
