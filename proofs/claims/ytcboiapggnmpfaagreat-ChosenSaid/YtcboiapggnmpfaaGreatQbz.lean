import Derived.Test.YtcboiapggnmpfaaGreatQby
namespace Go.Proofs.YtcboiapggnmpfaaGreat
set_option maxRecDepth 100000
set_option maxHeartbeats 2000000
set_option linter.unusedSimpArgs false
set_option linter.unusedVariables false
open Go.RowKit
def bfsV (tabs:List (List Tab)):Nat→List (List Nat)→List (List Nat)→List (List Nat)
 | 0,_,seen=>seen
 | f+1,fr,seen =>
  match (dedV (fr.flatMap fun s=>tabs.map fun tb=>(stepV tb s).map Prod.fst)).filter (fun s => !seen.contains s) with
  | []=>seen
  | x::r=>bfsV tabs f (x::r) (x::r++seen)
def chkV (ok:List Bool→Bool) (tabs:List (List Tab)) (V:List (List Nat)):Bool:=V.all fun s=>tabs.all fun tb=>ok ((stepV tb s).map Prod.snd)&&V.contains ((stepV tb s).map Prod.fst)
theorem chkV_sound {codes:List (List In)} {Ts:List Tst} {ok:List Bool→Bool} {V:List (List Nat)} (h:chkV ok (letters codes Ts) V=true):∀(es:List Evt) (s:List Nat) (e:Evt),s∈V→(∀x∈es,Knd x)→Knd e→ok ((stepV (ltr codes Ts e) (wordV codes Ts es s)).map Prod.snd)=true:=by
 unfold chkV at h
 simp only [Bool.and_eq_true,List.all_eq_true,List.contains_iff_mem] at h
 intro es
 induction es with
 | nil=>intro s e hs _ he;exact (h s hs _ (ltr_mem he)).1
 | cons x r ih =>
  intro s e hs hk he
  exact ih _ e (h s hs _ (ltr_mem (hk x List.mem_cons_self))).2 (fun y hy=>hk y (List.mem_cons_of_mem _ hy)) he
theorem chkV_mean {codes:List (List In)} {bss:List (List Nat)} {Ts:List Tst} (hlen:bss.length=codes.length) (hK:∀(n:Nat) (c:List In) (bs:List Nat),codes[n]? = some c→bss[n]? = some bs→CodeK Ts c bs) {ok:List Bool→Bool} {V:List (List Nat)} (hV:chkV ok (letters codes Ts) V=true) (hs:bss.map maskOf∈V)
  {L:List Evt} (hkd:∀x∈L,Knd x) {f i:Nat} (hfi:f≤i) {e:Evt} (he:L[i]? = some e) :
  ∃asL:List Bool,ok asL=true∧∀(n:Nat) (c:List In) (bs:List Nat),codes[n]? = some c→bss[n]? = some bs→∃a:Bool,asL[n]? = some a∧(a=true↔Ac c e (Bg c bs L f i)):=by
 have hil:=(List.getElem?_eq_some_iff.1 he).1
 refine ⟨_,chkV_sound hV ((L.drop f).take (i - f)) (bss.map maskOf) e hs ?_ (hkd e (List.mem_of_getElem? he)),?_⟩
 ·intro x hx
  exact hkd x (List.mem_of_mem_drop (List.mem_of_mem_take hx))
 ·intro n c bs hc hb
  obtain ⟨S,hS,hb2⟩:=word_is hlen hK (L:=L) (f:=f) (i - f) (by omega) n c bs hc hb
  rw [show f+(i - f)=i by omega] at hb2
  have hk:=hK n c bs hc hb
  obtain ⟨_,m2⟩:=mstep_is hk.i (hk.tab e) hb2 (bg_ok hk _)
  refine ⟨_,?_,m2⟩
  simp only [stepV,List.getElem?_map,List.getElem?_zipWith,hS,ltr,hc,Option.map_some]
def orB:List Bool→Bool
 | [a,b,c]=>a == (b||c)
 | _=>false
theorem or_et {cw cx cy:List In} {Ts:List Tst} (kw:CodeK Ts cw (beginsS cw)) (kx:CodeK Ts cx (beginsS cx)) (ky:CodeK Ts cy (beginsS cy)) {V:List (List Nat)} (hV:chkV orB (letters [cw,cx,cy] Ts) V=true) (hs:([cw,cx,cy].map beginsS).map maskOf∈V)
  {L:List Evt} (hkd:∀x∈L,Knd x) {i:Nat} {e:Evt} (he:L[i]? = some e) (u:Thr):Et cw (beginsS cw) L i u↔Et cx (beginsS cx) L i u∨Et cy (beginsS cy) L i u:=by
 have hK:∀(n:Nat) (c:List In) (bs:List Nat),[cw,cx,cy][n]? = some c→([cw,cx,cy].map beginsS)[n]? = some bs→CodeK Ts c bs:=by
  intro n c bs hc hb
  match n,hc,hb with
  | 0,hc,hb=>simp at hc hb;subst hc;subst hb;exact kw
  | 1,hc,hb=>simp at hc hb;subst hc;subst hb;exact kx
  | 2,hc,hb=>simp at hc hb;subst hc;subst hb;exact ky
  | (n+3),hc,hb=>simp at hc
 rw [et_plain kw.p he,et_plain kx.p he,et_plain ky.p he]
 have key:∀f,f≤i→(Ac cw e (Bg cw (beginsS cw) L f i)↔Ac cx e (Bg cx (beginsS cx) L f i)∨Ac cy e (Bg cy (beginsS cy) L f i)):=by
  intro f hf
  obtain ⟨asL,h1,h2⟩:=chkV_mean (by simp) hK hV hs hkd hf he
  obtain ⟨a,ha,ia⟩:=h2 0 cw _ rfl rfl
  obtain ⟨b,hb,ib⟩:=h2 1 cx _ rfl rfl
  obtain ⟨c,hc,ic⟩:=h2 2 cy _ rfl rfl
  rw [←ia,←ib,←ic]
  unfold orB at h1
  split at h1
  ·rename_i a' b' c'
   simp at ha hb hc
   subst ha;subst hb;subst hc
   have:=beq_iff_eq.1 h1
   rw [this,Bool.or_eq_true]
  ·cases h1
 constructor
 ·rintro ⟨f,ef,h1,h2,h3⟩
  by_cases hf:f≤i
  ·rcases (key f hf).1 h2 with h|h
   ·exact Or.inl ⟨f,ef,h1,h,h3⟩
   ·exact Or.inr ⟨f,ef,h1,h,h3⟩
  ·obtain ⟨p,x,hp,_⟩:=h2
   exact absurd hp (bg_late (by omega) p)
 ·rintro (⟨f,ef,h1,h2,h3⟩ | ⟨f,ef,h1,h2,h3⟩)
  ·by_cases hf:f≤i
   ·exact ⟨f,ef,h1,(key f hf).2 (Or.inl h2),h3⟩
   ·obtain ⟨p,x,hp,_⟩:=h2
    exact absurd hp (bg_late (by omega) p)
  ·by_cases hf:f≤i
   ·exact ⟨f,ef,h1,(key f hf).2 (Or.inr h2),h3⟩
   ·obtain ⟨p,x,hp,_⟩:=h2
    exact absurd hp (bg_late (by omega) p)
structure JoinK (A B C:List Mt):Prop where
 r:A.Pairwise (fun a b=>a.first<b.first)
 a:∀m∈A,m∈B∨m∈C
 b:∀m∈B,m∈A
 c:∀m∈C,m∈A
theorem or_join {cw cx cy:List In} {Ts:List Tst} {d:Nat} (kw:OneK Ts d cw) (kx:OneK Ts d cx) (ky:OneK Ts d cy) {V:List (List Nat)} (hV:chkV orB (letters [cw,cx,cy] Ts) V=true) (hs:([cw,cx,cy].map beginsS).map maskOf∈V) (hd:d≤200)
  {sc:List Int} {L:List Evt} (hg:GoesE sc 0 L) (hL:L.length≤d) {i:Nat} {A B C:List Mt} (hA:(outS sc cw (beginsS cw) 200 200 ⟨[],0,0,false⟩ L)[i]? = some A) (hB:(outS sc cx (beginsS cx) 200 200 ⟨[],0,0,false⟩ L)[i]? = some B) (hC:(outS sc cy (beginsS cy) 200 200 ⟨[],0,0,false⟩ L)[i]? = some C):JoinK A B C:=by
 have hil:i<L.length:=by have:=(List.getElem?_eq_some_iff.1 hA).1;rwa [outS_len] at this
 obtain ⟨e,he⟩:∃e,L[i]? = some e:=⟨L[i],by simp [hil]⟩
 rw [outS_get _ _ _ _ _ L _ i e he] at hA hB hC
 obtain ⟨E,h1,h2,h3⟩:=out_mean kw.k.i kw.bl (kw.ok hg hL hd) i e he
 obtain ⟨F,f1,f2,f3⟩:=out_mean kx.k.i kx.bl (kx.ok hg hL hd) i e he
 obtain ⟨G,g1,g2,g3⟩:=out_mean ky.k.i ky.bl (ky.ok hg hL hd) i e he
 rw [h1] at hA
 rw [f1] at hB
 rw [g1] at hC
 cases hA;cases hB;cases hC
 have hu:=or_et kw.k kx.k ky.k hV hs (goes_kinds hg) he
 refine ⟨?_,?_,?_,?_⟩
 ·rw [List.pairwise_map]
  refine List.Pairwise.imp_of_mem ?_ h2
  intro a b ha hb hab
  obtain ⟨fa,_,_,_,ea⟩:=(et_plain kw.k.p he a).1 ((h3 a).1 ha)
  obtain ⟨fb,_,_,_,eb⟩:=(et_plain kw.k.p he b).1 ((h3 b).1 hb)
  rw [ahead_iff,ea,eb] at hab
  rw [ea,eb]
  simp only [thrB,matchT] at hab ⊢
  omega
 ·intro m hm
  obtain ⟨u,hu1,rfl⟩:=List.mem_map.1 hm
  rcases (hu u).1 ((h3 u).1 hu1) with h|h
  ·exact Or.inl (List.mem_map.2 ⟨u,(f3 u).2 h,rfl⟩)
  ·exact Or.inr (List.mem_map.2 ⟨u,(g3 u).2 h,rfl⟩)
 ·intro m hm
  obtain ⟨u,hu1,rfl⟩:=List.mem_map.1 hm
  exact List.mem_map.2 ⟨u,(h3 u).2 ((hu u).2 (Or.inl ((f3 u).1 hu1))),rfl⟩
 ·intro m hm
  obtain ⟨u,hu1,rfl⟩:=List.mem_map.1 hm
  exact List.mem_map.2 ⟨u,(h3 u).2 ((hu u).2 (Or.inr ((g3 u).1 hu1))),rfl⟩
noncomputable def choB (s t:ByteArray):Bool :=
 match progB ⟨#[49,49,49]⟩ (s++⟨#[124]⟩++t),progB ⟨#[49,49,49]⟩ s,progB ⟨#[49,49,49]⟩ t with
 | some c0,some c1,some c2=>oneB (testsOf c0) 20 c0&&oneB (testsOf c0) 20 c1&&oneB (testsOf c0) 20 c2&&chkV orB (letters [c0,c1,c2] (testsOf c0)) (bfsV (letters [c0,c1,c2] (testsOf c0)) 20 [([c0,c1,c2].map beginsS).map maskOf] [([c0,c1,c2].map beginsS).map maskOf])&&(bfsV (letters [c0,c1,c2] (testsOf c0)) 20 [([c0,c1,c2].map beginsS).map maskOf] [([c0,c1,c2].map beginsS).map maskOf]).contains (([c0,c1,c2].map beginsS).map maskOf)
 | _,_,_=>false
def ChoT (s t:ByteArray):Prop:=∃c0 c1 c2:List In,∀L:List Evt,GoesE (bI ⟨#[49,49,49]⟩) 0 L→L.length≤20→PatK (s++⟨#[124]⟩++t) c0 L∧PatK s c1 L∧PatK t c2 L ∧
 (∀(i:Nat) (A B C:List Mt),(outS (bI ⟨#[49,49,49]⟩) c0 (beginsS c0) 200 200 ⟨[],0,0,false⟩ L)[i]? = some A→(outS (bI ⟨#[49,49,49]⟩) c1 (beginsS c1) 200 200 ⟨[],0,0,false⟩ L)[i]? = some B→(outS (bI ⟨#[49,49,49]⟩) c2 (beginsS c2) 200 200 ⟨[],0,0,false⟩ L)[i]? = some C→JoinK A B C) ∧
 (∀l∈outS (bI ⟨#[49,49,49]⟩) c0 (beginsS c0) 200 200 ⟨[],0,0,false⟩ L,l.length≤1000∧∀m∈l,MtOk m)∧(∀l∈outS (bI ⟨#[49,49,49]⟩) c1 (beginsS c1) 200 200 ⟨[],0,0,false⟩ L,l.length≤1000∧∀m∈l,MtOk m)∧(∀l∈outS (bI ⟨#[49,49,49]⟩) c2 (beginsS c2) 200 200 ⟨[],0,0,false⟩ L,l.length≤1000∧∀m∈l,MtOk m)
theorem progB_size2 {sc s:ByteArray} {c:List In} (h:progB sc s=some c):s.size≤1000:=by
 unfold progB at h
 split at h
 ·rename_i h1;omega
 ·cases h
theorem cho_of {s t:ByteArray} (h:choB s t=true):ChoT s t:=by
 unfold choB at h
 split at h
 ·rename_i c0 c1 c2 p0 p1 p2
  simp only [Bool.and_eq_true,List.contains_iff_mem] at h
  obtain ⟨⟨⟨⟨h0,h1⟩,h2⟩,hv⟩,hs⟩:=h
  have k0:=oneB_is h0
  have k1:=oneB_is h1
  have k2:=oneB_is h2
  refine ⟨c0,c1,c2,fun L hg hL=>⟨k0.pat p0 (progB_size2 p0) hg hL (by omega),k1.pat p1 (progB_size2 p1) hg hL (by omega),k2.pat p2 (progB_size2 p2) hg hL (by omega),?_,out_facts k0 hg hL (by omega),out_facts k1 hg hL (by omega),out_facts k2 hg hL (by omega)⟩⟩
  intro i A B C hA hB hC
  exact or_join k0 k1 k2 hv hs (by omega) hg hL hA hB hC
 ·cases h
def pieceC:List Value:=[.string ⟨#[97]⟩,.string ⟨#[97,98]⟩,.string ⟨#[97,42,98]⟩,.string ⟨#[40,97,124,98,41,99]⟩,.string ⟨#[97,91,120,60,53,93]⟩,.string ⟨#[98,43]⟩,.string ⟨#[97,63,98]⟩,.string ⟨#[40,97,98,41,123,49,50,125]⟩,.string ⟨#[40,97,124,98,99,41,42,97]⟩,.string ⟨#[99,91,120,35,50,93,97]⟩,.string ⟨#[46,42,99]⟩,.string ⟨#[97,123,48,50,125]⟩,.string ⟨#[40,97,42,98,42,41,42,99]⟩,.string ⟨#[97,91,120,62,50,38,120,60,56,93,46,42,98]⟩,.string ⟨#[46,46,99]⟩,.string ⟨#[40,97,124,98,91,120,61,52,93,124,99,41,43]⟩,.string ⟨#[97,46,63,46,63,98]⟩,.string ⟨#[40,40,97,41,41,124,98,42,99]⟩,.string ⟨#[98,123,49,51,125]⟩,.string ⟨#[40,97,91,120,60,52,93,124,99,41,42,98,91,120,62,53,93]⟩]
def pieceL:List ByteArray:=[⟨#[97]⟩,⟨#[97,98]⟩,⟨#[97,42,98]⟩,⟨#[40,97,124,98,41,99]⟩,⟨#[97,91,120,60,53,93]⟩,⟨#[98,43]⟩,⟨#[97,63,98]⟩,⟨#[40,97,98,41,123,49,50,125]⟩,⟨#[40,97,124,98,99,41,42,97]⟩,⟨#[99,91,120,35,50,93,97]⟩,⟨#[46,42,99]⟩,⟨#[97,123,48,50,125]⟩,⟨#[40,97,42,98,42,41,42,99]⟩,⟨#[97,91,120,62,50,38,120,60,56,93,46,42,98]⟩,⟨#[46,46,99]⟩,⟨#[40,97,124,98,91,120,61,52,93,124,99,41,43]⟩,⟨#[97,46,63,46,63,98]⟩,⟨#[40,40,97,41,41,124,98,42,99]⟩,⟨#[98,123,49,51,125]⟩,⟨#[40,97,91,120,60,52,93,124,99,41,42,98,91,120,62,53,93]⟩]
theorem cho0:pieceL.all (fun t=>choB ⟨#[97]⟩ t)=true:=by kernel_rfl
theorem cho1:pieceL.all (fun t=>choB ⟨#[97,98]⟩ t)=true:=by kernel_rfl
theorem cho2:pieceL.all (fun t=>choB ⟨#[97,42,98]⟩ t)=true:=by kernel_rfl
theorem cho3:pieceL.all (fun t=>choB ⟨#[40,97,124,98,41,99]⟩ t)=true:=by kernel_rfl
theorem cho4:pieceL.all (fun t=>choB ⟨#[97,91,120,60,53,93]⟩ t)=true:=by kernel_rfl
theorem cho5:pieceL.all (fun t=>choB ⟨#[98,43]⟩ t)=true:=by kernel_rfl
theorem cho6:pieceL.all (fun t=>choB ⟨#[97,63,98]⟩ t)=true:=by kernel_rfl
theorem cho7:pieceL.all (fun t=>choB ⟨#[40,97,98,41,123,49,50,125]⟩ t)=true:=by kernel_rfl
theorem cho8:pieceL.all (fun t=>choB ⟨#[40,97,124,98,99,41,42,97]⟩ t)=true:=by kernel_rfl
theorem cho9:pieceL.all (fun t=>choB ⟨#[99,91,120,35,50,93,97]⟩ t)=true:=by kernel_rfl
theorem cho10:pieceL.all (fun t=>choB ⟨#[46,42,99]⟩ t)=true:=by kernel_rfl
theorem cho11:pieceL.all (fun t=>choB ⟨#[97,123,48,50,125]⟩ t)=true:=by kernel_rfl
theorem cho12:pieceL.all (fun t=>choB ⟨#[40,97,42,98,42,41,42,99]⟩ t)=true:=by kernel_rfl
theorem cho13:pieceL.all (fun t=>choB ⟨#[97,91,120,62,50,38,120,60,56,93,46,42,98]⟩ t)=true:=by kernel_rfl
theorem cho14:pieceL.all (fun t=>choB ⟨#[46,46,99]⟩ t)=true:=by kernel_rfl
theorem cho15:pieceL.all (fun t=>choB ⟨#[40,97,124,98,91,120,61,52,93,124,99,41,43]⟩ t)=true:=by kernel_rfl
theorem cho16:pieceL.all (fun t=>choB ⟨#[97,46,63,46,63,98]⟩ t)=true:=by kernel_rfl
theorem cho17:pieceL.all (fun t=>choB ⟨#[40,40,97,41,41,124,98,42,99]⟩ t)=true:=by kernel_rfl
theorem cho18:pieceL.all (fun t=>choB ⟨#[98,123,49,51,125]⟩ t)=true:=by kernel_rfl
theorem cho19:pieceL.all (fun t=>choB ⟨#[40,97,91,120,60,52,93,124,99,41,42,98,91,120,62,53,93]⟩ t)=true:=by kernel_rfl
theorem piece_at:∀k,k<20→∃s,pieceC[k]? = some (.string s)∧s∈pieceL∧∀t∈pieceL,ChoT s t:=by
 intro k hk
 rcases (show k=0∨k=1∨k=2∨k=3∨k=4∨k=5∨k=6∨k=7∨k=8∨k=9∨k=10∨k=11∨k=12∨k=13∨k=14∨k=15∨k=16∨k=17∨k=18∨k=19 by omega) with rfl|rfl|rfl|rfl|rfl|rfl|rfl|rfl|rfl|rfl|rfl|rfl|rfl|rfl|rfl|rfl|rfl|rfl|rfl|rfl
 ·exact ⟨_,rfl,List.mem_of_getElem? (i:=0) rfl,fun t ht=>cho_of ((List.all_eq_true.1 cho0) t ht)⟩
 ·exact ⟨_,rfl,List.mem_of_getElem? (i:=1) rfl,fun t ht=>cho_of ((List.all_eq_true.1 cho1) t ht)⟩
 ·exact ⟨_,rfl,List.mem_of_getElem? (i:=2) rfl,fun t ht=>cho_of ((List.all_eq_true.1 cho2) t ht)⟩
 ·exact ⟨_,rfl,List.mem_of_getElem? (i:=3) rfl,fun t ht=>cho_of ((List.all_eq_true.1 cho3) t ht)⟩
 ·exact ⟨_,rfl,List.mem_of_getElem? (i:=4) rfl,fun t ht=>cho_of ((List.all_eq_true.1 cho4) t ht)⟩
 ·exact ⟨_,rfl,List.mem_of_getElem? (i:=5) rfl,fun t ht=>cho_of ((List.all_eq_true.1 cho5) t ht)⟩
 ·exact ⟨_,rfl,List.mem_of_getElem? (i:=6) rfl,fun t ht=>cho_of ((List.all_eq_true.1 cho6) t ht)⟩
 ·exact ⟨_,rfl,List.mem_of_getElem? (i:=7) rfl,fun t ht=>cho_of ((List.all_eq_true.1 cho7) t ht)⟩
 ·exact ⟨_,rfl,List.mem_of_getElem? (i:=8) rfl,fun t ht=>cho_of ((List.all_eq_true.1 cho8) t ht)⟩
 ·exact ⟨_,rfl,List.mem_of_getElem? (i:=9) rfl,fun t ht=>cho_of ((List.all_eq_true.1 cho9) t ht)⟩
 ·exact ⟨_,rfl,List.mem_of_getElem? (i:=10) rfl,fun t ht=>cho_of ((List.all_eq_true.1 cho10) t ht)⟩
 ·exact ⟨_,rfl,List.mem_of_getElem? (i:=11) rfl,fun t ht=>cho_of ((List.all_eq_true.1 cho11) t ht)⟩
 ·exact ⟨_,rfl,List.mem_of_getElem? (i:=12) rfl,fun t ht=>cho_of ((List.all_eq_true.1 cho12) t ht)⟩
 ·exact ⟨_,rfl,List.mem_of_getElem? (i:=13) rfl,fun t ht=>cho_of ((List.all_eq_true.1 cho13) t ht)⟩
 ·exact ⟨_,rfl,List.mem_of_getElem? (i:=14) rfl,fun t ht=>cho_of ((List.all_eq_true.1 cho14) t ht)⟩
 ·exact ⟨_,rfl,List.mem_of_getElem? (i:=15) rfl,fun t ht=>cho_of ((List.all_eq_true.1 cho15) t ht)⟩
 ·exact ⟨_,rfl,List.mem_of_getElem? (i:=16) rfl,fun t ht=>cho_of ((List.all_eq_true.1 cho16) t ht)⟩
 ·exact ⟨_,rfl,List.mem_of_getElem? (i:=17) rfl,fun t ht=>cho_of ((List.all_eq_true.1 cho17) t ht)⟩
 ·exact ⟨_,rfl,List.mem_of_getElem? (i:=18) rfl,fun t ht=>cho_of ((List.all_eq_true.1 cho18) t ht)⟩
 ·exact ⟨_,rfl,List.mem_of_getElem? (i:=19) rfl,fun t ht=>cho_of ((List.all_eq_true.1 cho19) t ht)⟩
theorem exec_eqM {o:Oper} {x y:Operand} {ty:TypeId} (ho:o.op=.binOp .eql 70 x y ty) {a:Act} {u t:Mt} (hx:a.eval x=.agg (mtC u).toArray) (hy:a.eval y=.agg (mtC t).toArray) (hu:MtOk u) (ht:MtOk t) (w:World) :
  (execOp a.eval o).run Tryz.prog w=.ok (.value (.bool (decide (u=t)))) w:=by
 unfold execOp
 have he:(eqGuard .eql 70 x y (.agg (mtC u).toArray) (.agg (mtC t).toArray)).run Tryz.prog w=.ok () w:=by
  simp [eqGuard,Tryz.egMt]
 have h2:(Op.equal 70 (.agg (mtC u).toArray) (.agg (mtC t).toArray)).run Tryz.prog w=.ok (decide (u=t)) w:=equal_mt hu ht w
 simp [ho,hx,hy,he,binOp,h2]
theorem hasM_any (p:Option Addr) (cap:Nat) (l:List Mt) (m:Mt) (w:World) (hp:MtsP w p l) (hm:l.length≤100000) (hok:∀x∈l,MtOk x) (hmo:MtOk m) (bb:Bool) (hbb:bb=decide (m∈l)) :
  Calls Tryz.prog 61 #[.slice p l.length cap,.agg #[.int .i64 m.first,.int .i64 m.last,.int .i64 m.h0,.int .i64 m.h1,.int .i64 m.h2,.int .i64 m.h3]] w fun e w'=>e=.returned (.bool bb)∧Nw w w':=by
 have HB:Hid (Bx (w.alloc (.cells #[.int .i64 m.first,.int .i64 m.last,.int .i64 m.h0,.int .i64 m.h1,.int .i64 m.h2,.int .i64 m.h3] 70)) w.heap.size (mtC m)):=Bx.new w (mtC m) 70
 have HK0:Hid (Nw w (w.alloc (.cells #[.int .i64 m.first,.int .i64 m.last,.int .i64 m.h0,.int .i64 m.h1,.int .i64 m.h2,.int .i64 m.h3] 70))):=(Kp.refl _ _).alloc _
 have HP:Hid (MtsP w p l):=hp
 have HOK:Hid (∀x∈l,MtOk x):=hok
 have HMO:Hid (MtOk m):=hmo
 have HBB:Hid (bb=decide (m∈l)):=hbb
 obtain ⟨dd,hu,hd⟩:=Option.map_eq_some_iff.1 Tryz.rowMt'
 clear hp hok hmo hbb
 go_enter Tryz.func61,Tryz.ntmps61
 go_wp2
 generalize hwz:w.alloc (.cells #[.int .i64 m.first,.int .i64 m.last,.int .i64 m.h0,.int .i64 m.h1,.int .i64 m.h2,.int .i64 m.h3] 70)=wz at *
 have HWZ:Hid (_=wz):=hwz
 clear hwz
 go_loopg [5] l.length (fun k v5 wr=>∃i:Nat,v5=.int .i64 i∧k=l.length - i∧i≤l.length∧(∀j,j<i→¬l[j]? = some m)∧Nw wz wr)
 case atStart=>exact ⟨0,rfl,rfl,by omega,fun j hj=>by omega,Kp.refl _ _⟩
 case round =>
  obtain ⟨i,rfl,hmm,hi,hno,hN⟩:=hrel
  have HMM:Hid (_=l.length - i):=hmm
  have HN:Hid (Nw wz wr):=hN
  have HNO:Hid (∀j,j<i→¬l[j]? = some m):=hno
  clear hmm hno hN
  by_cases hi':i<l.length
  ·obtain ⟨x,hx⟩:∃x,l[i]? = some x:=⟨l[i],by simp [hi']⟩
   have hne:¬l=[]:=by intro e;rw [e] at hx;simp at hx
   obtain ⟨g,rfl,hgl,hcr⟩:=HP.out hne
   have HR:Hid (∀W,Nw wr W→W.rangeAt g (i*6) (mtC x)):=fun W k j v hv=>(((HK0.out.trans HN.out).trans k).cell (p:=⟨g,i*6+j,none⟩) hgl (fun h=>h)).trans (hcr i x hx j v hv)
   have HRB:Hid (∀W,Nw wr W→W.rangeAt w.heap.size 0 (mtC m)):=fun W k=>(HB.out.kp (by simp [mtC]) (HN.out.trans k) (fun h=>h)).r
   have HXO:Hid (MtOk x):=HOK.out x (List.mem_of_getElem? hx)
   have HX:Hid (l[i]? = some x):=hx
   have hii:(i:Int)<l.length:=by omega
   clear hcr hx hne hgl
   go_wp2
   refine wp_region_held_drew (S:=fun W=>Nw wr W) (by kernel_rfl) ((Kp.refl _ _).drew) (fun hHeld => ?_)
   refine tL (i:=0) (v := ?_) rfl (Or.inl ⟨by rfl,fun W hSW => ?y0⟩) hHeld ?_
   case y0=>(try dsimp only at hSW);go_simp;rw []
   simp only [Act.put,sA,sZ,sS]
   refine tL (i:=1) (v := ?_) rfl (Or.inl ⟨by rfl,fun W hSW => ?y1⟩) hHeld ?_
   case y1=>(try dsimp only at hSW);go_simp;rw []
   simp only [Act.put,sA,sZ,sS]
   refine tL (i:=2) (v := ?_) rfl (Or.inl ⟨by rfl,fun W hSW => ?y2⟩) hHeld ?_
   case y2=>(try dsimp only at hSW);go_simp;rw []
   simp only [Act.put,sA,sZ,sS]
   refine tL (i:=3) (v:=_) rfl (yieldsIf_load_mid (by rfl) 70 _ rfl g (i*6) rfl (mtC x) dd HR.out hu hd (size_mt x)) hHeld ?_
   simp only [Act.put,sA,sZ,sS]
   refine tL (i:=4) (v:=_) rfl (yieldsIf_load_mid (by rfl) 70 _ rfl w.heap.size (0) rfl (mtC m) dd HRB.out hu hd (size_mt m)) hHeld ?_
   simp only [Act.put,sA,sZ,sS]
   refine takeL (i:=5) (v:=.bool (decide (x=m))) rfl (by kernel_rfl) (by kernel_rfl) (by kernel_rfl) (fun _ _ _ h=>h) (Or.inl ⟨by rfl,fun W hSW=>exec_eqM rfl rfl rfl HXO.out HMO.out W⟩) hHeld ?_
   simp only [Act.put,sA,sZ,sS]
   refine wpAnyH_done (by kernel_rfl) ?_ _
   have kw2:Hid (Nw wz wr.drew):=HN.out.drew
   by_cases hxm:x=m
   ·have hbt:bb=true:=by rw [HBB.out,decide_eq_true_eq,←hxm];exact List.mem_of_getElem? HX.out
    have hdx:decide (x=m)=true:=by simpa using hxm
    rw [hdx]
    subst hbt
    go_wp2
    go_ret
    exact ⟨rfl,HK0.out.trans kw2.out⟩
   ·have hdx:decide (x=m)=false:=by simpa using hxm
    rw [hdx]
    have HXM:Hid (¬x=m):=hxm
    clear hxm hdx
    go_wp2
    go_roundg (l.length - (i+1))
    case measure=>rw [HMM.out];omega
    case rel =>
     refine ⟨i+1,by simp,rfl,by omega,?_,kw2.out⟩
     intro j hj
     by_cases e:j=i
     ·subst e;rw [HX.out];intro h;cases h;exact HXM.out rfl
     ·exact HNO.out j (by omega)
  ·have hii:¬(i:Int)<l.length:=by omega
   have hbf:bb=false:=by
    rw [HBB.out,decide_eq_false_iff_not]
    intro hmem
    obtain ⟨j,hj⟩:=List.mem_iff_getElem?.1 hmem
    exact HNO.out j (by have:=(List.getElem?_eq_some_iff.1 hj).1;omega) hj
   subst hbf
   go_wp2
   go_ret
   exact ⟨rfl,HK0.out.trans HN.out⟩
end Go.Proofs.YtcboiapggnmpfaaGreat
