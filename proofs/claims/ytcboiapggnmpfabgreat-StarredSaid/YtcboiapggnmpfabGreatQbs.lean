import Derived.Test.YtcboiapggnmpfabGreatQbr
import Derived.Test.YtcboiapggnmpfabGreatQav
import Derived.Deep.QuietTactic
import Derived.BigQuiet
namespace Go.Proofs.YtcboiapggnmpfabGreat
set_option maxRecDepth 100000
set_option maxHeartbeats 4000000
set_option linter.unusedSimpArgs false
set_option linter.unusedVariables false
open Go.RowKit
def tvOf:List (Tst×Bool)→Tst→Bool
 | [],_=>false
 | q::r,x=>if q.1=x then q.2 else tvOf r x
def allV:List Tst→List (List (Tst×Bool))
 | []=>[[]]
 | x::r=>(allV r).flatMap fun v=>[(x,true)::v,(x,false)::v]
theorem allV_mem (g:Tst→Bool):∀Ts:List Tst,(Ts.map fun x=>(x,g x))∈allV Ts:=by
 intro Ts
 induction Ts with
 | nil=>simp [allV]
 | cons x r ih =>
  unfold allV
  refine List.mem_flatMap.2 ⟨_,ih,?_⟩
  cases h:g x <;> simp [h]
theorem tvOf_map (g:Tst→Bool):∀(Ts:List Tst) (x:Tst),x∈Ts→tvOf (Ts.map fun x=>(x,g x)) x=g x:=by
 intro Ts
 induction Ts with
 | nil=>intro x h;simp at h
 | cons y r ih =>
  intro x h
  simp only [List.map_cons,tvOf]
  split
  ·rename_i e;rw [e]
  ·rename_i e
   rcases List.mem_cons.1 h with h|h
   ·exact absurd h.symm e
   ·exact ih x h
def testsB (Ts:List Tst) (code:List In):Bool:=code.all fun x => !decide (x.op=2)||Ts.contains x.test
theorem tests_in {Ts:List Tst} {code:List In} (h:testsB Ts code=true) {k:Nat} {x:In} (hx:code[k]? = some x) (h2:x.op=2):x.test∈Ts:=by
 have:=(List.all_eq_true.1 h) x (List.mem_of_getElem? hx)
 simp only [h2,Bool.or_eq_true,Bool.not_eq_true',decide_eq_false_iff_not,List.contains_iff_mem] at this
 rcases this with h|h
 ·exact absurd trivial h
 ·exact h
theorem cl_congr {code:List In} {tv tv':Tst→Bool} (h:∀(k:Nat) x,code[k]? = some x→x.op=2→tv x.test=tv' x.test) {p a:Int} (hc:Cl code tv p a):Cl code tv' p a:=by
 induction hc with
 | zero=>exact .zero
 | next h1 h2 h3 ih =>
  refine .next ih h2 ?_
  unfold nxP at h3 ⊢
  split at h3
  ·rename_i ho
   rw [if_pos ho,←h _ _ h2 ho];exact h3
  ·rename_i ho
   rw [if_neg ho];exact h3
theorem TabIs.congr {code:List In} {tv tv':Tst→Bool} {k:Int} {tab:Tab} (ht:TabIs code tv k tab) (h:∀(k:Nat) x,code[k]? = some x→x.op=2→tv x.test=tv' x.test):TabIs code tv' k tab:=by
 have hi:∀p a,Cl code tv p a↔Cl code tv' p a:=fun p a=>⟨cl_congr h,cl_congr (fun k x hx ho=>(h k x hx ho).symm)⟩
 refine ⟨fun q hq => ?_,ht.c⟩
 obtain ⟨x,h1,h2,h3,h4,h5⟩:=ht.s q hq
 refine ⟨x,h1,h2,h3,fun a => ?_,?_⟩
 ·rw [h4,hi]
 ·rw [h5]
  constructor
  ·rintro ⟨a,y,c1,c2⟩;exact ⟨a,y,(hi _ _).1 c1,c2⟩
  ·rintro ⟨a,y,c1,c2⟩;exact ⟨a,y,(hi _ _).2 c1,c2⟩
theorem cl_nn {code:List In} (hI:Inb code) {tv:Tst→Bool} {p:Int} (h0:0≤p) {b:Int} (hb:Cl code tv p b):0≤b:=by
 induction hb with
 | zero=>omega
 | next h1 h2 h3 ih =>
  rename_i a x b
  obtain ⟨i1,i2,i3⟩:=hI _ x h2
  unfold nxP at h3
  split at h3
  ·split at h3
   ·simp at h3;omega
   ·simp at h3
  split at h3
  ·rename_i ho4
   simp at h3;subst h3;exact (i2 (Or.inl ho4)).1
  split at h3
  ·rename_i ho5
   simp at h3
   rcases h3 with rfl|rfl
   ·exact (i2 (Or.inr ho5)).1
   ·exact (i3 ho5).1
  ·simp at h3
def letters (codes:List (List In)) (Ts:List Tst):List (List Tab):=[0,1,2].flatMap fun k=>(allV Ts).map fun v=>codes.map fun c=>tabOf c (tvOf v) k
def ltr (codes:List (List In)) (Ts:List Tst) (e:Evt):List Tab:=codes.map fun c=>tabOf c (tvOf (Ts.map fun x=>(x,soE e x))) e.kind
def Knd (e:Evt):Prop:=e.kind=0∨e.kind=1∨e.kind=2
theorem ltr_mem {codes:List (List In)} {Ts:List Tst} {e:Evt} (h:Knd e):ltr codes Ts e∈letters codes Ts:=by
 unfold letters ltr
 refine List.mem_flatMap.2 ⟨e.kind,?_,List.mem_map.2 ⟨_,allV_mem (soE e) Ts,rfl⟩⟩
 rcases h with h|h|h <;> simp [h]
def stepV (tb:List Tab) (s:List Nat):List (Nat×Bool):=List.zipWith mstep tb s
def wordV (codes:List (List In)) (Ts:List Tst) (es:List Evt) (s:List Nat):List Nat:=es.foldl (fun s e=>(stepV (ltr codes Ts e) s).map Prod.fst) s
def dedV:List (List Nat)→List (List Nat)
 | []=>[]
 | x::r=>if (dedV r).contains x=true then dedV r else x::dedV r
theorem dedV_mem:∀(l:List (List Nat)) (x:List Nat),x∈l→x∈dedV l:=by
 intro l
 induction l with
 | nil=>intro x h;exact h
 | cons y r ih =>
  intro x h
  unfold dedV
  split
  ·rename_i hc
   rcases List.mem_cons.1 h with h|h
   ·subst h;exact List.contains_iff_mem.1 hc
   ·exact ih x h
  ·rcases List.mem_cons.1 h with h|h
   ·subst h;exact List.mem_cons_self
   ·exact List.mem_cons_of_mem _ (ih x h)
def chkD (ok:List Bool→Bool) (tabs:List (List Tab)):Nat→List (List Nat)→Bool
 | 0,_=>true
 | d+1,sts=>(sts.all fun s=>tabs.all fun tb=>ok ((stepV tb s).map Prod.snd))&&chkD ok tabs d (dedV (sts.flatMap fun s=>tabs.map fun tb=>(stepV tb s).map Prod.fst))
theorem chk_sound {codes:List (List In)} {Ts:List Tst} {ok:List Bool→Bool}:∀(es:List Evt) (d:Nat) (sts:List (List Nat)) (s:List Nat) (e:Evt),chkD ok (letters codes Ts) d sts=true→s∈sts→es.length<d→(∀x∈es,Knd x)→Knd e→ok ((stepV (ltr codes Ts e) (wordV codes Ts es s)).map Prod.snd)=true:=by
 intro es
 induction es with
 | nil =>
  intro d sts s e h hs hd _ he
  obtain ⟨d,rfl⟩:∃k,d=k+1:=⟨d - 1,by simp at hd;omega⟩
  unfold chkD at h
  simp only [Bool.and_eq_true,List.all_eq_true] at h
  exact h.1 s hs _ (ltr_mem he)
 | cons x r ih =>
  intro d sts s e h hs hd hk he
  obtain ⟨d,rfl⟩:∃k,d=k+1:=⟨d - 1,by simp at hd;omega⟩
  unfold chkD at h
  simp only [Bool.and_eq_true] at h
  refine ih d _ ((stepV (ltr codes Ts x) s).map Prod.fst) e h.2 (dedV_mem _ _ ?_) (by simpa using hd) (fun y hy=>hk y (List.mem_cons_of_mem _ hy)) he
  exact List.mem_flatMap.2 ⟨s,hs,List.mem_map.2 ⟨_,ltr_mem (hk x List.mem_cons_self),rfl⟩⟩
def maskOf (bs:List Nat):Nat:=bs.foldr (fun b m=>2 ^ b ||| m) 0
theorem maskOf_bit:∀(bs:List Nat) (p:Nat),(maskOf bs).testBit p=true↔p∈bs:=by
 intro bs
 induction bs with
 | nil=>intro p;simp [maskOf]
 | cons b r ih =>
  intro p
  show (2 ^ b ||| maskOf r).testBit p=true↔_
  rw [Nat.testBit_or,Bool.or_eq_true,ih,Nat.testBit_two_pow,List.mem_cons,decide_eq_true_eq]
  exact ⟨fun h=>h.imp Eq.symm id,fun h=>h.imp Eq.symm id⟩
structure CodeK (Ts:List Tst) (c:List In) (bs:List Nat):Prop where
 i:Inb c
 p:plainB c=true
 t:testsB Ts c=true
 v:∀v∈allV Ts,tabOkB c (tvOf v)=true
 b:∀b∈bs,∃x,c[b]? = some x∧x.op=0
theorem CodeK.tab {Ts:List Tst} {c:List In} {bs:List Nat} (h:CodeK Ts c bs) (e:Evt):TabIs c (soE e) e.kind (tabOf c (tvOf (Ts.map fun x=>(x,soE e x))) e.kind) :=
 (tabOf_is h.i (h.v _ (allV_mem (soE e) Ts)) e.kind).congr (fun k x hx ho=>tvOf_map (soE e) Ts _ (tests_in h.t hx ho))
theorem bg_ok {Ts:List Tst} {c:List In} {bs:List Nat} (h:CodeK Ts c bs) {L:List Evt} {f:Nat}:∀(i:Nat) (p:Int),Bg c bs L f i p→0≤p∧∃x,c[p.toNat]? = some x∧x.op=0:=by
 intro i
 induction i with
 | zero =>
  rintro p (⟨_,b,hb,rfl⟩ | hp)
  ·obtain ⟨x,hx,ho⟩:=h.b b hb
   exact ⟨by omega,x,by simpa using hx,ho⟩
  ·exact hp.elim
 | succ i ih =>
  rintro p (⟨_,b,hb,rfl⟩ | hp)
  ·obtain ⟨x,hx,ho⟩:=h.b b hb
   exact ⟨by omega,x,by simpa using hx,ho⟩
  ·obtain ⟨e,he,q,x,hq,hx,hk,hc,y,hy,ho⟩:=hp
   exact ⟨cl_nn h.i (ih q hq).1 hc,y,hy,ho⟩
theorem drop_take_snoc {α:Type} {L:List α} {f j:Nat} {e:α} (h:L[f+j]? = some e):(L.drop f).take (j+1)=(L.drop f).take j++[e]:=by
 rw [List.take_add_one,List.getElem?_drop,h];rfl
theorem word_is {codes:List (List In)} {bss:List (List Nat)} {Ts:List Tst} (hlen:bss.length=codes.length) (hK:∀(n:Nat) (c:List In) (bs:List Nat),codes[n]? = some c→bss[n]? = some bs→CodeK Ts c bs) {L:List Evt} {f:Nat} :
  ∀(j:Nat),f+j≤L.length→∀(n:Nat) (c:List In) (bs:List Nat),codes[n]? = some c→bss[n]? = some bs→∃S:Nat,(wordV codes Ts ((L.drop f).take j) (bss.map maskOf))[n]? = some S∧∀p:Nat,S.testBit p=true↔Bg c bs L f (f+j) p:=by
 intro j
 induction j with
 | zero =>
  intro _ n c bs hc hb
  refine ⟨maskOf bs,?_,?_⟩
  ·simp [wordV,hb]
  ·intro p
   rw [maskOf_bit]
   constructor
   ·intro h
    exact Or.inl ⟨rfl,p,h,rfl⟩
   ·rintro (⟨_,b,h,e⟩ | h)
    ·have:p=b:=by omega
     subst this;exact h
    ·exact absurd h (pl_none _ (by omega) _)
 | succ j ih =>
  intro hj n c bs hc hb
  obtain ⟨e,he⟩:∃e,L[f+j]? = some e:=⟨L[f+j],by simp [show f+j<L.length by omega]⟩
  obtain ⟨S,hS,hb2⟩:=ih (by omega) n c bs hc hb
  have hk:=hK n c bs hc hb
  obtain ⟨m1,_⟩:=mstep_is hk.i (hk.tab e) hb2 (bg_ok hk _)
  refine ⟨(mstep (tabOf c (tvOf (Ts.map fun x=>(x,soE e x))) e.kind) S).1,?_,?_⟩
  ·rw [drop_take_snoc he]
   have ew:wordV codes Ts ((L.drop f).take j++[e]) (bss.map maskOf)=(stepV (ltr codes Ts e) (wordV codes Ts ((L.drop f).take j) (bss.map maskOf))).map Prod.fst:=by
    unfold wordV
    rw [List.foldl_append]
    rfl
   rw [ew]
   simp only [stepV,List.getElem?_map,List.getElem?_zipWith,hS,ltr,hc,Option.map_some]
  ·intro p
   rw [m1]
   constructor
   ·intro h
    exact Or.inr ⟨e,he,h⟩
   ·rintro (⟨h,_⟩ | ⟨e',he',h⟩)
    ·omega
    ·have:some e=some e':=he.symm.trans he'
     cases this
     exact h
theorem chk_mean {codes:List (List In)} {bss:List (List Nat)} {Ts:List Tst} (hlen:bss.length=codes.length) (hK:∀(n:Nat) (c:List In) (bs:List Nat),codes[n]? = some c→bss[n]? = some bs→CodeK Ts c bs) {ok:List Bool→Bool} {d:Nat} (hchk:chkD ok (letters codes Ts) d [bss.map maskOf]=true)
  {L:List Evt} (hkd:∀x∈L,Knd x) (hL:L.length≤d) {f i:Nat} (hfi:f≤i) {e:Evt} (he:L[i]? = some e) :
  ∃asL:List Bool,ok asL=true∧∀(n:Nat) (c:List In) (bs:List Nat),codes[n]? = some c→bss[n]? = some bs→∃a:Bool,asL[n]? = some a∧(a=true↔Ac c e (Bg c bs L f i)):=by
 have hil:=(List.getElem?_eq_some_iff.1 he).1
 refine ⟨_,chk_sound ((L.drop f).take (i - f)) d [bss.map maskOf] (bss.map maskOf) e hchk List.mem_cons_self ?_ ?_ (hkd e (List.mem_of_getElem? he)),?_⟩
 ·rw [List.length_take];omega
 ·intro x hx
  exact hkd x (List.mem_of_mem_drop (List.mem_of_mem_take hx))
 ·intro n c bs hc hb
  obtain ⟨S,hS,hb2⟩:=word_is hlen hK (L:=L) (f:=f) (i - f) (by omega) n c bs hc hb
  rw [show f+(i - f)=i by omega] at hb2
  have hk:=hK n c bs hc hb
  obtain ⟨_,m2⟩:=mstep_is hk.i (hk.tab e) hb2 (bg_ok hk _)
  refine ⟨_,?_,m2⟩
  simp only [stepV,List.getElem?_map,List.getElem?_zipWith,hS,ltr,hc,Option.map_some]
theorem bg_late {code:List In} {bs:List Nat} {L:List Evt} {f i:Nat} (h:i<f) (p:Int):¬Bg code bs L f i p:=by
 rintro (⟨e,_⟩ | hp)
 ·omega
 ·exact pl_none i (by omega) p hp
def eqsB:List Bool→Bool
 | []=>true
 | a::r=>r.all fun b=>b == a
theorem chk_eq {codes:List (List In)} {bss:List (List Nat)} {Ts:List Tst} (hlen:bss.length=codes.length) (hK:∀(n:Nat) (c:List In) (bs:List Nat),codes[n]? = some c→bss[n]? = some bs→CodeK Ts c bs) {d:Nat} (hchk:chkD eqsB (letters codes Ts) d [bss.map maskOf]=true)
  {L:List Evt} (hkd:∀x∈L,Knd x) (hL:L.length≤d) {i:Nat} {e:Evt} (he:L[i]? = some e) {n:Nat} {c c0:List In} {bs b0:List Nat} (hc:codes[n]? = some c) (hb:bss[n]? = some bs) (hc0:codes[0]? = some c0) (hb0:bss[0]? = some b0) (u:Thr):Et c bs L i u↔Et c0 b0 L i u:=by
 rw [et_plain (hK n c bs hc hb).p he,et_plain (hK 0 c0 b0 hc0 hb0).p he]
 have key:∀f,f≤i→(Ac c e (Bg c bs L f i)↔Ac c0 e (Bg c0 b0 L f i)):=by
  intro f hf
  obtain ⟨asL,h1,h2⟩:=chk_mean hlen hK hchk hkd hL hf he
  obtain ⟨a,ha,ia⟩:=h2 n c bs hc hb
  obtain ⟨a0,ha0,ia0⟩:=h2 0 c0 b0 hc0 hb0
  rw [←ia,←ia0]
  have:a=a0:=by
   cases asL with
   | nil=>simp at ha
   | cons z r =>
    simp at ha0
    subst ha0
    cases n with
    | zero=>simp at ha;exact ha.symm
    | succ n =>
     simp at ha
     have:=(List.all_eq_true.1 h1) a (List.mem_of_getElem? ha)
     exact beq_iff_eq.1 this
  rw [this]
 constructor
 ·rintro ⟨f,ef,h1,h2,h3⟩
  by_cases hf:f≤i
  ·exact ⟨f,ef,h1,(key f hf).1 h2,h3⟩
  ·obtain ⟨p,x,hp,_⟩:=h2
   exact absurd hp (bg_late (by omega) p)
 ·rintro ⟨f,ef,h1,h2,h3⟩
  by_cases hf:f≤i
  ·exact ⟨f,ef,h1,(key f hf).2 h2,h3⟩
  ·obtain ⟨p,x,hp,_⟩:=h2
   exact absurd hp (bg_late (by omega) p)
theorem addChain_any (R s:Nat) (tv cv:Value) (S:List Nat) (l:List In) (w:World) (h:CwM w R tv cv S l) (hs:s<2 ^ 25) (hS:S.length≤10000) (hN:l.length+S.length≤100000) :
  Calls Tryz.prog 52 #[.pointer (some ⟨R,0,none⟩),.int .i64 s] w fun e w' =>
   e=.returned (.tuple #[])∧∃cv',CwM w' R tv cv' S (l++chainS s S 0 (countS s) l.length)∧Kp (fun b=>R≤b) w w':=by
 have HH:Hid (∀p W,p≤100000→Calls Tryz.prog 84 #[.int .i64 s,.int .i64 (p:Nat)] W fun e w'=>e=.returned (.bool (hasS s p))∧w'=W):=fun p W hp=>hasS_any s p W hs hp
 have H:Hid (CwM w R tv cv S l):=h
 have hcl:countS s≤25:=cntS_le s 25
 have hcnt:=countS_any s w hs
 obtain ⟨tp,tc,rfl⟩:=ownsLenX h.so
 clear h
 generalize hL0:countS s=L0 at *
 go_enter Tryz.func52,Tryz.ntmps52
 go_wp2_with fail
 refine hcnt.mono ?_
 rintro e w0 ⟨rfl,hw0⟩
 have hw0':=hw0.symm
 subst hw0'
 clear hw0 hcnt
 go_wp2
 go_loopg [4,5] S.length (fun m v4 v5 wr=>∃(i:Nat) (left:Int) (cv':Value) (l':List In),v4=.int .i64 left∧v5=.int .i64 i∧m=S.length - i∧i≤S.length∧left≤25 ∧ -(i:Int)≤left∧l'.length≤l.length+i∧CwM wr R (.slice tp S.length tc) cv' S l'∧l'++chainS s (S.drop i) i left l'.length=l++chainS s S 0 L0 l.length∧Kp (fun b=>R≤b) w wr)
 case atStart=>exact ⟨0,L0,cv,l,rfl,rfl,rfl,by omega,by omega,by omega,by omega,H.out,rfl,Kp.refl _ _⟩
 case round =>
  obtain ⟨i,left,cv',l',rfl,rfl,hm,hi,hl1,hl2,hl3,hw,he,hk⟩:=hrel
  have HM:Hid (_=S.length - i):=hm
  have HW:Hid (CwM wr R (.slice tp S.length tc) cv' S l'):=hw
  have HK:Hid (Kp (fun b=>R≤b) w wr):=hk
  have HE:Hid (l'++chainS s (S.drop i) i left l'.length=l++chainS s S 0 L0 l.length):=he
  have c0:=hw.c0
  have hltR:=hw.lt
  clear hm hw hk he
  by_cases hil:i<S.length
  ·obtain ⟨x,hx⟩:∃x,S[i]? = some x:=⟨_,List.getElem?_eq_getElem hil⟩
   have HX:Hid (S[i]? = some x):=hx
   have HDR:Hid (S.drop i=x::S.drop (i+1)):=by
    obtain ⟨h1,h2⟩:=List.getElem?_eq_some_iff.1 hx
    show S.drop i=_
    rw [List.drop_eq_getElem_cons h1,h2]
   clear hx
   obtain ⟨g,c,hvg⟩:=owns_some HW.out.so (by omega)
   simp only [Value.slice.injEq] at hvg
   obtain ⟨rfl,_,rfl⟩:=hvg
   have cx:wr.cell? ⟨g,i,none⟩=some (.int .i64 x):=owns_cell HW.out.so i (intsV_get HX.out)
   have hgR:g<R:=HW.out.sb g rfl
   have hgl:g<wr.heap.size:=by omega
   go_wp2_with fail
   refine (HH.out i _ (by omega)).mono ?_
   rintro e w1 ⟨rfl,hw1⟩
   have hw2:=hw1.symm
   subst hw2
   clear hw1
   by_cases hb:hasS s i=true
   ·have HE2:Hid (l'++((if left - 1>0 then splitI x (l'.length+1) else jumpI x)::chainS s (S.drop (i+1)) (i+1) (left - 1) (l'.length+1))=l++chainS s S 0 L0 l.length):=by
     have:=HE.out
     rw [HDR.out] at this
     simp only [chainS,hb,if_true] at this
     exact this
    clear HE HDR
    rw [hb]
    obtain ⟨cp,cc,hcv⟩:=ownsLenX HW.out.co
    subst hcv
    have c1:=HW.out.c1
    by_cases hz:left - 1>0
    ·rw [if_pos hz] at HE2
     go_wp2
     go_region
     all_goals
      go_wp2_with fail
      refine (add_any R _ _ S l' (splitI x (l'.length+1)) _ (HW.out.nw (((Kp.refl _ wr).alloc _).drew)) (by omega)).mono ?_
      rintro e w1 ⟨rfl,cv2,hC,hk1⟩
      have HC:Hid (CwM w1 R (.slice (some ⟨g,0,none⟩) S.length tc) cv2 S (l'++[splitI x (l'.length+1)])):=hC
      have HK1:Hid (Kp (fun b=>R≤b) wr w1):=((((Kp.refl (fun _=>False) wr).alloc _).drew).mono (fun _ _ h=>h.elim)).trans hk1
      clear hC hk1
      go_wp2
      go_roundg (S.length - (i+1))
      case measure=>rw [HM.out];omega
      case rel=>exact ⟨i+1,left - 1,cv2,l'++[splitI x (l'.length+1)],by simp,by simp,rfl,by omega,by omega,by omega,by simp;omega,HC.out,by have:=HE2.out;simpa [List.append_assoc] using this,HK.out.trans HK1.out⟩
    ·rw [if_neg hz] at HE2
     go_wp2_with fail
     refine (add_any R _ _ S l' (jumpI x) _ (HW.out.nw ((Kp.refl _ wr).alloc _)) (by omega)).mono ?_
     rintro e w1 ⟨rfl,cv2,hC,hk1⟩
     have HC:Hid (CwM w1 R (.slice (some ⟨g,0,none⟩) S.length tc) cv2 S (l'++[jumpI x])):=hC
     have HK1:Hid (Kp (fun b=>R≤b) wr w1):=(((Kp.refl (fun _=>False) wr).alloc _).mono (fun _ _ h=>h.elim)).trans hk1
     clear hC hk1
     go_wp2
     go_roundg (S.length - (i+1))
     case measure=>rw [HM.out];omega
     case rel=>exact ⟨i+1,left - 1,cv2,l'++[jumpI x],by simp,by simp,rfl,by omega,by omega,by omega,by simp;omega,HC.out,by have:=HE2.out;simpa [List.append_assoc] using this,HK.out.trans HK1.out⟩
   ·have hb':hasS s i=false:=by simpa using hb
    have HE2:Hid (l'++chainS s (S.drop (i+1)) (i+1) left l'.length=l++chainS s S 0 L0 l.length):=by
     have:=HE.out
     rw [HDR.out] at this
     simp only [chainS,hb'] at this
     exact this
    clear HE HDR
    rw [hb']
    go_wp2
    go_roundg (S.length - (i+1))
    case measure=>rw [HM.out];omega
    case rel=>exact ⟨i+1,left,cv',l',rfl,by simp,rfl,by omega,by omega,by omega,by omega,HW.out,HE2.out,HK.out⟩
  ·have hie:i=S.length:=by omega
   subst hie
   have HF:Hid (l'=l++chainS s S 0 L0 l.length):=by
    have:=HE.out
    rw [List.drop_length] at this
    show l'=_
    simpa [chainS] using this
   go_wp2
   go_end0
   exact ⟨rfl,cv',HF.out ▸ HW.out,HK.out⟩
structure Hds (w:World) (B:Nat) (hv:Value) (hs:List (Value×List In)):Prop where
 row:w.ownsRow B 53 1 hv hs.length (hs.map (·.1))
 each:∀x∈hs,w.ownsRow B 62 14 x.1 x.2.length (codeC x.2)
theorem Hds.kp {S:Nat→Prop} {w w':World} {B:Nat} {hv:Value} {hs:List (Value×List In)} (h:Hds w B hv hs) (k:Kp S w w') (hS:∀b,B≤b→b<w.heap.size→¬S b):Hds w' B hv hs :=
 ⟨owns_kp h.row k (fun b hb=>hS b (h.row.lt b hb).1 (h.row.lt b hb).2),fun x hx=>owns_kp (h.each x hx) k (fun b hb=>hS b ((h.each x hx).lt b hb).1 ((h.each x hx).lt b hb).2)⟩
def startsS:List Nat→List Nat→Nat→List Nat
 | h::hr,f::fr,a=>a::startsS hr fr (a+(h+countS f))
 | _,_,a=>[a]
theorem startsS_len:∀(H F:List Nat) (a:Nat),H.length=F.length→(startsS H F a).length=F.length+1:=by
 intro H
 induction H with
 | nil=>intro F a h;cases F with
  | nil=>rfl
  | cons f r=>simp at h
 | cons x r ih=>intro F a h;cases F with
  | nil=>simp at h
  | cons f fr=>simp only [startsS,List.length_cons];rw [ih fr _ (by simpa using h)]
theorem startsOf_any (first:Nat) (sv fv hv:Value) (F:List Nat) (hs:List (Value×List In)) (w:World) (hf:first<2 ^ 25) (hF:Sets F) (ho:w.ownsRow 0 114 1 fv F.length (intsV F)) (hh:Hds w 0 hv hs) (hn:hs.length=F.length) (hb:F.length≤10000) (hl:∀x∈hs,x.2.length≤1000) :
  Calls Tryz.prog 51 #[.agg #[sv,.int .i64 first,fv],hv] w fun e w' =>
   ∃v,e=.returned v∧w'.ownsRow (w.heap.size+1) 3 1 v (F.length+1) (intsV (startsS (hs.map (fun x=>x.2.length)) F (countS first)))∧Nw w w':=by
 have HCT:Hid (∀s W,s<2 ^ 25→Calls Tryz.prog 83 #[.int .i64 (s:Nat)] W fun e w'=>e=.returned (.int .i64 (countS s:Nat))∧w'=W):=fun s W hs=>countS_any s W hs
 have HCL:Hid (∀s,countS s≤25):=fun s=>cntS_le s 25
 obtain ⟨hp,hc,rfl⟩:=ownsLenX hh.row
 obtain ⟨fp,fc,rfl⟩:=ownsLenX ho
 rw [hn]
 have HO:Hid (w.ownsRow 0 114 1 (.slice fp F.length fc) F.length (intsV F)):=ho
 have HH:Hid (w.ownsRow 0 53 1 (.slice hp F.length hc) F.length (hs.map (·.1))):=by have:=hh.row;rw [hn] at this;exact this
 have HE:Hid (∀x∈hs,w.ownsRow 0 62 14 x.1 x.2.length (codeC x.2)):=hh.each
 have HN:Hid (hs.length=F.length):=hn
 have HF:Hid (Sets F):=hF
 have HL:Hid (∀x∈hs,x.2.length≤1000):=hl
 obtain ⟨i1,hi1,hy0,hy1,hy2⟩:=info_parts Tryz.info3
 clear ho hh hn hF hl
 go_enter Tryz.func51,Tryz.ntmps51
 go_wp2_with fail
 refine (HCT.out first _ hf).mono ?_
 rintro e w1 ⟨rfl,hw1⟩
 have hw2:=hw1.symm
 subst hw2
 clear hw1
 go_wp2
 have HB:Hid ((w.alloc (.cells #[sv,.int .i64 first,.slice fp F.length fc] 117)).cell? ⟨w.heap.size,2,none⟩=some (.slice fp F.length fc)):=by show _=_;simp [go_sem,World.cell?_alloc_at]
 have HW0:Hid (Nw w (w.alloc (.cells #[sv,.int .i64 first,.slice fp F.length fc] 117))):=(Kp.refl _ w).alloc _
 have HS0:Hid ((w.alloc (.cells #[sv,.int .i64 first,.slice fp F.length fc] 117)).heap.size=w.heap.size+1):=by show _=_;simp
 generalize w.alloc (.cells #[sv,.int .i64 first,.slice fp F.length fc] 117)=W0 at *
 have hc0:=HCL.out first
 go_loopg [5,6,7] F.length (fun m v5 v6 v7 wr=>∃(i a:Nat) (S':List Nat),v6=.int .i64 a∧v7=.int .i64 i∧m=F.length - i∧i≤F.length∧a≤25+i*1025∧S'.length=i∧wr.ownsRow (w.heap.size+1) 3 1 v5 i (intsV S')∧S'++startsS ((hs.drop i).map (fun x=>x.2.length)) (F.drop i) a=startsS (hs.map (fun x=>x.2.length)) F (countS first)∧Nw W0 wr)
 case atStart=>exact ⟨0,countS first,[],rfl,rfl,rfl,by omega,by omega,rfl,World.ownsRow_nil _ _ _ _,rfl,Kp.refl _ _⟩
 case round =>
  obtain ⟨i,a,S',rfl,rfl,hm,hi,ha,hSl,hw,he,hk⟩:=hrel
  have HM:Hid (_=F.length - i):=hm
  have HW:Hid (wr.ownsRow (w.heap.size+1) 3 1 u5 i (intsV S')):=hw
  have HK:Hid (Nw W0 wr):=hk
  have HEQ:Hid (S'++startsS ((hs.drop i).map (fun x=>x.2.length)) (F.drop i) a=startsS (hs.map (fun x=>x.2.length)) F (countS first)):=he
  have HSL:Hid (S'.length=i):=hSl
  have hszr:w.heap.size+1≤wr.heap.size:=by have:=hk.size;rw [HS0.out] at this;exact this
  clear hm hw hk he hSl
  obtain ⟨up,uc,hu5⟩:=ownsLenX HW.out
  subst hu5
  have b2:wr.cell? ⟨w.heap.size,2,none⟩=some (.slice fp F.length fc):=(HK.out.cell (p:=⟨w.heap.size,2,none⟩) (by rw [HS0.out];exact Nat.lt_succ_self _) (fun h=>h)).trans HB.out
  by_cases hil:i<F.length
  ·obtain ⟨y,hy⟩:∃y,F[i]? = some y:=⟨_,List.getElem?_eq_getElem hil⟩
   obtain ⟨x,hx⟩:∃x,hs[i]? = some x:=⟨_,List.getElem?_eq_getElem (by rw [HN.out];exact hil)⟩
   have hyb:=HF.out y (List.mem_of_getElem? hy)
   have hxl:=HL.out x (List.mem_of_getElem? hx)
   have hcy:=HCL.out y
   have HEQ2:Hid (S'++[a]++startsS ((hs.drop (i+1)).map (fun x=>x.2.length)) (F.drop (i+1)) (a+(x.2.length+countS y))=startsS (hs.map (fun x=>x.2.length)) F (countS first)):=by
    have e:=HEQ.out
    obtain ⟨h1,h2⟩:=List.getElem?_eq_some_iff.1 hx
    obtain ⟨h3,h4⟩:=List.getElem?_eq_some_iff.1 hy
    rw [List.drop_eq_getElem_cons h1,h2,List.drop_eq_getElem_cons h3,h4] at e
    simp only [List.map_cons,startsS] at e
    show _=_
    rw [List.append_assoc];exact e
   obtain ⟨gf,cf,hvf⟩:=owns_some HO.out (by omega)
   simp only [Value.slice.injEq] at hvf
   obtain ⟨rfl,_,rfl⟩:=hvf
   obtain ⟨gh,ch,hvh⟩:=owns_some HH.out (by omega)
   simp only [Value.slice.injEq] at hvh
   obtain ⟨rfl,_,rfl⟩:=hvh
   obtain ⟨xv,xl⟩:=x
   simp only at hxl hcy HEQ2
   have hxo:=HE.out (xv,xl) (List.mem_of_getElem? hx)
   obtain ⟨xp,xc,hxv⟩:=ownsLenX hxo
   simp only at hxv
   subst hxv
   have HCF:Hid (∀W,Nw w W→W.cell? ⟨gf,i,none⟩=some (.int .i64 y)∧W.cell? ⟨gh,i,none⟩=some (.slice xp xl.length xc)):=by
    intro W hW
    exact ⟨owns_cell (owns_kp HO.out hW (fun _ _ h=>h)) i (intsV_get hy),owns_cell (owns_kp HH.out hW (fun _ _ h=>h)) i (by rw [List.getElem?_map,hx];rfl)⟩
   have hgf:=(HO.out.lt gf rfl).2
   have hgh:=(HH.out.lt gh rfl).2
   clear hy hx hxo
   go_wp2_with (at_builtin;refine wpList_append_lies _ rfl _ _ 22 rfl (w.heap.size+1) 3 i1 (.int .i64 0) 1 8 Tryz.underlying22 hi1 hy0 hy1 hy2 rfl (by decide) _ _ _ rfl (HW.out.alloc _) ⟨wr.heap.size,0,none⟩ 1 1 [.int .i64 (a:Int)] rfl rfl ?c1 ?c2 (by decide) ?c3 ?c4 ?c5 _ rfl ?_)
   case c1=>exact news_one _ (by simp) _ _
   case c2=>exact intsV_one [a]
   case c3=>unfold maxLen;omega
   case c4=>omega
   case c5=>simp;omega
   intro g3 cap3 w3 hown3 hgrow hat hlt3
   have HK3:Hid (Nw W0 w3):=((HK.out.mono (fun _ _ h=>h)).alloc _).grown hgrow (fun b hb=>Or.inl (by rw [HS0.out];exact ((HW.out.lt b hb).1)))
   have HO3:Hid (w3.ownsRow (w.heap.size+1) 3 1 (.slice (some ⟨g3,0,none⟩) (i+1) cap3) (i+1) (intsV (S'++[a]))):=by
    show w3.ownsRow _ _ _ _ _ _
    rw [show intsV (S'++[a])=intsV S'++[.int .i64 (a:Int)] by simp [intsV]]
    exact hown3
   obtain ⟨z1,z2⟩:=HCF.out w3 (HW0.out.trans HK3.out)
   have z3:w3.cell? ⟨w.heap.size,2,none⟩=some (.slice (some ⟨gf,0,none⟩) F.length fc):=(HK3.out.cell (p:=⟨w.heap.size,2,none⟩) (by rw [HS0.out];exact Nat.lt_succ_self _) (fun h=>h)).trans HB.out
   clear hown3 hgrow hat b2
   go_wp2
   go_quiet ((go_at_call 83;exact Calls.quiet_of_same (HCT.out y _ hyb)))
   generalize countS y=cy at *
   go_wp2
   go_roundg (F.length - (i+1))
   case measure=>rw [HM.out];omega
   case rel=>exact ⟨i+1,a+(xl.length+cy),S'++[a],by simp,by simp,rfl,by omega,by omega,by simp [HSL.out],owns_kp HO3.out ((Kp.refl (fun _=>False) w3).drewN _) (fun _ _ h=>h),HEQ2.out,HK3.out.trans ((Kp.refl (fun _=>False) w3).drewN _)⟩
  ·have hie:i=F.length:=by omega
   subst hie
   have hd:decide ((F.length:Nat)<F.length)=false:=by simp
   go_wp2_with (at_builtin;refine wpList_append_lies _ rfl _ _ 22 rfl (w.heap.size+1) 3 i1 (.int .i64 0) 1 8 Tryz.underlying22 hi1 hy0 hy1 hy2 rfl (by decide) _ _ _ rfl (HW.out.alloc _) ⟨wr.heap.size,0,none⟩ 1 1 [.int .i64 (a:Int)] rfl rfl ?c1 ?c2 (by decide) ?c3 ?c4 ?c5 _ rfl ?_)
   case c1=>exact news_one _ (by simp) _ _
   case c2=>exact intsV_one [a]
   case c3=>unfold maxLen;omega
   case c4=>omega
   case c5=>simp;omega
   intro g3 cap3 w3 hown3 hgrow hat hlt3
   go_wp2
   go_ret
   refine ⟨_,rfl,?_,?_⟩
   ·have e:=HEQ.out
    have hdr:hs.drop F.length=[]:=by rw [←HN.out,List.drop_length]
    rw [hdr,List.drop_length] at e
    simp only [List.map_nil,startsS] at e
    rw [←e,show intsV (S'++[a])=intsV S'++[.int .i64 (a:Int)] by simp [intsV]]
    exact hown3
   ·exact HW0.out.trans (((HK.out.mono (fun _ _ h=>h)).alloc _).grown hgrow (fun b hb=>Or.inl (by rw [HS0.out];exact ((HW.out.lt b hb).1))) |>.mono (fun _ _ h=>h))
end Go.Proofs.YtcboiapggnmpfabGreat
