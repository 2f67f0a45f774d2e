import Derived.Test.YtcboiapggnmpfaaGreatDoorQat
import Derived.Deep.RegionWith
namespace Go.Proofs.YtcboiapggnmpfaaGreatDoor
set_option maxRecDepth 100000
set_option maxHeartbeats 4000000
set_option linter.unusedSimpArgs false
set_option linter.unusedVariables false
open Go.RowKit
open Value (slice)
section
def ppC (p:Pp):List Value:=[.int .i64 p.first,.int .i64 p.last,.bool p.nothing]
def ppsC (l:List Pp):List Value:=(l.map ppC).flatten
theorem ppsC_get:∀(M:List Pp) (i j:Nat) (x:Pp),M[i]? = some x→j<3→(ppsC M)[i*3+j]? = (ppC x)[j]?:=by
 intro M
 induction M with
 | nil=>intro i j x h;simp at h
 | cons y r ih =>
  intro i j x h hj
  have e:ppsC (y::r)=ppC y++ppsC r:=by simp [ppsC]
  have hl:(ppC y).length=3:=rfl
  rw [e]
  cases i with
  | zero=>simp at h;subst h;rw [List.getElem?_append_left (by omega)];simp
  | succ i =>
   simp at h
   rw [List.getElem?_append_right (by omega),hl]
   have:(i+1)*3+j - 3=i*3+j:=by omega
   rw [this];exact ih i j x h hj
structure Cnt (w wr:World) (R:Nat) (nv sv fv:Value) (M:List Nd) (jl:Nat) (lo hi:Int) (v:Value) (ps:List Pp) (W:WSt) (sv' fv':Value):Prop where
 wn:WrN wr R nv sv' fv' M W
 kp:Kp (WSp R sv fv) w wr
 n1:NewB w sv sv'
 n2:NewB w fv fv'
 f1:¬sv'.ownBlock=some w.heap.size∧¬sv'.ownBlock=some (w.heap.size+1)
 f2:¬fv'.ownBlock=some w.heap.size∧¬fv'.ownBlock=some (w.heap.size+1)
 b2:wr.cell? ⟨w.heap.size,2,none⟩=some (.int .i64 jl)
 b4:wr.cell? ⟨w.heap.size,4,none⟩=some (.int .i64 lo)
 b5:wr.cell? ⟨w.heap.size,5,none⟩=some (.int .i64 hi)
 p1:PtAt wr (w.heap.size+1) ⟨0,0,false⟩
 own:wr.ownsRow (w.heap.size+2) 159 3 v ps.length (ppsC ps)
 lt:R<w.heap.size
section
variable {w wr:World} {R:Nat} {nv sv fv:Value} {M:List Nd} {jl:Nat} {lo hi:Int} {v:Value} {ps:List Pp} {W:WSt} {sv' fv':Value}
theorem Cnt.kpB {S:Nat→Prop} {w':World} (h:Cnt w wr R nv sv fv M jl lo hi v ps W sv' fv') (k:Kp S wr w') (h0:¬S w.heap.size) (h1:¬S (w.heap.size+1)) :
  w'.cell? ⟨w.heap.size,2,none⟩=some (.int .i64 jl)∧w'.cell? ⟨w.heap.size,4,none⟩=some (.int .i64 lo)∧w'.cell? ⟨w.heap.size,5,none⟩=some (.int .i64 hi)∧PtAt w' (w.heap.size+1) ⟨0,0,false⟩:=by
 have hl:=h.p1.lt
 have hl0:w.heap.size<wr.heap.size:=by omega
 exact ⟨(k.cell hl0 h0).trans h.b2,(k.cell hl0 h0).trans h.b4,(k.cell hl0 h0).trans h.b5,h.p1.kp k h1⟩
theorem Cnt.nw {w':World} (h:Cnt w wr R nv sv fv M jl lo hi v ps W sv' fv') (k:Nw wr w'):Cnt w w' R nv sv fv M jl lo hi v ps W sv' fv':=by
 obtain ⟨a,b,c,d⟩:=h.kpB k (fun h=>h) (fun h=>h)
 exact ⟨h.wn.nw k,h.kp.trans (k.mono (fun _ _ h=>h.elim)),h.n1,h.n2,h.f1,h.f2,a,b,c,d,ownsKpX h.own k (fun _ _ h=>h),h.lt⟩
theorem Cnt.write {w':World} {W':WSt} {sv2 fv2:Value} (h:Cnt w wr R nv sv fv M jl lo hi v ps W sv' fv') (hm:WrM w' R nv sv2 fv2 W'.1 W'.2) (k:Kp (WSp R sv' fv') wr w') (b1:NewB wr sv' sv2) (b2:NewB wr fv' fv2):Cnt w w' R nv sv fv M jl lo hi v ps W' sv2 fv2:=by
 have hl:=h.p1.lt
 have hlt:=h.lt
 obtain ⟨a,b,c,d⟩:=h.kpB k (nWS (by omega) h.f1.1 h.f2.1) (nWS (by omega) h.f1.2 h.f2.2)
 refine ⟨h.wn.next k hm,h.kp.trans' k (WSp.back (w1:=w) h.n1 h.n2),h.n1.trans b1 h.kp.size,h.n2.trans b2 h.kp.size,⟨b1.not h.f1.1 (by omega),b1.not h.f1.2 (by omega)⟩,⟨b2.not h.f2.1 (by omega),b2.not h.f2.2 (by omega)⟩,a,b,c,d,ownsKpX h.own k (fun g hg => ?_),h.lt⟩
 have hge:=(h.own.lt g hg).1
 refine nWS (by omega) (fun e => ?_) (fun e => ?_)
 ·exact absurd (owns_types h.own h.wn.wr.so hg e) (by decide)
 ·exact absurd (owns_types h.own h.wn.wr.fo hg e) (by decide)
theorem Cnt.grow {w':World} {v2:Value} {ps2:List Pp} (h:Cnt w wr R nv sv fv M jl lo hi v ps W sv' fv') (k:Kp (fun b=>v.ownBlock=some b) wr w') (o:w'.ownsRow (w.heap.size+2) 159 3 v2 ps2.length (ppsC ps2)):Cnt w w' R nv sv fv M jl lo hi v2 ps2 W sv' fv':=by
 have hge:=h.own.lt
 have hlt:=h.lt
 have nB:∀B,B<w.heap.size+2→¬v.ownBlock=some B:=by intro B hB e;have:=(hge B e).1;omega
 obtain ⟨a,b,c,d⟩:=h.kpB k (nB _ (by omega)) (nB _ (by omega))
 have hR:=nB R (by omega)
 have hwl:=h.wn.wr.lt
 have hm:WrM w' R nv sv' fv' W.1 W.2:=⟨(k.cell hwl hR).trans h.wn.wr.c0,(k.cell hwl hR).trans h.wn.wr.c1,(k.cell hwl hR).trans h.wn.wr.c2,fun o=>(k.frozen (p:=⟨R,o,none⟩) hwl hR).trans (h.wn.wr.z o),owns_kp h.wn.wr.so k (fun g hg e=>absurd (owns_types h.own h.wn.wr.so e hg) (by decide)),owns_kp h.wn.wr.fo k (fun g hg e=>absurd (owns_types h.own h.wn.wr.fo e hg) (by decide))⟩
 refine ⟨⟨hm,ownsKpX h.wn.nd k (fun g hg e=>absurd (owns_types h.own h.wn.nd e hg) (by decide)),h.wn.nR⟩,h.kp.trans' k (fun b hb e=>by have:=(hge b e).1;omega),h.n1,h.n2,h.f1,h.f2,a,b,c,d,o,h.lt⟩
theorem Cnt.off {w':World} {B:Nat} (h:Cnt w wr R nv sv fv M jl lo hi v ps W sv' fv') (k:Kp (fun b=>b=B) wr w') (hB:w.heap.size+2≤B) (hs:¬sv'.ownBlock=some B) (hf:¬fv'.ownBlock=some B) (hv:¬v.ownBlock=some B) (hnv:¬nv.ownBlock=some B):Cnt w w' R nv sv fv M jl lo hi v ps W sv' fv':=by
 have hlt:=h.lt
 obtain ⟨a,b,c,d⟩:=h.kpB k (by omega) (by omega)
 refine ⟨⟨h.wn.wr.off k (by omega) hs hf,ownsKpX h.wn.nd k (fun g hg e=>hnv (by rw [←e];exact hg)),h.wn.nR⟩,h.kp.trans' k (fun b hb e=>by omega),h.n1,h.n2,h.f1,h.f2,a,b,c,d,ownsKpX h.own k (fun g hg e=>hv (by rw [←e];exact hg)),h.lt⟩
end
theorem ppsC_snoc (l:List Pp) (p:Pp):ppsC (l++[p])=ppsC l++ppC p:=by simp [ppsC]
theorem ppC_one (p:Pp):∀u∈ppC p,u.oneCell'=true:=by
 intro u hu
 simp only [ppC,List.mem_cons,List.not_mem_nil,or_false] at hu
 rcases hu with h|h|h <;> subst h <;> rfl
theorem Tryz.info159:(Tryz.prog.info? 159).map (fun i=>(i.zero,i.size,i.bytes))=some (some (.agg #[.int .i64 0,.int .i64 0,.bool false]),3,24):=by kernel_rfl
theorem news_two3 (w2:World) (o:Obj) (cs:Array Value) (t:TypeId):∀j u,cs.toList[j]? = some u→((w2.alloc o).alloc (.cells cs t)).cell? ((⟨w2.heap.size+1,0,none⟩:Addr).add j)=some u :=
 World.news_of_block (by have:=heap_alloc_new (w2.alloc o) (.cells cs t);simpa using this)
theorem counted_any (M:List Nd) (gn cn k jl:Nat) (lo hi:Int) (h1:1≤hi) (h9:hi≤9) (b:Nt) (hb:WriteOk M (.slice (some ⟨gn,0,none⟩) M.length cn) b jl k) (R:Nat) (sv fv:Value) (W:WSt) (n:Nat) (w:World) (h:WrN w R (.slice (some ⟨gn,0,none⟩) M.length cn) sv fv M W) (hW:WOk W n) (hn:n+b.lenN*hi.toNat≤10000) :
  Calls Tryz.prog 99 #[.pointer (some ⟨R,0,none⟩),ndV ⟨3,0,jl,0,lo,hi⟩] w (WrPost w R (.slice (some ⟨gn,0,none⟩) M.length cn) sv fv (wrS (.rnd lo hi b) k W).1 (wrS (.rnd lo hi b) k W).2.1 (wrS (.rnd lo hi b) k W).2.2):=by
 obtain ⟨N,hN⟩:∃N:Nat,hi=N:=⟨hi.toNat,by omega⟩
 subst hN
 have hlt:=h.wr.lt
 have hsl:=h.wr.so.lt
 have hfl:=h.wr.fo.lt
 have HSB:Hid (∀b,w.heap.size≤b→¬sv.ownBlock=some b):=fun b hb e=>by have:=(hsl b e).2;omega
 have HFB:Hid (∀b,w.heap.size≤b→¬fv.ownBlock=some b):=fun b hb e=>by have:=(hfl b e).2;omega
 have hne1:¬(N:Int) = -1:=by omega
 have hres:wrS (.rnd lo N b) k W=((backS (rounds (wrS b k) N W).1 lo N ⟨0,0,true⟩ (rounds (wrS b k) N W).2.2).1,((rounds (wrS b k) N W).2.1,(backS (rounds (wrS b k) N W).1 lo N ⟨0,0,true⟩ (rounds (wrS b k) N W).2.2).2)):=by
  simp only [wrS,if_neg hne1,Int.toNat_natCast]
 rw [hres]
 clear hres
 have HRO:Hid (∀i,(∀p∈(rounds (wrS b k) i W).1,p.ok)∧(rounds (wrS b k) i W).1.length=i∧WOk (rounds (wrS b k) i W).2 (n+b.lenN*i)):=fun i=>rounds_ok (wrS_ok b k) i W n hW
 have HWR:Hid (∀(i:Nat) (sv1 fv1:Value) W',i<N→WrN W' R (.slice (some ⟨gn,0,none⟩) M.length cn) sv1 fv1 M (rounds (wrS b k) i W).2→Calls Tryz.prog 70 #[.pointer (some ⟨R,0,none⟩),.int .i64 jl] W' (WrPost W' R (.slice (some ⟨gn,0,none⟩) M.length cn) sv1 fv1 (wrS b k (rounds (wrS b k) i W).2).1 (wrS b k (rounds (wrS b k) i W).2).2.1 (wrS b k (rounds (wrS b k) i W).2).2.2)):=by
  intro i sv1 fv1 W' hi hN'
  refine hb R sv1 fv1 _ _ W' hN' (HRO.out i).2.2 ?_
  simp only [Int.toNat_natCast] at hn
  have:b.lenN*i+b.lenN≤b.lenN*N:=by
   have:=Nat.mul_le_mul_left b.lenN (show i+1≤N by omega)
   rw [Nat.mul_add] at this;omega
  omega
 have HH:Hid (WrN w R (.slice (some ⟨gn,0,none⟩) M.length cn) sv fv M W):=h
 have hgl0:=(h.nd.lt gn rfl).2
 have n0:¬R=w.heap.size:=by omega
 have n1:¬R=w.heap.size+1:=by omega
 have hz:w.heap.size≤w.heap.size+1:=by omega
 have C0:Hid (Cnt w ((w.alloc (.cells #[.int .i64 3,.int .i64 0,.int .i64 jl,.int .i64 0,.int .i64 lo,.int .i64 N] 186)).alloc (.cells #[.int .i64 0,.int .i64 0,.bool false] 159)) R (.slice (some ⟨gn,0,none⟩) M.length cn) sv fv M jl lo N (.slice none 0 0) [] (rounds (wrS b k) 0 W).2 sv fv):=by
  refine ⟨h.nw (((Kp.refl _ w).alloc _).alloc _),((Kp.refl _ w).alloc _).alloc _,fun b hb=>Or.inl hb,fun b hb=>Or.inl hb,⟨HSB.out _ (Nat.le_refl _),HSB.out _ hz⟩,⟨HFB.out _ (Nat.le_refl _),HFB.out _ hz⟩,?_,?_,?_,?_,World.ownsRow_nil _ _ _ _,hlt⟩
  ·simp [go_sem,World.cell?_alloc_at]
  ·simp [go_sem,World.cell?_alloc_at]
  ·simp [go_sem,World.cell?_alloc_at]
  ·exact PtAt.new (w.alloc (.cells #[.int .i64 3,.int .i64 0,.int .i64 jl,.int .i64 0,.int .i64 lo,.int .i64 N] 186)) ⟨0,0,false⟩ 159 (B:=w.heap.size+1) (by simp)
 obtain ⟨i1,hi1,hy0,hy1,hy2⟩:=info_parts Tryz.info159
 clear h hsl hfl hW hb
 unfold ndV
 go_enter Tryz.func99,Tryz.ntmps99
 go_wp2
 go_loopg [5,6] N (fun m v5 v6 wr=>∃(i:Nat) (sv' fv':Value),v6=.int .i64 i∧m=N - i∧i≤N∧Cnt w wr R (.slice (some ⟨gn,0,none⟩) M.length cn) sv fv M jl lo N v5 (rounds (wrS b k) i W).1 (rounds (wrS b k) i W).2 sv' fv')
 case atStart=>exact ⟨0,sv,fv,rfl,rfl,by omega,C0.out⟩
 case round =>
  obtain ⟨i,sv',fv',rfl,hm,hi,hC⟩:=hrel
  have HM:Hid (_=N - i):=hm
  have HC:Hid (Cnt w wr R (.slice (some ⟨gn,0,none⟩) M.length cn) sv fv M jl lo N u5 (rounds (wrS b k) i W).1 (rounds (wrS b k) i W).2 sv' fv'):=hC
  have c2:=hC.b2
  have c5:=hC.b5
  have HPL:Hid ((rounds (wrS b k) i W).1.length=i):=(HRO.out i).2.1
  clear hm
  by_cases hil:i<N
  ·have HCW:Hid (Calls Tryz.prog 70 #[.pointer (some ⟨R,0,none⟩),.int .i64 jl] wr (WrPost wr R (.slice (some ⟨gn,0,none⟩) M.length cn) sv' fv' (wrS b k (rounds (wrS b k) i W).2).1 (wrS b k (rounds (wrS b k) i W).2).2.1 (wrS b k (rounds (wrS b k) i W).2).2.2)):=HWR.out i sv' fv' wr hil hC.wn
   have HR1:Hid ((rounds (wrS b k) (i+1) W)=((rounds (wrS b k) i W).1++[(wrS b k (rounds (wrS b k) i W).2).1],(wrS b k (rounds (wrS b k) i W).2).2)):=rfl
   clear hC
   generalize hrs:(rounds (wrS b k) i W).1=rs at *
   generalize (wrS b k (rounds (wrS b k) i W).2).1=pp at *
   generalize (wrS b k (rounds (wrS b k) i W).2).2=W2 at *
   generalize (rounds (wrS b k) i W).2=W1 at *
   clear hrs
   go_wp2_with fail
   refine HCW.out.mono ?_
   rintro e w1 ⟨sv2,fv2,rfl,hm1,k1,b1,b2⟩
   have C1:Hid (Cnt w w1 R (.slice (some ⟨gn,0,none⟩) M.length cn) sv fv M jl lo N u5 rs W2 sv2 fv2):=HC.out.write hm1 k1 b1 b2
   clear hm1 k1 b1 b2 HCW c2 c5
   obtain ⟨up,uc,hu5⟩:=ownsLenX C1.out.own
   subst hu5
   unfold partV
   go_wp2_with (at_builtin;refine wpList_append_lies _ rfl _ _ 209 rfl (w.heap.size+2) 159 i1 (.agg #[.int .i64 0,.int .i64 0,.bool false]) 3 24 Tryz.underlying209 hi1 hy0 hy1 hy2 rfl (by decide) _ _ _ rfl ((C1.out.own.alloc _).alloc _) ⟨w1.heap.size+1,0,none⟩ 1 1 (ppC pp) rfl rfl ?d1 ?d2 (by decide) ?d3 ?d4 ?d5 _ rfl ?_)
   case d1=>exact news_two3 w1 _ _ _
   case d2=>exact ppC_one pp
   case d3=>have:=HPL.out;unfold maxLen;omega
   case d4=>have:=HPL.out;omega
   case d5=>have:=HPL.out;have:=C1.out.p1.lt;simp;omega
   intro g3 cap3 w3 hown3 hgrow hat hlt3
   have C3:Hid (Cnt w w3 R (.slice (some ⟨gn,0,none⟩) M.length cn) sv fv M jl lo N (.slice (some ⟨g3,0,none⟩) (rs.length+1) cap3) (rs++[pp]) W2 sv2 fv2):=by
    refine ((C1.out.nw ((Kp.refl _ w1).alloc _)).nw ((Kp.refl _ _).alloc _)).grow ((Kp.refl _ _).grown hgrow (fun b hb=>Or.inr hb)) ?_
    have e1:(rs++[pp]).length=rs.length+1:=by simp
    rw [e1,ppsC_snoc];exact hown3
   clear hown3 hgrow hat
   go_wp2
   go_roundg (N - (i+1))
   case measure=>rw [HM.out];omega
   case rel=>exact ⟨i+1,sv2,fv2,by simp,rfl,by omega,by rw [HR1.out];exact C3.out⟩
  ·have hie:i=N:=by omega
   subst hie
   clear hC
   obtain ⟨up,uc,hu5⟩:=ownsLenX HC.out.own
   rw [HPL.out] at hu5
   subst hu5
   have HOK:=(HRO.out i).1
   have HWO:=(HRO.out i).2.2
   simp only [Int.toNat_natCast] at hn
   obtain ⟨fin,hfin⟩:∃fin,fin=backS (rounds (wrS b k) i W).1 lo i ⟨0,0,true⟩ (rounds (wrS b k) i W).2.2:=⟨_,rfl⟩
   have HFIN:Hid (fin=backS (rounds (wrS b k) i W).1 lo i ⟨0,0,true⟩ (rounds (wrS b k) i W).2.2):=hfin
   rw [←hfin]
   have HOKR:Hid (∀p∈(rounds (wrS b k) i W).1,p.ok):=HOK
   have HSF:Hid (Sets (rounds (wrS b k) i W).2.2∧(rounds (wrS b k) i W).2.2.length≤10000):=⟨HWO.sets,by rw [HWO.f];exact hn⟩
   clear HOK HWO hfin C0 HRO HWR HH
   generalize (rounds (wrS b k) i W).1=rs at *
   generalize (rounds (wrS b k) i W).2=W1 at *
   obtain ⟨S1,F1⟩:=W1
   simp only at HFIN HSF
   have hown:=HC.out.own
   rw [HPL.out] at hown
   have hsl:=HC.out.wn.wr.wr_so_lt
   have hfl:=HC.out.wn.wr.wr_fo_lt
   have zs:¬sv'.ownBlock=some wr.heap.size:=by intro e;have:=hsl _ e;omega
   have zf:¬fv'.ownBlock=some wr.heap.size:=by intro e;have:=hfl _ e;omega
   have zu:¬(slice up i uc).ownBlock=some wr.heap.size:=by intro e;have:=(hown.lt _ e).2;omega
   have hBl:=HC.out.p1.lt
   have HZS:Hid (¬sv'.ownBlock=some wr.heap.size):=zs
   have HZF:Hid (¬fv'.ownBlock=some wr.heap.size):=zf
   have HZU:Hid (¬(slice up i uc).ownBlock=some wr.heap.size):=zu
   have C2:Hid (Cnt w (wr.alloc (.cells #[.int .i64 0,.int .i64 0,.bool true] 159)) R (.slice (some ⟨gn,0,none⟩) M.length cn) sv fv M jl lo i (.slice up i uc) rs (S1,F1) sv' fv'):=HC.out.nw ((Kp.refl _ _).alloc _)
   have PW:Hid (PtAt (wr.alloc (.cells #[.int .i64 0,.int .i64 0,.bool true] 159)) wr.heap.size ⟨0,0,true⟩):=PtAt.new wr ⟨0,0,true⟩ 159 rfl
   have HGN:Hid (¬(slice (some ⟨gn,0,none⟩) M.length cn).ownBlock=some wr.heap.size):=by intro e;simp [Value.ownBlock] at e;omega
   clear hsl hfl zs zf zu hown
   go_wp2
   generalize (wr.alloc (.cells #[.int .i64 0,.int .i64 0,.bool true] 159))=w5 at *
   generalize wr.heap.size=Bw at *
   go_loopg [9] i (fun m v9 wx=>∃(j:Nat) (whole:Pp) (F:List Nat),v9=.int .i64 ((j:Int) - 1)∧m=j∧j≤i∧backS rs lo j whole F=fin∧whole.ok∧Sets F∧F.length≤10000∧Cnt w wx R (.slice (some ⟨gn,0,none⟩) M.length cn) sv fv M jl lo i (.slice up i uc) rs (S1,F) sv' fv'∧PtAt wx Bw whole)
   case atStart=>exact ⟨i,⟨0,0,true⟩,F1,rfl,rfl,Nat.le_refl _,HFIN.out.symm,Pp.zero_ok,HSF.out.1,HSF.out.2,C2.out,PW.out⟩
   case round =>
    obtain ⟨j,whole,F,rfl,hm2,hj,hbk,hwo,hsF,hlF,hC3,hP3⟩:=hrel
    have HM2:Hid (_=j):=hm2
    have HBK:Hid (backS rs lo j whole F=fin):=hbk
    have HWO:Hid whole.ok:=hwo
    have HSF2:Hid (Sets F∧F.length≤10000):=⟨hsF,hlF⟩
    have HC3:Hid (Cnt w wr R (.slice (some ⟨gn,0,none⟩) M.length cn) sv fv M jl lo i (.slice up i uc) rs (S1,F) sv' fv'):=hC3
    have HP3:Hid (PtAt wr Bw whole):=hP3
    have hBlt:=hP3.lt
    have hb4:=hC3.b4
    clear hm2 hbk hwo hsF hlF
    by_cases hj0:j=0
    ·subst hj0
     have HE:Hid (fin=(whole,F)):=HBK.out.symm
     clear HBK
     have FIN:Hid (WrPost w R (.slice (some ⟨gn,0,none⟩) M.length cn) sv fv fin.1 S1 fin.2 (.returned (partV fin.1)) (setP wr (w.heap.size+1) fin.1)):=by
      show WrPost _ _ _ _ _ _ _ _ _ _
      rw [HE.out]
      exact wr_finB hz n1 HC3.out.wn.wr HC3.out.kp HC3.out.n1 HC3.out.n2 HC3.out.f1.2 HC3.out.f2.2
     have HEW:Hid (fin.1=whole):=by show _=_;rw [HE.out]
     have HPF:Hid (PtAt (setP wr (w.heap.size+1) whole) (w.heap.size+1) whole):=HC3.out.p1.set whole
     have e0:((0:Nat):Int) - 1 = -1:=rfl
     rw [e0]
     obtain ⟨a0,a1,a2,az⟩:=HP3.out
     obtain ⟨r0,r1,r2,rz⟩:=HC3.out.p1
     clear e0 hC3 hP3 HE
     rw [HFIN.out] at FIN HEW
     rw [HEW.out] at FIN
     have hqB:¬w.heap.size+1=Bw:=by omega
     have hqB':¬Bw=w.heap.size+1:=by omega
     go_wp2
     refine bodyPost_ret (results_cX Tryz.results99 _ _ _ ⟨w.heap.size+1,0,none⟩ rfl _ HPF.out.load) rfl ?_
     rw [HEW.out]
     exact FIN.out
    ·obtain ⟨q,rfl⟩:∃q,j=q+1:=⟨j - 1,by omega⟩
     have eq:((q+1:Nat):Int) - 1=q:=by omega
     rw [eq]
     clear eq hj0
     have hown:=hC3.own
     rw [HPL.out] at hown
     obtain ⟨p,hp⟩:∃p,rs[q]? = some p:=⟨_,List.getElem?_eq_getElem (by have:=HPL.out;omega)⟩
     have HPO:Hid p.ok:=HOKR.out p (List.mem_of_getElem? hp)
     obtain ⟨gu,cu,hgu⟩:=owns_someX hown (by omega)
     simp only [Value.slice.injEq,true_and] at hgu
     obtain ⟨rfl,rfl⟩:=hgu
     have x0:wr.cell? ⟨gu,q*3,none⟩=some (.int .i64 p.first):=by have:=owns_cell hown (q*3+0) (v:=.int .i64 p.first) (by rw [ppsC_get rs q 0 p hp (by omega)];rfl);simpa using this
     have x1:wr.cell? ⟨gu,q*3+1,none⟩=some (.int .i64 p.last):=owns_cell hown (q*3+1) (by rw [ppsC_get rs q 1 p hp (by omega)];rfl)
     have x2:wr.cell? ⟨gu,q*3+2,none⟩=some (.bool p.nothing):=owns_cell hown (q*3+2) (by rw [ppsC_get rs q 2 p hp (by omega)];rfl)
     have HBK2:Hid (backS rs lo q ⟨(joinS p whole).first,(joinS p whole).last,(joinS p whole).nothing||decide (lo≤(q:Int))⟩ (followS F p.last whole.first)=fin):=by
      have:=HBK.out
      simp only [backS,hp] at this
      exact this
     have HJ:Hid (∀n,Calls Tryz.prog 97 #[.pointer (some ⟨R,0,none⟩),.agg #[.int .i64 p.first,.int .i64 p.last,.bool p.nothing],.agg #[.int .i64 whole.first,.int .i64 whole.last,.bool whole.nothing]] (wr.drewN n) fun e w'=>e=.returned (.agg #[.int .i64 (joinS p whole).first,.int .i64 (joinS p whole).last,.bool (joinS p whole).nothing])∧WrM w' R (.slice (some ⟨gn,0,none⟩) M.length cn) sv' fv' S1 (followS F p.last whole.first)∧Kp (fun k=>fv'.ownBlock=some k) (wr.drewN n) w'):=fun n=>join_any R p whole HPO.out HWO.out _ sv' fv' S1 F _ (HC3.out.wn.wr.nw ((Kp.refl _ _).drewN n)) HSF2.out.1 HSF2.out.2
     have HJO:Hid (joinS p whole).ok:=joinS_ok HPO.out HWO.out
     have HN:Hid (∀n w9,WrM w9 R (.slice (some ⟨gn,0,none⟩) M.length cn) sv' fv' S1 (followS F p.last whole.first)→Kp (fun k=>fv'.ownBlock=some k) (wr.drewN n) w9→PtAt w9 Bw whole∧Cnt w w9 R (.slice (some ⟨gn,0,none⟩) M.length cn) sv fv M jl lo i (.slice (some ⟨gu,0,none⟩) i uc) rs (S1,followS F p.last whole.first) sv' fv'):=by
      intro n w9 hm9 k9
      have kk:Kp (fun k=>fv'.ownBlock=some k) wr w9:=((Kp.refl _ wr).drewN n).trans k9
      exact ⟨HP3.out.kp kk HZF.out,HC3.out.write (W':=(S1,followS F p.last whole.first)) hm9 (kk.mono (fun b _ e=>Or.inr (Or.inr e))) (fun b hb=>Or.inl hb) (fun b hb=>Or.inl hb)⟩
     obtain ⟨a0,a1,a2,az⟩:=HP3.out
     have hqI:(q:Int)<(i:Int):=by omega
     have hq0:(0:Int)≤(q:Int):=by omega
     have hgl:=(hown.lt gu rfl).2
     clear hC3 hP3 hown hp HBK
     generalize hjf:(joinS p whole)=jj at *
     go_wp2
     go_region_with ((go_at_call 97;refine (HJ.out _).mono ?_;rintro e9 w9 ⟨rfl,hm9,k9⟩;obtain ⟨z0,z1⟩:=HN.out _ _ hm9 k9;obtain ⟨c0,c1,c2,cz⟩:=z0))
     all_goals
      have Z1:Hid (Cnt w w9 R (.slice (some ⟨gn,0,none⟩) M.length cn) sv fv M jl lo i (.slice (some ⟨gu,0,none⟩) i uc) rs (S1,followS F p.last whole.first) sv' fv'):=z1
      have d4:=z1.b4
      have Z0:Hid (PtAt w9 Bw whole):=⟨c0,c1,c2,cz⟩
      clear hm9 k9 z1 a0 a1 a2 az x0 x1 x2 hb4
      have HSTEP:Hid (∀x:Bool,Cnt w ((setP w9 Bw jj).setCell ⟨Bw,2,none⟩ (.bool x)) R (.slice (some ⟨gn,0,none⟩) M.length cn) sv fv M jl lo i (.slice (some ⟨gu,0,none⟩) i uc) rs (S1,followS F p.last whole.first) sv' fv'∧PtAt ((setP w9 Bw jj).setCell ⟨Bw,2,none⟩ (.bool x)) Bw ⟨jj.first,jj.last,x⟩):=by
       intro x
       have kk:Kp (fun b=>b=Bw) w9 ((setP w9 Bw jj).setCell ⟨Bw,2,none⟩ (.bool x)):=(setP_kp w9 Bw jj).setCell (p:=⟨Bw,2,none⟩) (Or.inr rfl) _
       refine ⟨Z1.out.off kk (by omega) HZS.out HZF.out HZU.out HGN.out,?_⟩
       obtain ⟨y0,y1,y2,yz⟩:=Z0.out.set jj
       constructor <;> simp [go_sem,y0,y1,y2,yz]
      have HNX:Hid (∀x:Bool,(jj.nothing||decide (lo≤(q:Int)))=x→backS rs lo q ⟨jj.first,jj.last,x⟩ (followS F p.last whole.first)=fin):=by
       intro x hx;rw [←hx];exact HBK2.out
      have HJX:Hid (∀x:Bool,(⟨jj.first,jj.last,x⟩:Pp).ok):=fun x=>HJO.out
      have HSX:Hid (Sets (followS F p.last whole.first)∧(followS F p.last whole.first).length≤10000):=⟨followS_sets HSF2.out.1 HWO.out.1,by rw [followS_len];exact HSF2.out.2⟩
      have hqw:¬w.heap.size=Bw:=by omega
      have hqw':¬Bw=w.heap.size:=by omega
      unfold setP at HSTEP
      generalize hjn:jj.nothing=jn at *
      clear hjn HBK2 HJO
      cases jn with
      | true =>
       have HX1:=HNX.out true (by simp)
       have HX2:Hid (backS rs lo q ⟨jj.first,jj.last,true⟩ (followS F p.last whole.first)=fin):=HX1
       clear HX1
       go_wp2
       go_roundg q
       case measure=>rw [HM2.out];omega
       case rel=>exact ⟨q,⟨jj.first,jj.last,true⟩,followS F p.last whole.first,rfl,rfl,by omega,HX2.out,HJX.out true,HSX.out.1,HSX.out.2,(HSTEP.out true).1,(HSTEP.out true).2⟩
      | false =>
       have HX2:Hid (backS rs lo q ⟨jj.first,jj.last,decide (lo≤(q:Int))⟩ (followS F p.last whole.first)=fin):=HNX.out _ (by simp)
       go_wp2
       go_roundg q
       case measure=>rw [HM2.out];omega
       case rel=>exact ⟨q,⟨jj.first,jj.last,decide (lo≤(q:Int))⟩,followS F p.last whole.first,rfl,rfl,by omega,HX2.out,HJX.out _,HSX.out.1,HSX.out.2,(HSTEP.out _).1,(HSTEP.out _).2⟩
end
theorem write_rnd (M:List Nd) (gn cn i k jl:Nat) (lo hi:Int) (hhi:hi = -1∨(1≤hi∧hi≤9)) (b:Nt) (hi':M[i]? = some ⟨3,0,jl,0,lo,hi⟩) (hM:M.length≤10000) (hb:WriteOk M (.slice (some ⟨gn,0,none⟩) M.length cn) b jl k):WriteOk M (.slice (some ⟨gn,0,none⟩) M.length cn) (.rnd lo hi b) i k:=by
 intro R sv fv W n w h hW hn
 have hil:=(List.getElem?_eq_some_iff.1 hi').1
 obtain ⟨m0,m1,m2,m3,m4,m5⟩:=h.node hi'
 have c0:=h.wr.c0
 have hlt:=h.wr.lt
 have hgl:=h.nd.lt gn rfl
 have hsl:=h.wr.so.lt
 have hfl:=h.wr.fo.lt
 have HSB:Hid (∀b,w.heap.size≤b→¬sv.ownBlock=some b):=fun b hb e=>by have:=(hsl b e).2;omega
 have HFB:Hid (∀b,w.heap.size≤b→¬fv.ownBlock=some b):=fun b hb e=>by have:=(hfl b e).2;omega
 simp only [Nt.lenN] at hn
 have HE:Hid (hi = -1→∀W',Nw w W'→Calls Tryz.prog 98 #[.pointer (some ⟨R,0,none⟩),ndV ⟨3,0,jl,0,lo,hi⟩] W' (WrPost W' R (.slice (some ⟨gn,0,none⟩) M.length cn) sv fv (wrS (.rnd lo hi b) k W).1 (wrS (.rnd lo hi b) k W).2.1 (wrS (.rnd lo hi b) k W).2.2)):=by
  intro e W' kW
  subst e
  exact endless_any M gn cn k jl lo b hb R sv fv W n W' (h.nw kW) hW (by simpa using hn)
 have HC:Hid (1≤hi∧hi≤9→∀W',Nw w W'→Calls Tryz.prog 99 #[.pointer (some ⟨R,0,none⟩),ndV ⟨3,0,jl,0,lo,hi⟩] W' (WrPost W' R (.slice (some ⟨gn,0,none⟩) M.length cn) sv fv (wrS (.rnd lo hi b) k W).1 (wrS (.rnd lo hi b) k W).2.1 (wrS (.rnd lo hi b) k W).2.2)):=by
  intro e W' kW
  exact counted_any M gn cn k jl lo hi e.1 e.2 b hb R sv fv W n W' (h.nw kW) hW (by rw [if_neg (show ¬hi = -1 by omega)] at hn;exact hn)
 generalize (wrS (.rnd lo hi b) k W).1=pp at *
 generalize (wrS (.rnd lo hi b) k W).2.1=SS at *
 generalize (wrS (.rnd lo hi b) k W).2.2=FF at *
 have n0:¬R=w.heap.size:=by omega
 have n1:¬gn=w.heap.size:=by omega
 clear h hsl hfl hW hn hb
 simp only at m0 m1 m2 m3 m4 m5
 unfold ndV at *
 have hend:∀w1 sv1 fv1,WrM w1 R (.slice (some ⟨gn,0,none⟩) M.length cn) sv1 fv1 SS FF→Kp (WSp R sv fv) ((w.alloc (.cells #[.int .i64 0,.int .i64 0,.bool false] 159)).alloc (.cells #[.int .i64 3,.int .i64 0,.int .i64 jl,.int .i64 0,.int .i64 lo,.int .i64 hi] 186)) w1→NewB ((w.alloc (.cells #[.int .i64 0,.int .i64 0,.bool false] 159)).alloc (.cells #[.int .i64 3,.int .i64 0,.int .i64 jl,.int .i64 0,.int .i64 lo,.int .i64 hi] 186)) sv sv1→NewB ((w.alloc (.cells #[.int .i64 0,.int .i64 0,.bool false] 159)).alloc (.cells #[.int .i64 3,.int .i64 0,.int .i64 jl,.int .i64 0,.int .i64 lo,.int .i64 hi] 186)) fv fv1→PtAt w1 w.heap.size ⟨0,0,false⟩∧WrPost w R (.slice (some ⟨gn,0,none⟩) M.length cn) sv fv pp SS FF (.returned (partV pp)) (setP w1 w.heap.size pp):=by
  intro w1 sv1 fv1 hm1 k1 b1 b2
  refine ⟨?_,wr_fin hlt hm1 ((((Kp.refl _ w).alloc _).alloc _).trans k1) (b1.of (Nat.le_of_lt (two_lt _ _ _))) (b2.of (Nat.le_of_lt (two_lt _ _ _))) (b1.not (HSB.out _ (Nat.le_refl _)) (two_lt _ _ _)) (b2.not (HFB.out _ (Nat.le_refl _)) (two_lt _ _ _))⟩
  have p0:=PtAt.new w ⟨0,0,false⟩ 159 (B:=w.heap.size) rfl
  exact (p0.kp ((Kp.refl (fun _=>False) _).alloc _) (fun h=>h)).kp k1 (nWS (fun e=>n0 e.symm) (HSB.out _ (Nat.le_refl _)) (HFB.out _ (Nat.le_refl _)))
 have HEND:=hend
 have HEND:Hid _:=hend
 clear hend
 rcases hhi with he|hc
 ·have g1:(hi == -1)=true:=by simp [he]
  have HE2:=HE.out he
  have HE3:Hid (∀W',Nw w W'→Calls Tryz.prog 98 #[.pointer (some ⟨R,0,none⟩),.agg #[.int .i64 3,.int .i64 0,.int .i64 jl,.int .i64 0,.int .i64 lo,.int .i64 hi]] W' (WrPost W' R (.slice (some ⟨gn,0,none⟩) M.length cn) sv fv pp SS FF)):=HE2
  clear he HE HC HE2
  go_enter Tryz.func70,Tryz.ntmps70
  go_wp2_with fail
  refine (HE3.out _ (((Kp.refl _ w).alloc _).alloc _)).mono ?_
  rintro e w1 ⟨sv1,fv1,rfl,hm1,k1,b1,b2⟩
  obtain ⟨P1,FIN⟩:=HEND.out w1 sv1 fv1 hm1 k1 b1 b2
  have HP:Hid (PtAt w1 w.heap.size ⟨0,0,false⟩):=P1
  have HF:Hid (WrPost w R (.slice (some ⟨gn,0,none⟩) M.length cn) sv fv pp SS FF (.returned (partV pp)) (setP w1 w.heap.size pp)):=FIN
  obtain ⟨q0,q1,q2,qz⟩:=P1
  clear hm1 k1 b1 b2 m0 m1 m2 m3 m4 m5 c0 FIN
  unfold partV
  go_wp2
  refine bodyPost_ret (results_cX Tryz.results70 _ _ _ ⟨w.heap.size,0,none⟩ rfl _ (HP.out.set pp).load) rfl ?_
  exact HF.out
 ·have g1:(hi == -1)=false:=by simp;omega
  have HE2:=HC.out hc
  have HE3:Hid (∀W',Nw w W'→Calls Tryz.prog 99 #[.pointer (some ⟨R,0,none⟩),.agg #[.int .i64 3,.int .i64 0,.int .i64 jl,.int .i64 0,.int .i64 lo,.int .i64 hi]] W' (WrPost W' R (.slice (some ⟨gn,0,none⟩) M.length cn) sv fv pp SS FF)):=HE2
  clear hc HE HC HE2
  go_enter Tryz.func70,Tryz.ntmps70
  go_wp2_with fail
  refine (HE3.out _ (((Kp.refl _ w).alloc _).alloc _)).mono ?_
  rintro e w1 ⟨sv1,fv1,rfl,hm1,k1,b1,b2⟩
  obtain ⟨P1,FIN⟩:=HEND.out w1 sv1 fv1 hm1 k1 b1 b2
  have HP:Hid (PtAt w1 w.heap.size ⟨0,0,false⟩):=P1
  have HF:Hid (WrPost w R (.slice (some ⟨gn,0,none⟩) M.length cn) sv fv pp SS FF (.returned (partV pp)) (setP w1 w.heap.size pp)):=FIN
  obtain ⟨q0,q1,q2,qz⟩:=P1
  clear hm1 k1 b1 b2 m0 m1 m2 m3 m4 m5 c0 FIN
  unfold partV
  go_wp2
  refine bodyPost_ret (results_cX Tryz.results70 _ _ _ ⟨w.heap.size,0,none⟩ rfl _ (HP.out.set pp).load) rfl ?_
  exact HF.out
theorem write_all (T:Nt) (gn cn:Nat) (hT:T.size≤10000) (hops:T.Ops) (hreps:T.Reps):∀(u:Nt) (i m k:Nat),(T.subs 0 0)[i]? = some (u,m,k)→WriteOk (T.nd 0 0) (.slice (some ⟨gn,0,none⟩) (T.nd 0 0).length cn) u i k:=by
 have hM:(T.nd 0 0).length≤10000:=by rw [Nt.nd_length];exact hT
 have hnode:∀(i:Nat) (u:Nt) (m k:Nat),(T.subs 0 0)[i]? = some (u,m,k)→(T.nd 0 0)[i]? = some (u.root m k):=by
  intro i u m k h
  rw [Nt.nd_subs,List.getElem?_map,h];rfl
 intro u
 induction u with
 | one s =>
  intro i m k h
  exact write_one _ gn cn i k s (hnode i _ m k h) hM
 | two op l r hl hr =>
  intro i m k h
  have hok:=T.subs_ok 0 0 i _ m k h
  obtain ⟨sl,sr⟩:=hok.two op l r rfl
  have ho:=T.subs_ops 0 0 i _ m k hops h
  have hlp:=l.size_pos
  have hrp:=r.size_pos
  have e1:m+l.size - 1 - 0=m+l.size - 1:=by omega
  have e2:m+l.size+r.size - 1 - 0=m+l.size+r.size - 1:=by omega
  rw [e1] at sl
  rw [e2] at sr
  have hn:=hnode i _ m k h
  simp only [Nt.root] at hn
  have el:((m+l.size:Nat):Int) - 1=((m+l.size - 1:Nat):Int):=by omega
  have er:((m+l.size+r.size:Nat):Int) - 1=((m+l.size+r.size - 1:Nat):Int):=by omega
  rw [el,er] at hn
  exact write_two _ gn cn i k _ _ op ho.1 l r hn hM (hl _ _ _ sl) (hr _ _ _ sr)
 | rnd lo hi b hb =>
  intro i m k h
  have hok:=T.subs_ok 0 0 i _ m k h
  have sl:=hok.rnd lo hi b rfl
  have hbp:=b.size_pos
  have e1:m+b.size - 1 - 0=m+b.size - 1:=by omega
  rw [e1] at sl
  have hn:=hnode i _ m k h
  simp only [Nt.root] at hn
  have el:((m+b.size:Nat):Int) - 1=((m+b.size - 1:Nat):Int):=by omega
  rw [el] at hn
  exact write_rnd _ gn cn i k _ lo hi (T.subs_reps 0 0 i _ m k hreps h).1 b hn hM (hb _ _ _ sl)
end Go.Proofs.YtcboiapggnmpfaaGreatDoor
