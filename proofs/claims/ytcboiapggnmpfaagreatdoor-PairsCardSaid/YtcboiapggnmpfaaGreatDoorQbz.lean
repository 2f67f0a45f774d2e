import Derived.Test.YtcboiapggnmpfaaGreatDoorQby
import Derived.Test.YtcboiapggnmpfaaGreatDoorQaf
import Derived.Test.YtcboiapggnmpfaaGreatDoorTie
import Derived.Test.YtcboiapggnmpfaaGreatDoorCards
import Derived.Deep.MidRow
import Derived.ProofKit
import Derived.ChangeSlices
import Derived.SizedLaws
import Derived.Deep.Slices
import Derived.OpenShut
import Derived.LaidMore
import Derived.SevenTiedAt
namespace Go.Proofs.YtcboiapggnmpfaaGreatDoor
set_option maxRecDepth 100000
set_option maxHeartbeats 1600000
set_option linter.unusedSimpArgs false
set_option linter.unusedVariables false
section
open Go.ChangeShapes Go.WideShapes Go.ChangeAt Go.RowKit Go.Deep
theorem Tryz.tlaid:laidOutB Tryz.prog=true:=by kernel_rfl
theorem Tryz.town:ownKnob Tryz.prog.godebug=none:=by kernel_rfl
theorem Tryz.tb4:Tryz.prog.underlying 4=some .bool:=by kernel_rfl
theorem Tryz.ti3:Tryz.prog.underlying 3=some (.int .i64):=by kernel_rfl
theorem Tryz.ts22:Tryz.prog.underlying 22=some (.slice 3):=by kernel_rfl
theorem Tryz.tc3:Tryz.prog.cellsOf 3=1:=by kernel_rfl
theorem in64_wf {n:Int} (h:(Lit.int .i64 n).wf=true):In64 n:=by
 simp [Lit.wf,IntKind.min,IntKind.max,IntKind.signed,IntKind.bits] at h
 unfold In64
 omega
theorem nums_open {H:Type} {enc:TypeId×Value→H} {W:World} {held:Bool} {a0:Option Addr} {len cap:Nat} {d:DataW H} {ps:List MemPlace} (h:DataW.Trod enc Tryz.prog W 0 (fun _=>true) held 22 (.slice a0 len cap) d ps) :
  ∃ns:List Int,ns.length=len∧NumsP W a0 ns∧(∀n∈ns,In64 n)∧ns.length≤maxLen:=by
 obtain ⟨fuel,hf⟩:=h
 rcases open_ints Tryz.ts22 Tryz.ti3 Tryz.tc3 hf with ⟨hcs,_⟩ | ⟨a,len',cap',zs,hcs,_,hl,hm,hz,_,hcell,hwf⟩
 ·simp [Value.cells] at hcs
  obtain ⟨rfl,rfl,rfl⟩:=hcs
  exact ⟨[],rfl,fun h=>absurd rfl h,fun n hn=>by simp at hn,by simp⟩
 ·simp [Value.cells] at hcs
  obtain ⟨rfl,rfl,rfl⟩:=hcs
  simp only [if_true] at hz
  have hlen:(zs.take len).length=len:=by rw [List.length_take];omega
  refine ⟨zs.take len,hlen,?_,fun n hn=>in64_wf (hwf n (List.mem_of_mem_take hn)),by rw [hlen];omega⟩
  intro hne
  have h0:0<len:=by
   rcases Nat.eq_zero_or_pos len with e|e
   ·exact absurd (List.eq_nil_of_length_eq_zero (by rw [hlen];exact e)) hne
   ·exact e
  obtain ⟨b,off,spot⟩:=a
  have h00:=hcell 0 (by omega)
  have hspot:spot=none:=by simpa [Addr.add] using World.cell?_spot h00
  subst hspot
  have hadd:∀i:Nat,((⟨b,off,none⟩:Addr).add i)=⟨b,off+i,none⟩:=fun i=>by rw [Addr.add_mid]
  refine ⟨b,off,rfl,?_,?_⟩
  ·rw [hadd] at h00
   exact World.block_lt_of_cell? W ⟨b,off+0,none⟩ h00
  ·intro i n hi
   have hil:i<len:=by have:=(List.getElem?_eq_some_iff.1 hi).1;rwa [hlen] at this
   rw [List.getElem?_take_of_lt hil] at hi
   have:=hcell i (by omega)
   rw [hadd] at this
   rw [this]
   simp [List.getD,hi]
theorem door_met (os:Os) (args:Array Value):laidMetH Tryz.prog Rows.pairsRow.laid ((World.doorLaid Tryz.prog 400 os).forCall (fun _ _=>0) ⟨#[],args,[]⟩).memory :=
 laidMetH_of_parts3 (fuel:=8) (laidMet_of_run' 8 (by kernel_rfl) (by kernel_rfl)) (by kernel_rfl) (by kernel_rfl)
theorem pairs_lifted (os:Os) (started:os.Started) (H:Type) (enc:TypeId×Value→H) :
  ReturnsInHanded {} Tryz.checked os 3 .any (fun w args=>(Rows.pairsSpec.pre enc Tryz.prog Tryz.f3 [] false w args∧laidMetH Tryz.prog Rows.pairsRow.laid w)∧sizedMet enc Tryz.prog Tryz.f3 (OpenSpec.ofChange Rows.pairsSpec) false w args) (Rows.pairsSpec.post enc Tryz.prog Tryz.f3 false true false false):=by
 refine returnsInHanded_of_change_and (C:=Tryz.checked) (X:=fun w _=>laidMetH Tryz.prog Rows.pairsRow.laid w) (fun _ _ _ hh h=>h.of_heap hh) Tryz.town started (by kernel_rfl) Tryz.func3
  (ChangeSpec.witness_shaped (enc:=enc) (C:=Tryz.checked) (os:=os) (X:=fun w _=>laidMetH Tryz.prog Rows.pairsRow.laid w) false (World.doorLaid Tryz.prog 400 os) #[.slice none 0 0,.int .i64 0,.int .i64 0] 8 rfl (World.shaped_of_RefB (by kernel_rfl) (by kernel_rfl)) (by kernel_rfl) (by kernel_rfl) (by kernel_rfl) (door_met os _)) ?_
 intro W base args ds gs before hval0 hW _ _ hL _
 have hval:∀(j:Nat) t v,Tryz.f3.params[j]? = some t→args[j]? = some v→Value.okWide Tryz.prog W .any base t v:=hval0
 have hW':=hW
 obtain ⟨p,q,hA0,hV,rfl,hfz,_⟩:=hW
 have hA:DataW.TrodAll enc Tryz.prog W 0 (fun _=>true) true Tryz.f3.params.toList args.toList ds p:=hA0
 rw [Tryz.params3] at hA hval
 obtain ⟨v1,vs1,d1,ds1,p1,q1,hargs,rfl,rfl,h1,k1⟩:=trodAll_cons hA
 obtain ⟨v2,vs2,d2,ds2,p2,q2,rfl,rfl,rfl,h2,k2⟩:=trodAll_cons k1
 obtain ⟨v3,vs3,d3,ds3,p3,q3,rfl,rfl,rfl,h3,k3⟩:=trodAll_cons k2
 obtain ⟨rfl,rfl,rfl⟩:=trodAll_nil k3
 have hargs2:args=#[v1,v2,v3]:=by cases args;simp_all
 subst hargs2
 obtain ⟨rfl,rfl⟩:=trodVars_none hV
 obtain ⟨a1,len1,cap1,rfl⟩:=okWide_slice Tryz.ts22 (hval 0 22 v1 rfl rfl)
 obtain ⟨n2,rfl,rfl,rfl,w2⟩:=open_int Tryz.ti3 (hval 1 3 v2 rfl rfl) h2
 obtain ⟨n3,rfl,rfl,rfl,w3⟩:=open_int Tryz.ti3 (hval 2 3 v3 rfl rfl) h3
 clear hA0 hval0 hA hval
 obtain ⟨ns,e1,hp1,hn1,hm1⟩:=nums_open h1
 subst e1
 simp only [List.append_nil,List.nil_append] at hW' hfz
 have hlt:∀x∈p1,x.block<W.heap.size:=fun x hx=>hW'.lt x (by simpa using hx)
 refine (pairs_any a1 cap1 ns n2 n3 W hp1 hn1 hm1 (in64_wf w2) (in64_wf w3)).mono fun e W' ⟨he,hk⟩ => ?_
 subst he
 have hb:Below W.heap.size W W':=hk.toBelow (Nat.le_refl _) (fun _ h=>False.elim h)
 exact ⟨_,rfl,⟨_,_,_,[],_,[],hW',trodAll_mk1 (shut_bool Tryz.tb4 true),
  trodAll_cons_mk (Below.trod Tryz.tlaid (by kernel_rfl) (of_decide_eq_true (by kernel_rfl)) h1 hb hlt) (trodAll_cons_mk (shut_int Tryz.ti3 w2) (trodAll_mk1 (shut_int Tryz.ti3 w3))),rfl,hb.frame _,fun h=>by cases h⟩⟩
theorem pairs_row:Rows.PairsSaid :=
 OpenClaim.holds_of_wide 3 Tryz.f3 rfl rfl rfl rfl rfl rfl rfl ⟨rfl,rfl,rfl,rfl,rfl⟩ rfl rfl rfl rfl rfl (by kernel_rfl) Tryz.func3 paf_closed
  (of_decide_eq_true (by kernel_rfl)) (by unfold Func.isWrapper;first|(rw [if_pos (by decide +kernel)];kernel_rfl)|(rw [if_neg (by decide +kernel)];exact ⟨rfl,rfl⟩))
  (fun os started H enc _=>pairs_lifted os started H enc)
theorem pairs_holds:Rows.PairsCardSaid :=
 Claim7.holds_tied_plain_at .later [] [.data,.data,.data] true (true,"95c384d7a176df5f31d4cabd06160b882797de60e421ecd4d3403d4df1210a3b") false
  pairs_row (fun _ h=>by cases h) (by kernel_rfl) (fun _ h=>by cases h) pairs_row_tie rfl ⟨rfl,rfl⟩ (by kernel_rfl) rfl
  (fun f fn hf hfn=>by
   obtain rfl:f=3:=Option.some.inj ((show Tryz.prog.funcNamed "spotter/spotterkeep.Pairs" = some 3 by kernel_rfl).symm.trans hf) |>.symm
   obtain rfl:fn=Tryz.f3:=(Option.some.inj (Tryz.func3.symm.trans hfn)).symm
   exact ⟨by kernel_rfl,fun j t ht=>by
    rw [Tryz.params3] at ht
    have hm:t∈[22,3,3]:=by simpa using Array.mem_of_getElem? ht
    have hall:([22,3,3].all fun u => !Tryz.prog.wantsStandIn u)=true:=by kernel_rfl
    exact (show Tryz.prog.wantsStandIn t=false by simpa using List.all_eq_true.1 hall t hm)⟩)
  (by kernel_rfl)
#print axioms pairs_holds
end
end Go.Proofs.YtcboiapggnmpfaaGreatDoor
