import Derived.Test.YtcboiapggnmpfabGreatQby
import Derived.Test.YtcboiapggnmpfabGreatRows
import Derived.JoinedOf
import Derived.KernelRfl
import Derived.Deep.MidRow
import Derived.ProofKit
import Derived.ChangeSlices
import Derived.SizedLaws
import Derived.Deep.Slices
import Derived.OpenShut
import Derived.Test.YtcboiapggnmpfabGreatQca
import Derived.Test.YtcboiapggnmpfabGreatQag
namespace Go.Proofs.YtcboiapggnmpfabGreat
set_option maxRecDepth 100000
set_option maxHeartbeats 1600000
set_option linter.unusedSimpArgs false
set_option linter.unusedVariables false
section
open Go.ChangeShapes Go.WideShapes Go.ChangeAt Go.RowKit Go.Deep
theorem Tryz.tlaid:laidOutB Tryz.prog=true:=by kernel_rfl
theorem Tryz.town:ownKnob Tryz.prog.godebug=none:=by kernel_rfl
theorem Tryz.tb4:Tryz.prog.underlying 4=some .bool:=by kernel_rfl
theorem Tryz.ti3:Tryz.prog.underlying 3=some (.int .i64):=by kernel_rfl
theorem Tryz.ts22:Tryz.prog.underlying 22=some (.slice 3):=by kernel_rfl
theorem Tryz.tc3:Tryz.prog.cellsOf 3=1:=by kernel_rfl
theorem in64_wf {n:Int} (h:(Lit.int .i64 n).wf=true):In64 n:=by
 simp [Lit.wf,IntKind.min,IntKind.max,IntKind.signed,IntKind.bits] at h
 unfold In64
 omega
theorem nums_open {H:Type} {enc:TypeId×Value→H} {W:World} {held:Bool} {a0:Option Addr} {len cap:Nat} {d:DataW H} {ps:List MemPlace} (h:DataW.Trod enc Tryz.prog W 0 (fun _=>true) held 22 (.slice a0 len cap) d ps) :
  ∃ns:List Int,ns.length=len∧NumsP W a0 ns∧(∀n∈ns,In64 n)∧ns.length≤maxLen:=by
 obtain ⟨fuel,hf⟩:=h
 rcases open_ints Tryz.ts22 Tryz.ti3 Tryz.tc3 hf with ⟨hcs,_⟩ | ⟨a,len',cap',zs,hcs,_,hl,hm,hz,_,hcell,hwf⟩
 ·simp [Value.cells] at hcs
  obtain ⟨rfl,rfl,rfl⟩:=hcs
  exact ⟨[],rfl,fun h=>absurd rfl h,fun n hn=>by simp at hn,by simp⟩
 ·simp [Value.cells] at hcs
  obtain ⟨rfl,rfl,rfl⟩:=hcs
  simp only [if_true] at hz
  have hlen:(zs.take len).length=len:=by rw [List.length_take];omega
  refine ⟨zs.take len,hlen,?_,fun n hn=>in64_wf (hwf n (List.mem_of_mem_take hn)),by rw [hlen];omega⟩
  intro hne
  have h0:0<len:=by
   rcases Nat.eq_zero_or_pos len with e|e
   ·exact absurd (List.eq_nil_of_length_eq_zero (by rw [hlen];exact e)) hne
   ·exact e
  obtain ⟨b,off,spot⟩:=a
  have h00:=hcell 0 (by omega)
  have hspot:spot=none:=by simpa [Addr.add] using World.cell?_spot h00
  subst hspot
  have hadd:∀i:Nat,((⟨b,off,none⟩:Addr).add i)=⟨b,off+i,none⟩:=fun i=>by rw [Addr.add_mid]
  refine ⟨b,off,rfl,?_,?_⟩
  ·rw [hadd] at h00
   exact World.block_lt_of_cell? W ⟨b,off+0,none⟩ h00
  ·intro i n hi
   have hil:i<len:=by have:=(List.getElem?_eq_some_iff.1 hi).1;rwa [hlen] at this
   rw [List.getElem?_take_of_lt hil] at hi
   have:=hcell i (by omega)
   rw [hadd] at this
   rw [this]
   simp [List.getD,hi]
end
section
open Go.ChangeShapes Go.WideShapes Go.ChangeAt Go.RowKit Go.Deep
theorem trimmed_lifted (os:Os) (started:os.Started) (H:Type) (enc:TypeId×Value→H) :
  ReturnsInHanded {} Tryz.checked os 8 .any (Rows.trimmedSpec.pre6 enc Tryz.prog Tryz.f8 Rows.trimmedRow.domain false) (Rows.trimmedSpec.post enc Tryz.prog Tryz.f8 false true false false):=by
 refine returnsInHanded_of_change_sized (C:=Tryz.checked) Tryz.town started (by kernel_rfl) Tryz.func8
  (ChangeSpec.witness6 (enc:=enc) (C:=Tryz.checked) false ⟨#[],#[.slice none 0 0,.int .i64 0],[]⟩ 8 (by kernel_rfl) (by kernel_rfl) (by kernel_rfl) (by kernel_rfl)) ?_
 intro W base args ds gs before hval0 hW _ hsz0 _
 clear hsz0
 have hval:∀(j:Nat) t v,Tryz.f8.params[j]? = some t→args[j]? = some v→Value.okWide Tryz.prog W .any base t v:=hval0
 have hW':=hW
 obtain ⟨p,q,hA0,hV,rfl,hfz,_⟩:=hW
 have hA:DataW.TrodAll enc Tryz.prog W 0 (fun _=>true) true Tryz.f8.params.toList args.toList ds p:=hA0
 rw [Tryz.params8] at hA hval
 obtain ⟨v1,vs1,d1,ds1,p1,q1,hargs,rfl,rfl,h1,k1⟩:=trodAll_cons hA
 obtain ⟨v2,vs2,d2,ds2,p2,q2,rfl,rfl,rfl,h2,k2⟩:=trodAll_cons k1
 obtain ⟨rfl,rfl,rfl⟩:=trodAll_nil k2
 have hargs2:args=#[v1,v2]:=by cases args;simp_all
 subst hargs2
 obtain ⟨rfl,rfl⟩:=trodVars_none hV
 obtain ⟨a1,len1,cap1,rfl⟩:=okWide_slice Tryz.ts22 (hval 0 22 v1 rfl rfl)
 obtain ⟨n2,rfl,rfl,rfl,w2⟩:=open_int Tryz.ti3 (hval 1 3 v2 rfl rfl) h2
 clear hA0 hval0 hA hval
 obtain ⟨ns,e1,hp1,hn1,hm1⟩:=nums_open h1
 subst e1
 simp only [List.append_nil,List.nil_append] at hW' hfz
 have hlt:∀x∈p1,x.block<W.heap.size:=fun x hx=>hW'.lt x (by simpa using hx)
 refine (trimmed_any a1 cap1 ns n2 W hp1 hn1 hm1 (in64_wf w2)).mono fun e W' ⟨he,hk⟩ => ?_
 subst he
 have hb:Below W.heap.size W W':=hk.toBelow (Nat.le_refl _) (fun _ h=>False.elim h)
 exact ⟨_,rfl,⟨_,_,_,[],_,[],hW',trodAll_mk1 (shut_bool Tryz.tb4 true),
  trodAll_cons_mk (Below.trod Tryz.tlaid (by kernel_rfl) (of_decide_eq_true (by kernel_rfl)) h1 hb hlt) (trodAll_mk1 (shut_int Tryz.ti3 w2)),rfl,hb.frame _,fun h=>by cases h⟩⟩
theorem trimmed_holds:Rows.TrimmedSaid :=
 OpenClaim.holds_of_wide 8 Tryz.f8 rfl rfl rfl rfl rfl rfl rfl ⟨rfl,rfl,rfl,rfl,rfl⟩ rfl rfl rfl rfl rfl (by kernel_rfl) Tryz.func8 trf_closed
  (of_decide_eq_true (by kernel_rfl)) (by unfold Func.isWrapper;first|(rw [if_pos (by decide +kernel)];kernel_rfl)|(rw [if_neg (by decide +kernel)];exact ⟨rfl,rfl⟩))
  (fun os started H enc _=>trimmed_lifted os started H enc)
#print axioms trimmed_holds
end
end Go.Proofs.YtcboiapggnmpfabGreat
