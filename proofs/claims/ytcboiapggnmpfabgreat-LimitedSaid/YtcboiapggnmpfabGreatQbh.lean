import Derived.Test.YtcboiapggnmpfabGreatQbg
namespace Go.Proofs.YtcboiapggnmpfabGreat
set_option linter.unusedSimpArgs false
set_option linter.unusedVariables false
open Go.RowKit
theorem range_cells {w w':World} {R o:Nat} {cs:List Value} (h:w.rangeAt R o cs) (hc:∀p,o≤p→p<o+cs.length→w'.cell? ⟨R,p,none⟩=w.cell? ⟨R,p,none⟩):w'.rangeAt R o cs:=by
 intro j v hv
 have hj:=(List.getElem?_eq_some_iff.1 hv).1
 rw [hc (o+j) (by omega) (by omega)]
 exact h j v hv
theorem StM.waited {w w':World} {R g cap:Nat} {l:List In} {hand:Nmb} {fr:Thr} {turn gb:Nat} {ov wv ev wv':Value} {s:Tn} {c:Crw} (h:StM w R g cap l hand fr turn gb ov wv ev s) (hc:CrM w' R 37 (R+1) wv' c) (f:CrFr R 37 wv wv' w w') :
  StM w' R g cap l hand fr turn gb ov wv' ev { s with wait:=c }:=by
 have hl:=h.lt
 have hg:=h.hg
 have hgb:=h.hgb
 have nw:∀b,wv.ownBlock=some b→R+1≤b:=fun b hb=>(h.wait.own.lt b hb).1
 refine ⟨(f.c 0 (by omega) (by omega)).trans h.cod,range_cells h.hnd (fun p _ hp=>f.c p (by simp [nmC] at hp;omega) (by simp [nmC] at hp;omega)),range_cells h.frm (fun p _ hp=>f.c p (by rw [thC_len] at hp;omega) (by rw [thC_len] at hp;omega)),(f.c 34 (by omega) (by omega)).trans h.tun,(f.c 35 (by omega) (by omega)).trans h.rch,(f.c 36 (by omega) (by omega)).trans h.opn,hc,⟨(f.c 40 (by omega) (by omega)).trans h.ended.c0,(f.c 41 (by omega) (by omega)).trans h.ended.c1,(f.c 42 (by omega) (by omega)).trans h.ended.c2,hc.z,owns_kp h.ended.own f.kp ?_,h.ended.lt⟩,hc.z,h.row.kp f.kp ?_,h.vis.kp f.kp ?_,owns_kp h.own f.kp ?_,?_,h.hg,h.hgb,h.ne,h.vl⟩
 ·rintro b hb (e|e)
  ·have:=(h.ended.own.lt b hb).1;omega
  ·exact h.ap b e hb
 ·rintro (e|e)
  ·omega
  ·have:=nw g e;omega
 ·rintro (e|e)
  ·exact hgb e
  ·first|exact h.gbn.2.1 e|exact h.gbn.2.2 e
 ·rintro b hb (e|e)
  ·have:=(h.own.lt b hb).1;omega
  ·exact owns_ne h.own h.wait.own (by decide) b hb e
 ·intro b hb e
  rcases f.ow b hb with e2|e2
  ·exact h.ap b e2 e
  ·have:=(h.ended.own.lt b e).2;omega
theorem StM.endedd {w w':World} {R g cap:Nat} {l:List In} {hand:Nmb} {fr:Thr} {turn gb:Nat} {ov wv ev ev':Value} {s:Tn} {c:Crw} (h:StM w R g cap l hand fr turn gb ov wv ev s) (hc:CrM w' R 40 (R+1) ev' c) (f:CrFr R 40 ev ev' w w') :
  StM w' R g cap l hand fr turn gb ov wv ev' { s with ended:=c }:=by
 have hl:=h.lt
 have hg:=h.hg
 have hgb:=h.hgb
 have nw:∀b,ev.ownBlock=some b→R+1≤b:=fun b hb=>(h.ended.own.lt b hb).1
 refine ⟨(f.c 0 (by omega) (by omega)).trans h.cod,range_cells h.hnd (fun p _ hp=>f.c p (by simp [nmC] at hp;omega) (by simp [nmC] at hp;omega)),range_cells h.frm (fun p _ hp=>f.c p (by rw [thC_len] at hp;omega) (by rw [thC_len] at hp;omega)),(f.c 34 (by omega) (by omega)).trans h.tun,(f.c 35 (by omega) (by omega)).trans h.rch,(f.c 36 (by omega) (by omega)).trans h.opn,⟨(f.c 37 (by omega) (by omega)).trans h.wait.c0,(f.c 38 (by omega) (by omega)).trans h.wait.c1,(f.c 39 (by omega) (by omega)).trans h.wait.c2,hc.z,owns_kp h.wait.own f.kp ?_,h.wait.lt⟩,hc,hc.z,h.row.kp f.kp ?_,h.vis.kp f.kp ?_,owns_kp h.own f.kp ?_,?_,h.hg,h.hgb,h.ne,h.vl⟩
 ·rintro b hb (e|e)
  ·have:=(h.wait.own.lt b hb).1;omega
  ·exact h.ap b hb e
 ·rintro (e|e)
  ·omega
  ·have:=nw g e;omega
 ·rintro (e|e)
  ·exact hgb e
  ·first|exact h.gbn.2.1 e|exact h.gbn.2.2 e
 ·rintro b hb (e|e)
  ·have:=(h.own.lt b hb).1;omega
  ·exact owns_ne h.own h.ended.own (by decide) b hb e
 ·intro b hb e
  rcases f.ow b e with e2|e2
  ·exact h.ap b hb e2
  ·have:=(h.wait.own.lt b hb).2;omega
abbrev KR (R gb:Nat) (w w':World):Prop:=Kp (fun b=>R≤b∨b=gb) w w'
theorem KR.of_kf {R gb:Nat} {ov ov':Value} {w w':World} (k:KF R gb ov ov' w w') (hb:∀b,ov.ownBlock=some b→R≤b):KR R gb w w':=by
 refine k.kp.mono ?_
 rintro b _ (e|e|e)
 ·left;show R≤b;omega
 ·exact Or.inr e
 ·exact Or.inl (hb b e)
theorem KR.of_cr {R gb o:Nat} {v v':Value} {w w':World} (k:CrFr R o v v' w w') (hb:∀b,v.ownBlock=some b→R≤b):KR R gb w w':=by
 refine k.kp.mono ?_
 rintro b _ (e|e)
 ·left;show R≤b;omega
 ·exact Or.inl (hb b e)
theorem KR.of_nw {R gb:Nat} {w w':World} (k:Nw w w'):KR R gb w w':=k.mono (fun _ _ h=>h.elim)
def LvPost (w:World) (R g cap:Nat) (l:List In) (hand:Nmb) (fr:Thr) (turn gb:Nat) (s:Tn) (e:Ending) (w':World):Prop :=
 e=.returned (.tuple #[])∧∃ov wv ev,StM w' R g cap l hand fr turn gb ov wv ev s∧KR R gb w w'
end Go.Proofs.YtcboiapggnmpfabGreat
