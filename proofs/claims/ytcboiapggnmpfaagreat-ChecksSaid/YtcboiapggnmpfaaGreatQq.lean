/- Walks: check: what each part adds. -/
import Derived.Test.YtcboiapggnmpfaaGreatQp
import Derived.Test.YtcboiapggnmpfaaGreatQk
namespace Go.Proofs.YtcboiapggnmpfaaGreat
open Go.RowKit
set_option linter.unusedSimpArgs false
set_option linter.unusedVariables false

/-- Its joints are 'then' or 'or'. -/
def Nt.Ops : Nt → Prop
  | .one _ => True
  | .two op l r => (op = 1 ∨ op = 2) ∧ l.Ops ∧ r.Ops
  | .rnd _ _ b => b.Ops
theorem Nt.subs_ops : ∀ (t : Nt) (n st i : Nat) (u : Nt) (m k : Nat), t.Ops → (t.subs n st)[i]? = some (u, m, k) → u.Ops := by
  intro t
  induction t with
  | one s =>
    intro n st i u m k h hi
    have := List.mem_of_getElem? hi
    simp [Nt.subs] at this
    obtain ⟨rfl, _⟩ := this; exact h
  | two op l r hl hr =>
    intro n st i u m k h hi
    have := List.mem_of_getElem? hi
    simp only [Nt.subs, List.mem_append, List.mem_singleton] at this
    rcases this with h1 | h1 | h1
    · obtain ⟨j, hj⟩ := List.mem_iff_getElem?.1 h1; exact hl _ _ j u m k h.2.1 hj
    · obtain ⟨j, hj⟩ := List.mem_iff_getElem?.1 h1; exact hr _ _ j u m k h.2.2 hj
    · simp only [Prod.mk.injEq] at h1; obtain ⟨rfl, _⟩ := h1; exact h
  | rnd lo hi b hb =>
    intro n st i u m k h hi
    have := List.mem_of_getElem? hi
    simp only [Nt.subs, List.mem_append, List.mem_singleton] at this
    rcases this with h1 | h1
    · obtain ⟨j, hj⟩ := List.mem_iff_getElem?.1 h1; exact hb _ _ j u m k h hj
    · simp only [Prod.mk.injEq] at h1; obtain ⟨rfl, _⟩ := h1; exact h
theorem heldsC_set {abs : List (Nat × Nat)} {i : Nat} (hi : i < abs.length) (a b : Nat) : ((heldsC abs).set (i * 2) (.int .i64 a)).set (i * 2 + 1) (.int .i64 b) = heldsC (abs.set i (a, b)) := by
  obtain ⟨x, hx⟩ : ∃ x, abs[i]? = some x := ⟨abs[i], by simp [hi]⟩
  obtain ⟨p, q, e1, e2, hp⟩ := helds_split hx (a, b)
  rw [e1, e2]
  have hl : (heldsC p).length = i * 2 := by rw [heldsC_length, hp]
  rw [List.set_append_right _ _ (by omega), hl, List.set_append_right _ _ (by omega), hl]
  have : i * 2 + 1 - i * 2 = 1 := by omega
  rw [this, Nat.sub_self]
  rfl
theorem Row.heldSet {w : World} {g i : Nat} {e : TypeId} {abs : List (Nat × Nat)} (h : Row w g e (heldsC abs)) (hi : i < abs.length) (a b : Nat) :
    Row ((w.setCell ⟨g, i * 2, none⟩ (.int .i64 a)).setCell ⟨g, i * 2 + 1, none⟩ (.int .i64 b)) g e (heldsC (abs.set i (a, b))) := by
  rw [← heldsC_set hi]; exact (h.set _ _).set _ _
theorem pat_at (w : World) (t : TypeId) (a b c d : Value) {B : Nat} (hB : B = w.heap.size) : PAt (w.alloc (.cells #[a, b, c, d] t)) B a b c d := by
  subst hB
  constructor <;> simp [go_sem, World.cell?_alloc_at, World.frozen?_alloc_at]
/-- What addedByNodes answers. -/
def AddPost (t : Nt) (w : World) (e : Ending) (w' : World) : Prop :=
  ∃ (abs : List (Nat × Nat)) (g : Nat), e = .returned (.slice (some ⟨g, 0, none⟩) t.size t.size) ∧ Adds t t.size abs ∧ Row w' g 232 (heldsC abs) ∧ w.heap.size ≤ g ∧ Nw w w'
theorem owns_someX {w : World} {base size n : Nat} {e : TypeId} {v : Value} {xs : List Value} (h : w.ownsRow base e size v n xs) (hn : 0 < n) : ∃ g c, v = .slice (some ⟨g, 0, none⟩) n c := by
  rcases h.2 with ⟨_, h0⟩ | ⟨g, cap, cur, rfl, _⟩
  · omega
  · exact ⟨g, cap, rfl⟩
theorem Nt.steps_pos : ∀ t : Nt, 1 ≤ t.steps.length := by
  intro t
  induction t with
  | one s => simp [Nt.steps]
  | two op l r hl hr => simp [Nt.steps]; omega
  | rnd lo hi b hb => simpa [Nt.steps] using hb
set_option maxRecDepth 100000 in
set_option maxHeartbeats 1000000 in
theorem added_any (t : Nt) (nv sv : Value) (wb : Bool) (wi : Int) (L : List (St × Value)) (w : World) (h : PatM w nv sv (t.nd 0 0) L) (hL : L.map Prod.fst = t.steps) (hsz : t.size ≤ 10000) (hops : t.Ops) :
    Calls Tryz.prog 177 #[.agg #[nv, sv, .bool wb, .int .i64 wi]] w (AddPost t w) := by
  have hpos := t.size_pos
  obtain ⟨gn, cn, hnv⟩ := owns_someX h.nodes (by rw [Nt.nd_length]; exact hpos)
  obtain ⟨gs, cs, hsv⟩ := owns_someX h.steps (by have := congrArg List.length hL; have := t.steps_pos; simp at *; omega)
  subst hnv hsv
  have hbn := h.nodes.lt gn rfl
  have hbs := h.steps.lt gs rfl
  have hnl := t.nd_length 0 0
  have HP : Hid (PatM w (.slice (some ⟨gn, 0, none⟩) (t.nd 0 0).length cn) (.slice (some ⟨gs, 0, none⟩) L.length cs) (t.nd 0 0) L) := h
  have HL : Hid (L.map Prod.fst = t.steps) := hL
  have hLl : L.length ≤ 10000 := by have h1 := congrArg List.length hL; have h2 := t.steps_le; simp at h1; omega
  clear h hL
  rw [hnl]
  clear hnl
  obtain ⟨i0, hi0, hz0, hz1, hz2⟩ := info_parts Tryz.info232
  go_enter Tryz.func177, Tryz.ntmps177
  go_wp2_with (first | (at_make; refine wpList_make_full _ rfl _ _ 288 rfl (w.heap.size + 1) 232 i0 (.agg #[.int .i64 0, .int .i64 0]) 2 Tryz.underlying288 hi0 hz0 hz1 _ _ _ _ t.size rfl rfl ?a1 ?a2 ?b1 ?b2 ?b3 ?_) | fail)
  case a1 => omega
  case a2 => omega
  case b1 => first | omega | (rw [hz2]; omega)
  case b2 => unfold maxLen; omega
  case b3 => simp
  intro w1 hown1 hgrow1
  have hA := (pat_at w 107 (.slice (some ⟨gn, 0, none⟩) t.size cn) (.slice (some ⟨gs, 0, none⟩) L.length cs) (.bool wb) (.int .i64 wi) (B := w.heap.size) rfl)
  have kg : Kp (fun _ => False) (w.alloc (.cells #[.slice (some ⟨gn, 0, none⟩) t.size cn, .slice (some ⟨gs, 0, none⟩) L.length cs, .bool wb, .int .i64 wi] 107)) w1 := (Kp.refl _ _).grown hgrow1 (by intro k hk; cases hk)
  have PA1 : Hid (PAt w1 w.heap.size (.slice (some ⟨gn, 0, none⟩) t.size cn) (.slice (some ⟨gs, 0, none⟩) L.length cs) (.bool wb) (.int .i64 wi)) := hA.sm (kg.sm hA.lt (fun h => h))
  have R1 : Hid (Row w1 (w.heap.size + 1) 232 (heldsC (List.replicate t.size (0, 0)))) := by
    have := Row.of_fullS hown1
    rw [made_held] at this
    show Row _ _ _ _
    rw [helds_zero]
    simpa using this
  have K1 : Hid (Nw w w1) := ((Kp.refl _ w).alloc _).trans kg
  clear hown1 hgrow1 hA kg
  have hG : (w.alloc (.cells #[.slice (some ⟨gn, 0, none⟩) t.size cn, .slice (some ⟨gs, 0, none⟩) L.length cs, .bool wb, .int .i64 wi] 107)).heap.size = w.heap.size + 1 := by simp
  try rw [hG]
  clear hG
  go_wp2
  go_loopg [4] t.size (fun m v4 wr => ∃ (i : Nat) (abs : List (Nat × Nat)), v4 = .int .i64 i ∧ m = t.size - i ∧ i ≤ t.size ∧ Adds t i abs ∧ Row wr (w.heap.size + 1) 232 (heldsC abs) ∧ PAt wr w.heap.size (.slice (some ⟨gn, 0, none⟩) t.size cn) (.slice (some ⟨gs, 0, none⟩) L.length cs) (.bool wb) (.int .i64 wi) ∧ Nw w wr)
  case atStart => exact ⟨0, _, rfl, rfl, by omega, Adds.start t, R1.out, PA1.out, K1.out⟩
  case round =>
    obtain ⟨i, abs, rfl, hm, hi, hadd, hrow, hpa, hk⟩ := hrel
    have HA : Hid (Adds t i abs) := hadd
    have HR : Hid (Row wr (w.heap.size + 1) 232 (heldsC abs)) := hrow
    have HPA : Hid (PAt wr w.heap.size (.slice (some ⟨gn, 0, none⟩) t.size cn) (.slice (some ⟨gs, 0, none⟩) L.length cs) (.bool wb) (.int .i64 wi)) := hpa
    have HK : Hid (Nw w wr) := hk
    have HM : Hid (_ = t.size - i) := hm
    have hrl := hrow.lt
    obtain ⟨p0, p1, p2, p3, pz⟩ := hpa
    have HPW := HP.out.nw hk
    have y1 : w.heap.size < wr.heap.size := by omega
    have y3 : gn < wr.heap.size := by omega
    have y4 : gs < wr.heap.size := by omega
    by_cases hil : i < t.size
    · obtain ⟨u, m, k, hu⟩ : ∃ u m k, (t.subs 0 0)[i]? = some (u, m, k) := ⟨_, _, _, List.getElem?_eq_getElem (by rw [Nt.subs_length]; exact hil)⟩
      have hnd : (t.nd 0 0)[i]? = some (u.root m k) := by rw [Nt.nd_subs, List.getElem?_map, hu]; rfl
      obtain ⟨n0, n1, n2, n3, n4, n5⟩ := HPW.node hnd
      have hok := t.subs_ok 0 0 i u m k hu
      have huo := t.subs_ops 0 0 i u m k hops hu
      have HU : Hid ((t.subs 0 0)[i]? = some (u, m, k)) := hu
      clear hadd hrow hk hm hnd hu
      cases u with
      | one s =>
        have hks : t.steps[k]? = some s := by have := hok.steps 0 s rfl; simpa using this
        have hLk : ∃ v, L[k]? = some (s, v) := by
          have := HL.out
          have h2 : (L.map Prod.fst)[k]? = some s := by rw [this]; exact hks
          simp only [List.getElem?_map, Option.map_eq_some_iff] at h2
          obtain ⟨⟨s', v⟩, h3, rfl⟩ := h2
          exact ⟨v, h3⟩
        obtain ⟨tv, hLk⟩ := hLk
        have hkl : k < L.length := (List.getElem?_eq_some_iff.1 hLk).1
        obtain ⟨s0, s1, s2, s3⟩ := HPW.step hLk
        have HNM : Hid (s.name = nmT t k) := by show _ = _; simp [nmT, hks]
        simp only [Nt.root] at n0 n1 n2 n3 n4 n5
        have e0 := HR.out.cell (i * 2)
        have e1 := HR.out.cell (i * 2 + 1)
        obtain ⟨ab, hab⟩ : ∃ ab, abs[i]? = some ab := ⟨_, List.getElem?_eq_getElem (by rw [HA.out.len]; exact hil)⟩
        rw [← Nat.add_zero (i * 2), heldsC_get abs i 0 ab hab (by omega)] at e0
        rw [heldsC_get abs i 1 ab hab (by omega)] at e1
        simp only [heldC, List.getElem?_cons_zero, List.getElem?_cons_succ, Nat.add_zero] at e0 e1
        have ez : ∀ o, wr.frozen? ⟨w.heap.size + 1, o, none⟩ = false := HR.out.froz
        clear HPW hLk hks hok hab
        go_wp2_with (go_at_call 220; refine (only_any s.name _).mono ?_; rintro e9 w9 ⟨rfl, rfl⟩)
        go_roundg (t.size - (i + 1))
        case measure => rw [HM.out]; omega
        case rel =>
          have kk : Kp (fun b => b = w.heap.size + 1) wr ((((wr.setCell ⟨w.heap.size + 1, i * 2, none⟩ (.int .i64 (onlyN s.name : Nat))).setCell ⟨w.heap.size + 1, i * 2 + 1, none⟩ (.int .i64 (onlyN s.name : Nat))).alloc (.cells #[.int .i64 0, .int .i64 k, .int .i64 0, .int .i64 0, .int .i64 0, .int .i64 0] 286))) := (((Kp.refl (fun b => b = w.heap.size + 1) wr).setCell (p := ⟨w.heap.size + 1, i * 2, none⟩) (Or.inr rfl) _).setCell (p := ⟨w.heap.size + 1, i * 2 + 1, none⟩) (Or.inr rfl) _).alloc _
          refine ⟨i + 1, abs.set i (onlyN s.name, onlyN s.name), by simp, rfl, by omega, HA.out.set HU.out ?_, (HR.out.heldSet (by rw [HA.out.len]; exact hil) _ _).alloc _, HPA.out.sm (kk.sm y1 (by omega)), HK.out.trans' kk (by intro b hb e; omega)⟩
          rw [HNM.out]; exact AddIs.one _ _ _
      | two op l r =>
        obtain ⟨sl, sr⟩ := hok.two op l r rfl
        have hidx := hok.idx
        simp only [Nt.size] at hidx
        have hl1 := l.size_pos
        have hr1 := r.size_pos
        obtain ⟨jl, hjl⟩ : ∃ jl, jl = m + l.size - 1 := ⟨_, rfl⟩
        obtain ⟨jr, hjr⟩ : ∃ jr, jr = m + l.size + r.size - 1 := ⟨_, rfl⟩
        simp only [Nat.sub_zero] at sl sr
        rw [← hjl] at sl
        rw [← hjr] at sr
        simp only [Nt.root] at n0 n1 n2 n3 n4 n5
        have el : ((m + l.size : Nat) : Int) - 1 = jl := by omega
        have er : ((m + l.size + r.size : Nat) : Int) - 1 = jr := by omega
        rw [el] at n2
        rw [er] at n3
        have hli : jl < i := by omega
        have hri : jr < i := by omega
        obtain ⟨⟨a, b⟩, hab⟩ : ∃ ab, abs[jl]? = some ab := ⟨_, List.getElem?_eq_getElem (by rw [HA.out.len]; omega)⟩
        obtain ⟨⟨c, d⟩, hcd⟩ : ∃ ab, abs[jr]? = some ab := ⟨_, List.getElem?_eq_getElem (by rw [HA.out.len]; omega)⟩
        obtain ⟨ab, habi⟩ : ∃ ab, abs[i]? = some ab := ⟨_, List.getElem?_eq_getElem (by rw [HA.out.len]; exact hil)⟩
        have hcell : ∀ j x, abs[j]? = some x → wr.cell? ⟨w.heap.size + 1, j * 2, none⟩ = some (.int .i64 x.1) ∧ wr.cell? ⟨w.heap.size + 1, j * 2 + 1, none⟩ = some (.int .i64 x.2) := by
          intro j x hx
          refine ⟨?_, ?_⟩
          · rw [HR.out.cell, ← Nat.add_zero (j * 2), heldsC_get abs j 0 x hx (by omega)]; rfl
          · rw [HR.out.cell, heldsC_get abs j 1 x hx (by omega)]; rfl
        obtain ⟨e0, e1⟩ := hcell i ab habi
        obtain ⟨e2, e3⟩ := hcell jl _ hab
        obtain ⟨e4, e5⟩ := hcell jr _ hcd
        have ez : ∀ o, wr.frozen? ⟨w.heap.size + 1, o, none⟩ = false := HR.out.froz
        have AL : Hid (AddIs (nmT t) l k a b) := HA.out.ok jl l m k a b hli sl hab
        have AR : Hid (AddIs (nmT t) r (k + l.steps.length) c d) := HA.out.ok jr r _ _ c d hri sr hcd
        have ha := AL.out.maybe.lt
        have hb := AL.out.surely.lt
        have hc := AR.out.maybe.lt
        have hd := AR.out.surely.lt
        have hjl10 : jl < t.size := by omega
        have hjr10 : jr < t.size := by omega
        simp only [Nt.Ops] at huo
        have hop := huo.1
        clear HPW hok huo hab hcd habi sl sr hcell hjl hjr el er hidx hl1 hr1
        have HZ : Hid (∀ n o W, Nw ((wr.alloc o).drewN n) W → W.cell? ⟨w.heap.size + 1, i * 2, none⟩ = some (.int .i64 ab.1) ∧ W.cell? ⟨w.heap.size + 1, i * 2 + 1, none⟩ = some (.int .i64 ab.2) ∧ ∀ o, W.frozen? ⟨w.heap.size + 1, o, none⟩ = false) := by
          intro n o W kW
          have s9 := (((Kp.refl (fun _ => False) wr).alloc o).drewN n).trans kW
          exact ⟨(s9.cell hrl (fun h => h)).trans e0, (s9.cell hrl (fun h => h)).trans e1, fun o => (s9.frozen hrl (fun h => h)).trans (ez o)⟩
        have HW : Hid (∀ n o W (x y : Nat), Nw ((wr.alloc o).drewN n) W → Row ((W.setCell ⟨w.heap.size + 1, i * 2, none⟩ (.int .i64 x)).setCell ⟨w.heap.size + 1, i * 2 + 1, none⟩ (.int .i64 y)) (w.heap.size + 1) 232 (heldsC (abs.set i (x, y))) ∧ PAt ((W.setCell ⟨w.heap.size + 1, i * 2, none⟩ (.int .i64 x)).setCell ⟨w.heap.size + 1, i * 2 + 1, none⟩ (.int .i64 y)) w.heap.size (.slice (some ⟨gn, 0, none⟩) t.size cn) (.slice (some ⟨gs, 0, none⟩) L.length cs) (.bool wb) (.int .i64 wi) ∧ Nw w ((W.setCell ⟨w.heap.size + 1, i * 2, none⟩ (.int .i64 x)).setCell ⟨w.heap.size + 1, i * 2 + 1, none⟩ (.int .i64 y))) := by
          intro n o W x y kW
          have s9 := (((Kp.refl (fun _ => False) wr).alloc o).drewN n).trans kW
          have kk : Kp (fun b => b = w.heap.size + 1) wr ((W.setCell ⟨w.heap.size + 1, i * 2, none⟩ (.int .i64 x)).setCell ⟨w.heap.size + 1, i * 2 + 1, none⟩ (.int .i64 y)) := (((s9.mono (T := fun b => b = w.heap.size + 1) (fun _ _ h => h.elim))).setCell (p := ⟨w.heap.size + 1, i * 2, none⟩) (Or.inr rfl) _).setCell (p := ⟨w.heap.size + 1, i * 2 + 1, none⟩) (Or.inr rfl) _
          exact ⟨(HR.out.kp s9 (fun h => h)).heldSet (by rw [HA.out.len]; exact hil) _ _, HPA.out.sm (kk.sm y1 (by omega)), HK.out.trans' kk (by intro b hb e; omega)⟩
        rcases hop with rfl | rfl
        · go_wp2
          go_region_with ((go_at_call 178; refine (heldAnd_any a b c d _ ha hb hc hd).mono ?_; rintro e9 w9 ⟨rfl, k9⟩; obtain ⟨z0, z1, z2⟩ := HZ.out _ _ _ k9))
          all_goals
            obtain ⟨q1, q2, q3⟩ := HW.out _ _ _ (a ||| c) (b ||| d) k9
            have Q1 : Hid (Row ((w9.setCell ⟨w.heap.size + 1, i * 2, none⟩ (.int .i64 (a ||| c : Nat))).setCell ⟨w.heap.size + 1, i * 2 + 1, none⟩ (.int .i64 (b ||| d : Nat))) (w.heap.size + 1) 232 (heldsC (abs.set i (a ||| c, b ||| d)))) := q1
            have Q2 : Hid (PAt ((w9.setCell ⟨w.heap.size + 1, i * 2, none⟩ (.int .i64 (a ||| c : Nat))).setCell ⟨w.heap.size + 1, i * 2 + 1, none⟩ (.int .i64 (b ||| d : Nat))) w.heap.size (.slice (some ⟨gn, 0, none⟩) t.size cn) (.slice (some ⟨gs, 0, none⟩) L.length cs) (.bool wb) (.int .i64 wi)) := q2
            have Q3 : Hid (Nw w ((w9.setCell ⟨w.heap.size + 1, i * 2, none⟩ (.int .i64 (a ||| c : Nat))).setCell ⟨w.heap.size + 1, i * 2 + 1, none⟩ (.int .i64 (b ||| d : Nat)))) := q3
            clear q1 q2 q3 k9 z0 z1 z2 e0 e1 e2 e3 e4 e5 n0 n1 n2 n3 n4 n5
            go_wp2
            go_roundg (t.size - (i + 1))
            case measure => rw [HM.out]; omega
            case rel => exact ⟨i + 1, abs.set i (a ||| c, b ||| d), by simp, rfl, by omega, HA.out.set HU.out (AddIs.then AL.out AR.out), Q1.out, Q2.out, Q3.out⟩
        · go_wp2
          go_region_with ((go_at_call 221; refine (heldOr_any a b c d _ ha hb hc hd).mono ?_; rintro e9 w9 ⟨rfl, k9⟩; obtain ⟨z0, z1, z2⟩ := HZ.out _ _ _ k9))
          all_goals
            obtain ⟨q1, q2, q3⟩ := HW.out _ _ _ (a ||| c) (b &&& d) k9
            have Q1 : Hid (Row ((w9.setCell ⟨w.heap.size + 1, i * 2, none⟩ (.int .i64 (a ||| c : Nat))).setCell ⟨w.heap.size + 1, i * 2 + 1, none⟩ (.int .i64 (b &&& d : Nat))) (w.heap.size + 1) 232 (heldsC (abs.set i (a ||| c, b &&& d)))) := q1
            have Q2 : Hid (PAt ((w9.setCell ⟨w.heap.size + 1, i * 2, none⟩ (.int .i64 (a ||| c : Nat))).setCell ⟨w.heap.size + 1, i * 2 + 1, none⟩ (.int .i64 (b &&& d : Nat))) w.heap.size (.slice (some ⟨gn, 0, none⟩) t.size cn) (.slice (some ⟨gs, 0, none⟩) L.length cs) (.bool wb) (.int .i64 wi)) := q2
            have Q3 : Hid (Nw w ((w9.setCell ⟨w.heap.size + 1, i * 2, none⟩ (.int .i64 (a ||| c : Nat))).setCell ⟨w.heap.size + 1, i * 2 + 1, none⟩ (.int .i64 (b &&& d : Nat)))) := q3
            clear q1 q2 q3 k9 z0 z1 z2 e0 e1 e2 e3 e4 e5 n0 n1 n2 n3 n4 n5
            go_wp2
            go_roundg (t.size - (i + 1))
            case measure => rw [HM.out]; omega
            case rel => exact ⟨i + 1, abs.set i (a ||| c, b &&& d), by simp, rfl, by omega, HA.out.set HU.out (AddIs.either AL.out AR.out), Q1.out, Q2.out, Q3.out⟩
      | rnd lo hi' b =>
        simp only [Nt.root] at n0 n1 n2 n3 n4 n5
        clear HPW hok huo
        go_wp2
        go_roundg (t.size - (i + 1))
        case measure => rw [HM.out]; omega
        case rel => exact ⟨i + 1, abs, by simp, rfl, by omega, HA.out.next HU.out, HR.out.alloc _, HPA.out.sm (((Kp.refl (fun _ => False) wr).alloc _).sm y1 (fun h => h)), HK.out.alloc _⟩
    · have hie : i = t.size := by omega
      subst hie
      clear HPW
      go_wp2
      go_ret
      exact ⟨abs, w.heap.size + 1, rfl, HA.out, HR.out, by omega, HK.out⟩
end Go.Proofs.YtcboiapggnmpfaaGreat

namespace Go.Proofs.YtcboiapggnmpfaaGreat
set_option linter.unusedVariables false

/-- A spot: the names ahead on some way, on every way; in a repetition. -/
abbrev Spo := Nat × Nat × Bool
/-- The part u, whose first step is k, stands at x. -/
def SpotIs (t u : Nt) (k : Nat) (x : Spo) : Prop :=
  ∃ M S : Int → Bool, IsSet x.1 M ∧ IsSet x.2.1 S ∧ ∀ j, k ≤ j → j < k + u.steps.length →
    (∀ y, t.hand.svM (nmT t) y false 0 j = u.hand.svM (nmT t) y (M y) k j) ∧ (∀ y, t.hand.svS (nmT t) y false 0 j = u.hand.svS (nmT t) y (S y) k j) ∧ t.hand.ir false 0 j = u.hand.ir x.2.2 k j
/-- Step k stands at x. -/
structure LeafIs (t : Nt) (k : Nat) (x : Spo) : Prop where
  maybe : IsSet x.1 (fun y => t.hand.svM (nmT t) y false 0 k)
  surely : IsSet x.2.1 (fun y => t.hand.svS (nmT t) y false 0 k)
  rep : x.2.2 = t.hand.ir false 0 k
theorem SpotIs.root (t : Nt) : SpotIs t t 0 (0, 0, false) := ⟨_, _, IsSet.zero, IsSet.zero, fun j _ _ => ⟨fun _ => rfl, fun _ => rfl, rfl⟩⟩
theorem SpotIs.lt {t u : Nt} {k : Nat} {x : Spo} (h : SpotIs t u k x) : x.1 < 2 ^ 26 ∧ x.2.1 < 2 ^ 26 := by
  obtain ⟨M, S, h1, h2, _⟩ := h
  exact ⟨h1.lt, h2.lt⟩
theorem SpotIs.thenL {t l r : Nt} {k : Nat} {x : Spo} (h : SpotIs t (.two 1 l r) k x) : SpotIs t l k x := by
  obtain ⟨M, S, h1, h2, h3⟩ := h
  refine ⟨M, S, h1, h2, fun j a b => ?_⟩
  have e := l.hand_cnt
  have := h3 j a (by simp only [Nt.steps, List.length_append]; omega)
  simp only [Nt.hand, if_true, Hand.andThen, e, if_pos b] at this
  exact this
theorem SpotIs.thenR {t l r : Nt} {k a b : Nat} {x : Spo} (h : SpotIs t (.two 1 l r) k x) (hl : AddIs (nmT t) l k a b) : SpotIs t r (k + l.steps.length) (x.1 ||| a, x.2.1 ||| b, x.2.2) := by
  obtain ⟨M, S, h1, h2, h3⟩ := h
  refine ⟨_, _, h1.or hl.maybe, h2.or hl.surely, fun j c d => ?_⟩
  have e := l.hand_cnt
  have := h3 j (by omega) (by simp only [Nt.steps, List.length_append]; omega)
  simp only [Nt.hand, if_true, Hand.andThen, e, if_neg (show ¬ j < k + l.steps.length by omega)] at this
  exact this
theorem SpotIs.orL {t l r : Nt} {k : Nat} {x : Spo} (h : SpotIs t (.two 2 l r) k x) : SpotIs t l k x := by
  obtain ⟨M, S, h1, h2, h3⟩ := h
  refine ⟨M, S, h1, h2, fun j a b => ?_⟩
  have e := l.hand_cnt
  have := h3 j a (by simp only [Nt.steps, List.length_append]; omega)
  simp only [Nt.hand, show ¬ (2 : Int) = 1 by omega, if_false, Hand.orElse, e, if_pos b] at this
  exact this
theorem SpotIs.orR {t l r : Nt} {k : Nat} {x : Spo} (h : SpotIs t (.two 2 l r) k x) : SpotIs t r (k + l.steps.length) x := by
  obtain ⟨M, S, h1, h2, h3⟩ := h
  refine ⟨M, S, h1, h2, fun j c d => ?_⟩
  have e := l.hand_cnt
  have := h3 j (by omega) (by simp only [Nt.steps, List.length_append]; omega)
  simp only [Nt.hand, show ¬ (2 : Int) = 1 by omega, if_false, Hand.orElse, e, if_neg (show ¬ j < k + l.steps.length by omega)] at this
  exact this
theorem SpotIs.rnd {t b : Nt} {lo hi : Int} {k : Nat} {x : Spo} (h : SpotIs t (.rnd lo hi b) k x) : SpotIs t b k (x.1, x.2.1, true) := by
  obtain ⟨M, S, h1, h2, h3⟩ := h
  exact ⟨M, S, h1, h2, fun j c d => h3 j c d⟩
theorem SpotIs.leaf {t : Nt} {s : St} {k : Nat} {x : Spo} (h : SpotIs t (.one s) k x) : LeafIs t k x := by
  obtain ⟨M, S, h1, h2, h3⟩ := h
  obtain ⟨a, b, c⟩ := h3 k (Nat.le_refl _) (by simp [Nt.steps])
  have ha : (fun y => t.hand.svM (nmT t) y false 0 k) = M := by funext y; exact a y
  have hb : (fun y => t.hand.svS (nmT t) y false 0 k) = S := by funext y; exact b y
  exact ⟨by rw [ha]; exact h1, by rw [hb]; exact h2, c.symm⟩
/-- Node j is a part of node p. -/
def Kid (t : Nt) (n st p j : Nat) : Prop :=
  ∃ u m k, (t.subs n st)[p]? = some (u, m, k) ∧ ((∃ op l r, u = .two op l r ∧ (j + 1 + n = m + l.size ∨ j + 1 + n = m + l.size + r.size)) ∨ ∃ lo hi b, u = .rnd lo hi b ∧ j + 1 + n = m + b.size)
theorem kid : ∀ (t : Nt) (n st j : Nat), j + 1 < t.size → ∃ p, j < p ∧ Kid t n st p j := by
  intro t
  induction t with
  | one s => intro n st j h; simp [Nt.size] at h
  | two op l r hl hr =>
    intro n st j h
    have hlp := l.size_pos
    have hrp := r.size_pos
    simp only [Nt.size] at h
    by_cases h1 : j + 1 < l.size
    · obtain ⟨p, hp, u, m, k, e, c⟩ := hl n st j h1
      have hpl : p < l.size := by have := (List.getElem?_eq_some_iff.1 e).1; rwa [Nt.subs_length] at this
      exact ⟨p, hp, u, m, k, by simp only [Nt.subs]; rw [List.getElem?_append_left (by rw [Nt.subs_length]; exact hpl)]; exact e, c⟩
    · by_cases h2 : j + 1 = l.size
      · refine ⟨l.size + r.size, by omega, .two op l r, n, st, ?_, Or.inl ⟨op, l, r, rfl, Or.inl (by omega)⟩⟩
        have := Nt.subs_last (.two op l r) n st
        simpa [Nt.size] using this
      · by_cases h3 : j + 1 < l.size + r.size
        · obtain ⟨p, hp, u, m, k, e, c⟩ := hr (n + l.size) (st + l.steps.length) (j - l.size) (by omega)
          have hpl : p < r.size := by have := (List.getElem?_eq_some_iff.1 e).1; rwa [Nt.subs_length] at this
          refine ⟨p + l.size, by omega, u, m, k, ?_, ?_⟩
          · simp only [Nt.subs]
            rw [List.getElem?_append_right (by rw [Nt.subs_length]; omega), Nt.subs_length, List.getElem?_append_left (by rw [Nt.subs_length]; omega)]
            have : p + l.size - l.size = p := by omega
            rw [this]; exact e
          · rcases c with ⟨op', l', r', e1, c⟩ | ⟨lo, hi, b, e1, c⟩
            · exact Or.inl ⟨op', l', r', e1, by omega⟩
            · exact Or.inr ⟨lo, hi, b, e1, by omega⟩
        · refine ⟨l.size + r.size, by omega, .two op l r, n, st, ?_, Or.inl ⟨op, l, r, rfl, Or.inr (by omega)⟩⟩
          have := Nt.subs_last (.two op l r) n st
          simpa [Nt.size] using this
  | rnd lo hi b hb =>
    intro n st j h
    have hbp := b.size_pos
    simp only [Nt.size] at h
    by_cases h1 : j + 1 < b.size
    · obtain ⟨p, hp, u, m, k, e, c⟩ := hb n st j h1
      have hpl : p < b.size := by have := (List.getElem?_eq_some_iff.1 e).1; rwa [Nt.subs_length] at this
      exact ⟨p, hp, u, m, k, by simp only [Nt.subs]; rw [List.getElem?_append_left (by rw [Nt.subs_length]; exact hpl)]; exact e, c⟩
    · refine ⟨b.size, by omega, .rnd lo hi b, n, st, ?_, Or.inr ⟨lo, hi, b, rfl, by omega⟩⟩
      have := Nt.subs_last (.rnd lo hi b) n st
      simpa [Nt.size] using this
theorem leafAt : ∀ (t : Nt) (n st k : Nat), st ≤ k → k < st + t.steps.length → ∃ (p : Nat) (s : St) (m : Nat), (t.subs n st)[p]? = some (Nt.one s, m, k) := by
  intro t
  induction t with
  | one s =>
    intro n st k h1 h2
    have : k = st := by simp [Nt.steps] at h2; omega
    subst this; exact ⟨0, s, n, rfl⟩
  | two op l r hl hr =>
    intro n st k h1 h2
    simp only [Nt.steps, List.length_append] at h2
    by_cases h : k < st + l.steps.length
    · obtain ⟨p, s, m, e⟩ := hl n st k h1 h
      have hpl := (List.getElem?_eq_some_iff.1 e).1
      exact ⟨p, s, m, by simp only [Nt.subs]; rw [List.getElem?_append_left hpl]; exact e⟩
    · obtain ⟨p, s, m, e⟩ := hr (n + l.size) (st + l.steps.length) k (by omega) (by omega)
      have hpl := (List.getElem?_eq_some_iff.1 e).1
      refine ⟨p + l.size, s, m, ?_⟩
      simp only [Nt.subs]
      rw [List.getElem?_append_right (by rw [Nt.subs_length]; omega), Nt.subs_length, Nat.add_sub_cancel, List.getElem?_append_left hpl]; exact e
  | rnd lo hi b hb =>
    intro n st k h1 h2
    obtain ⟨p, s, m, e⟩ := hb n st k h1 h2
    have hpl := (List.getElem?_eq_some_iff.1 e).1
    exact ⟨p, s, m, by simp only [Nt.subs]; rw [List.getElem?_append_left hpl]; exact e⟩
/-- Node j's spot is right. -/
def Ready (t : Nt) (sp : List Spo) (j : Nat) : Prop := ∀ u m k x, (t.subs 0 0)[j]? = some (u, m, k) → sp[j]? = some x → SpotIs t u k x
/-- How far the spots are reckoned: the nodes from i on are done. -/
structure Spots (t : Nt) (i : Nat) (sp ss : List Spo) : Prop where
  len : sp.length = t.size
  lens : ss.length = t.steps.length
  ok : ∀ j, j < i → (j + 1 = t.size ∨ ∃ p, i ≤ p ∧ Kid t 0 0 p j) → Ready t sp j
  leaf : ∀ (p : Nat) (s : St) (m k : Nat) (x : Spo), i ≤ p → (t.subs 0 0)[p]? = some (Nt.one s, m, k) → ss[k]? = some x → LeafIs t k x
theorem Spots.start (t : Nt) : Spots t t.size (List.replicate t.size (0, 0, false)) (List.replicate t.steps.length (0, 0, false)) := by
  have hp := t.size_pos
  refine ⟨by simp, by simp, ?_, ?_⟩
  · intro j hj h u m k x hs hx
    have e : j + 1 = t.size := by
      rcases h with h | ⟨p, hp, u', m', k', e, _⟩
      · exact h
      · have := (List.getElem?_eq_some_iff.1 e).1; rw [Nt.subs_length] at this; omega
    have hj' : j = t.size - 1 := by omega
    rw [hj', Nt.subs_last] at hs
    simp only [Option.some.injEq, Prod.mk.injEq] at hs
    obtain ⟨rfl, rfl, rfl⟩ := hs
    simp [hj] at hx
    subst hx
    exact SpotIs.root t
  · intro p s m k x hp' e
    have := (List.getElem?_eq_some_iff.1 e).1; rw [Nt.subs_length] at this; omega
theorem Spots.here {t : Nt} {i : Nat} {sp ss : List Spo} (h : Spots t (i + 1) sp ss) (hi : i < t.size) {u : Nt} {m k : Nat} {x : Spo} (hu : (t.subs 0 0)[i]? = some (u, m, k)) (hx : sp[i]? = some x) : SpotIs t u k x := by
  refine h.ok i (by omega) ?_ u m k x hu hx
  by_cases e : i + 1 = t.size
  · exact Or.inl e
  · obtain ⟨p, hp, hk⟩ := kid t 0 0 i (by omega)
    exact Or.inr ⟨p, by omega, hk⟩
theorem Spots.leafSet {t : Nt} {i : Nat} {sp ss : List Spo} (h : Spots t (i + 1) sp ss) (hi : i < t.size) {s : St} {m k : Nat} {x : Spo} (hu : (t.subs 0 0)[i]? = some (.one s, m, k)) (hx : sp[i]? = some x) : Spots t i sp (ss.set k x) := by
  have hs := (h.here hi hu hx).leaf
  refine ⟨h.len, by simp [h.lens], ?_, ?_⟩
  · intro j hj hh
    refine h.ok j (by omega) ?_
    rcases hh with e | ⟨p, hp, hk⟩
    · exact Or.inl e
    · refine Or.inr ⟨p, ?_, hk⟩
      by_cases e : p = i
      · exfalso
        subst e
        obtain ⟨u', m', k', e1, c⟩ := hk
        rw [hu] at e1
        simp only [Option.some.injEq, Prod.mk.injEq] at e1
        obtain ⟨rfl, _⟩ := e1
        rcases c with ⟨_, _, _, e, _⟩ | ⟨_, _, _, e, _⟩ <;> cases e
      · omega
  · intro p s' m' k' y hp e hy
    by_cases hkk : k' = k
    · subst hkk
      by_cases hl : k' < ss.length
      · rw [List.getElem?_set_self hl] at hy
        simp only [Option.some.injEq] at hy
        subst hy; exact hs
      · rw [List.getElem?_eq_none (by simpa using hl)] at hy; cases hy
    · rw [List.getElem?_set_ne (by omega)] at hy
      by_cases hpi : p = i
      · subst hpi
        rw [hu] at e
        simp only [Option.some.injEq, Prod.mk.injEq] at e
        omega
      · exact h.leaf p s' m' k' y (by omega) e hy
/-- One step on, where the kids of node i are set right. -/
theorem Spots.step {t : Nt} {i : Nat} {sp sp' ss : List Spo} (h : Spots t (i + 1) sp ss) (hl : sp'.length = sp.length) {u : Nt} {m k : Nat} (hu : (t.subs 0 0)[i]? = some (u, m, k)) (hno : ∀ s, ¬ u = .one s)
    (hs : ∀ j, j < i → Kid t 0 0 i j → Ready t sp' j) (ho : ∀ j, j < i → Ready t sp j → Ready t sp' j) (hi : i < t.size) : Spots t i sp' ss := by
  refine ⟨by rw [hl, h.len], h.lens, ?_, ?_⟩
  · intro j hj hh
    rcases hh with e | ⟨p, hp, hk⟩
    · omega
    · by_cases e : p = i
      · subst e; exact hs j hj hk
      · exact ho j hj (h.ok j (by omega) (Or.inr ⟨p, by omega, hk⟩))
  · intro p s m' k' x hp e hx
    by_cases hpi : p = i
    · subst hpi
      rw [hu] at e
      simp only [Option.some.injEq, Prod.mk.injEq] at e
      exact absurd e.1 (hno s)
    · exact h.leaf p s m' k' x (by omega) e hx
theorem Ready.set {t : Nt} {sp : List Spo} {a j : Nat} {x : Spo} {u : Nt} {m k : Nat} (ha : (t.subs 0 0)[a]? = some (u, m, k)) (hx : SpotIs t u k x) (h : j = a ∨ Ready t sp j) : Ready t (sp.set a x) j := by
  intro u' m' k' y hu hy
  by_cases e : j = a
  · subst e
    rw [ha] at hu
    simp only [Option.some.injEq, Prod.mk.injEq] at hu
    obtain ⟨rfl, rfl, rfl⟩ := hu
    by_cases hl : j < sp.length
    · rw [List.getElem?_set_self hl] at hy
      simp only [Option.some.injEq] at hy
      subst hy; exact hx
    · rw [List.getElem?_eq_none (by simpa using hl)] at hy; cases hy
  · rw [List.getElem?_set_ne (by omega)] at hy
    exact (h.resolve_left e) u' m' k' y hu hy
theorem Spots.two {t : Nt} {i : Nat} {sp ss : List Spo} (h : Spots t (i + 1) sp ss) (hi : i < t.size) {op : Int} {l r : Nt} {m k : Nat} {x y z : Spo} (hu : (t.subs 0 0)[i]? = some (.two op l r, m, k)) {jl jr : Nat} (hjl : jl + 1 = m + l.size) (hjr : jr + 1 = m + l.size + r.size)
    (hy : SpotIs t l k y) (hz : SpotIs t r (k + l.steps.length) z) : Spots t i ((sp.set jl y).set jr z) ss := by
  have hok := t.subs_ok 0 0 i _ m k hu
  obtain ⟨sl, sr⟩ := hok.two op l r rfl
  have e1 : m + l.size - 1 - 0 = jl := by omega
  have e2 : m + l.size + r.size - 1 - 0 = jr := by omega
  rw [e1] at sl
  rw [e2] at sr
  refine h.step (by simp) hu (by intro s e; cases e) ?_ ?_ hi
  · intro j hj hk
    obtain ⟨u', m', k', e1, c⟩ := hk
    rw [hu] at e1
    simp only [Option.some.injEq, Prod.mk.injEq] at e1
    obtain ⟨rfl, rfl, rfl⟩ := e1
    rcases c with ⟨op', l', r', e, c⟩ | ⟨_, _, _, e, _⟩
    · simp only [Nt.two.injEq] at e
      obtain ⟨rfl, rfl, rfl⟩ := e
      rcases c with c | c
      · exact Ready.set sr hz (Or.inr (Ready.set sl hy (Or.inl (by omega))))
      · exact Ready.set sr hz (Or.inl (by omega))
    · cases e
  · intro j hj hr
    exact Ready.set sr hz (Or.inr (Ready.set sl hy (Or.inr hr)))
theorem Spots.rnd {t : Nt} {i : Nat} {sp ss : List Spo} (h : Spots t (i + 1) sp ss) (hi : i < t.size) {lo hh : Int} {b : Nt} {m k : Nat} {y : Spo} (hu : (t.subs 0 0)[i]? = some (.rnd lo hh b, m, k)) {jl : Nat} (hjl : jl + 1 = m + b.size)
    (hy : SpotIs t b k y) : Spots t i (sp.set jl y) ss := by
  have hok := t.subs_ok 0 0 i _ m k hu
  have sl := hok.rnd lo hh b rfl
  have e1 : m + b.size - 1 - 0 = jl := by omega
  rw [e1] at sl
  refine h.step (by simp) hu (by intro s e; cases e) ?_ ?_ hi
  · intro j hj hk
    obtain ⟨u', m', k', e1, c⟩ := hk
    rw [hu] at e1
    simp only [Option.some.injEq, Prod.mk.injEq] at e1
    obtain ⟨rfl, rfl, rfl⟩ := e1
    rcases c with ⟨_, _, _, e, _⟩ | ⟨lo', hi', b', e, c⟩
    · cases e
    · simp only [Nt.rnd.injEq] at e
      obtain ⟨rfl, rfl, rfl⟩ := e
      exact Ready.set sl hy (Or.inl (by omega))
  · intro j hj hr
    exact Ready.set sl hy (Or.inr hr)
theorem Spots.done {t : Nt} {sp ss : List Spo} (h : Spots t 0 sp ss) (k : Nat) (x : Spo) (hx : ss[k]? = some x) : LeafIs t k x := by
  have hk : k < t.steps.length := by rw [← h.lens]; exact (List.getElem?_eq_some_iff.1 hx).1
  obtain ⟨p, s, m, e⟩ := leafAt t 0 0 k (Nat.zero_le _) (by omega)
  exact h.leaf p s m k x (Nat.zero_le _) e hx
/-- The cells of spots. -/
def spotC (x : Spo) : List Value := [.int .i64 x.1, .int .i64 x.2.1, .bool x.2.2]
def spotsC (l : List Spo) : List Value := (l.map spotC).flatten
theorem spotsC_length (l : List Spo) : (spotsC l).length = l.length * 3 := by
  induction l with
  | nil => rfl
  | cons x r ih =>
    have : spotsC (x :: r) = spotC x ++ spotsC r := by simp [spotsC]
    rw [this, List.length_append, ih]; simp [spotC]; omega
theorem spotsC_append (a b : List Spo) : spotsC (a ++ b) = spotsC a ++ spotsC b := by simp [spotsC]
theorem spotsC_get : ∀ (M : List Spo) (i j : Nat) (x : Spo), M[i]? = some x → j < 3 → (spotsC M)[i * 3 + j]? = (spotC x)[j]? := by
  intro M
  induction M with
  | nil => intro i j x h; simp at h
  | cons y r ih =>
    intro i j x h hj
    have e : spotsC (y :: r) = spotC y ++ spotsC r := by simp [spotsC]
    have hl : (spotC y).length = 3 := rfl
    rw [e]
    cases i with
    | zero => simp at h; subst h; rw [List.getElem?_append_left (by omega)]; simp
    | succ i =>
      simp at h
      rw [List.getElem?_append_right (by omega), hl]
      have : (i + 1) * 3 + j - 3 = i * 3 + j := by omega
      rw [this]; exact ih i j x h hj
theorem spots_split {abs : List Spo} {i : Nat} {x : Spo} (h : abs[i]? = some x) (y : Spo) : ∃ p q, spotsC abs = spotsC p ++ (spotC x ++ spotsC q) ∧ spotsC (abs.set i y) = spotsC p ++ (spotC y ++ spotsC q) ∧ p.length = i := by
  obtain ⟨hi, hx⟩ := List.getElem?_eq_some_iff.1 h
  refine ⟨abs.take i, abs.drop (i + 1), ?_, ?_, by simp; omega⟩
  · have e : abs = abs.take i ++ (x :: abs.drop (i + 1)) := by rw [← hx, List.getElem_cons_drop, List.take_append_drop]
    conv => lhs; rw [e]
    rw [spotsC_append]; simp [spotsC]
  · have e : abs.set i y = abs.take i ++ (y :: abs.drop (i + 1)) := by
      rw [List.set_eq_take_append_cons_drop, if_pos hi]
    rw [e, spotsC_append]; simp [spotsC]
theorem spotsC_set {abs : List Spo} {i : Nat} (hi : i < abs.length) (y : Spo) : (((spotsC abs).set (i * 3) (.int .i64 y.1)).set (i * 3 + 1) (.int .i64 y.2.1)).set (i * 3 + 2) (.bool y.2.2) = spotsC (abs.set i y) := by
  obtain ⟨x, hx⟩ : ∃ x, abs[i]? = some x := ⟨abs[i], by simp [hi]⟩
  obtain ⟨p, q, e1, e2, hp⟩ := spots_split hx y
  rw [e1, e2]
  have hl : (spotsC p).length = i * 3 := by rw [spotsC_length, hp]
  rw [List.set_append_right _ _ (by omega), hl, List.set_append_right _ _ (by omega), hl, List.set_append_right _ _ (by omega), hl]
  have : i * 3 + 1 - i * 3 = 1 := by omega
  have h2 : i * 3 + 2 - i * 3 = 2 := by omega
  rw [this, h2, Nat.sub_self]
  rfl
theorem Row.spotSet {w : World} {g i : Nat} {e : TypeId} {abs : List Spo} (h : Row w g e (spotsC abs)) (hi : i < abs.length) (y : Spo) :
    Row (((w.setCell ⟨g, i * 3, none⟩ (.int .i64 y.1)).setCell ⟨g, i * 3 + 1, none⟩ (.int .i64 y.2.1)).setCell ⟨g, i * 3 + 2, none⟩ (.bool y.2.2)) g e (spotsC (abs.set i y)) := by
  rw [← spotsC_set hi]; exact ((h.set _ _).set _ _).set _ _
end Go.Proofs.YtcboiapggnmpfaaGreat

namespace Go.Proofs.YtcboiapggnmpfaaGreat
open Go.RowKit
set_option linter.unusedSimpArgs false
set_option linter.unusedVariables false

theorem Tryz.info234 : (Tryz.prog.info? 234).map (fun i => (i.zero, i.size, i.bytes)) = some (some (.agg #[.int .i64 0, .int .i64 0, .bool false]), 3, 24) := by kernel_rfl
theorem made_spots (n : Nat) : (madeCells #[.int .i64 0, .int .i64 0, .bool false] (n * 3)).toList = spotsC (List.replicate n (0, 0, false)) := by
  apply List.ext_getElem?
  intro k
  by_cases h : k < n * 3
  · have e : k = (k / 3) * 3 + k % 3 := by omega
    have hk : k / 3 < n := by omega
    have hr : k % 3 < 3 := by omega
    have h1 : (spotsC (List.replicate n (0, 0, false)))[k]? = (spotC (0, 0, false))[k % 3]? := by
      conv => lhs; rw [e]
      exact spotsC_get _ (k / 3) (k % 3) _ (by simp [hk]) hr
    rw [h1]
    simp only [madeCells, Array.toList_ofFn, List.getElem?_ofFn, h, dite_true]
    have : k % 3 = 0 ∨ k % 3 = 1 ∨ k % 3 = 2 := by omega
    rcases this with h | h | h <;> (simp [h, spotC]; exact ⟨k, by rw [List.getElem?_range (by assumption)], by rw [h]; rfl⟩)
  · rw [List.getElem?_eq_none (by simp [madeCells]; omega), List.getElem?_eq_none (by rw [spotsC_length]; simp; omega)]
/-- What spotsOfSteps answers. -/
def SpotPost (t : Nt) (w : World) (e : Ending) (w' : World) : Prop :=
  ∃ (ss : List Spo) (g : Nat), e = .returned (.slice (some ⟨g, 0, none⟩) t.steps.length t.steps.length) ∧ ss.length = t.steps.length ∧ (∀ k x, ss[k]? = some x → LeafIs t k x) ∧ Row w' g 234 (spotsC ss) ∧ w.heap.size ≤ g ∧ Nw w w'
/-- What lies in memory as the loop goes on. -/
structure SpM (w wr : World) (t : Nt) (gn cn gs cs : Nat) (nl sl : Nat) (wb : Bool) (wi : Int) (ga g2 g3 : Nat) (abs : List (Nat × Nat)) (sp ss : List Spo) : Prop where
  pa : PAt wr w.heap.size (.slice (some ⟨gn, 0, none⟩) nl cn) (.slice (some ⟨gs, 0, none⟩) sl cs) (.bool wb) (.int .i64 wi)
  ra : Row wr ga 232 (heldsC abs)
  r2 : Row wr g2 234 (spotsC sp)
  r3 : Row wr g3 234 (spotsC ss)
  nw : Nw w wr
  la : w.heap.size < ga
  l2 : ga < g2
  l3 : g2 < g3
section
variable {w wr : World} {t : Nt} {gn cn gs cs nl sl : Nat} {wb : Bool} {wi : Int} {ga g2 g3 : Nat} {abs : List (Nat × Nat)} {sp ss : List Spo}
theorem SpM.next {w' : World} (h : SpM w wr t gn cn gs cs nl sl wb wi ga g2 g3 abs sp ss) (k : Nw wr w') : SpM w w' t gn cn gs cs nl sl wb wi ga g2 g3 abs sp ss :=
  ⟨h.pa.sm (k.sm h.pa.lt (fun h => h)), h.ra.kp k (fun h => h), h.r2.kp k (fun h => h), h.r3.kp k (fun h => h), h.nw.trans k, h.la, h.l2, h.l3⟩
theorem SpM.kp1 {w' : World} {B : Nat} (h : SpM w wr t gn cn gs cs nl sl wb wi ga g2 g3 abs sp ss) (k : Kp (fun b => b = B) wr w') (hB : g3 < B) : SpM w w' t gn cn gs cs nl sl wb wi ga g2 g3 abs sp ss := by
  have hl := h.la
  have h2 := h.l2
  have h3 := h.l3
  exact ⟨h.pa.sm (k.sm h.pa.lt (by omega)), h.ra.kp k (by omega), h.r2.kp k (by omega), h.r3.kp k (by omega), h.nw.trans' k (by intro b hb e; omega), h.la, h.l2, h.l3⟩
theorem SpM.cell2 (h : SpM w wr t gn cn gs cs nl sl wb wi ga g2 g3 abs sp ss) (j : Nat) (y : Spo) (hy : sp[j]? = some y) : wr.cell? ⟨g2, j * 3, none⟩ = some (.int .i64 y.1) ∧ wr.cell? ⟨g2, j * 3 + 1, none⟩ = some (.int .i64 y.2.1) ∧ wr.cell? ⟨g2, j * 3 + 2, none⟩ = some (.bool y.2.2) := by
  refine ⟨?_, ?_, ?_⟩
  · rw [h.r2.cell, ← Nat.add_zero (j * 3), spotsC_get sp j 0 y hy (by omega)]; rfl
  · rw [h.r2.cell, spotsC_get sp j 1 y hy (by omega)]; rfl
  · rw [h.r2.cell, spotsC_get sp j 2 y hy (by omega)]; rfl
theorem SpM.set2 (h : SpM w wr t gn cn gs cs nl sl wb wi ga g2 g3 abs sp ss) {i : Nat} (hi : i < sp.length) (y : Spo) :
    SpM w (((wr.setCell ⟨g2, i * 3, none⟩ (.int .i64 y.1)).setCell ⟨g2, i * 3 + 1, none⟩ (.int .i64 y.2.1)).setCell ⟨g2, i * 3 + 2, none⟩ (.bool y.2.2)) t gn cn gs cs nl sl wb wi ga g2 g3 abs (sp.set i y) ss := by
  have hl := h.la
  have h2 := h.l2
  have h3 := h.l3
  have kk : Kp (fun b => b = g2) wr (((wr.setCell ⟨g2, i * 3, none⟩ (.int .i64 y.1)).setCell ⟨g2, i * 3 + 1, none⟩ (.int .i64 y.2.1)).setCell ⟨g2, i * 3 + 2, none⟩ (.bool y.2.2)) := ((((Kp.refl (fun b => b = g2) wr)).setCell (p := ⟨g2, i * 3, none⟩) (Or.inr rfl) _).setCell (p := ⟨g2, i * 3 + 1, none⟩) (Or.inr rfl) _).setCell (p := ⟨g2, i * 3 + 2, none⟩) (Or.inr rfl) _
  exact ⟨h.pa.sm (kk.sm h.pa.lt (by omega)), h.ra.kp kk (by omega), h.r2.spotSet hi y, h.r3.kp kk (by omega), h.nw.trans' kk (by intro b hb e; omega), h.la, h.l2, h.l3⟩
theorem SpM.set3 (h : SpM w wr t gn cn gs cs nl sl wb wi ga g2 g3 abs sp ss) {i : Nat} (hi : i < ss.length) (y : Spo) :
    SpM w (((wr.setCell ⟨g3, i * 3, none⟩ (.int .i64 y.1)).setCell ⟨g3, i * 3 + 1, none⟩ (.int .i64 y.2.1)).setCell ⟨g3, i * 3 + 2, none⟩ (.bool y.2.2)) t gn cn gs cs nl sl wb wi ga g2 g3 abs sp (ss.set i y) := by
  have hl := h.la
  have h2 := h.l2
  have h3 := h.l3
  have kk : Kp (fun b => b = g3) wr (((wr.setCell ⟨g3, i * 3, none⟩ (.int .i64 y.1)).setCell ⟨g3, i * 3 + 1, none⟩ (.int .i64 y.2.1)).setCell ⟨g3, i * 3 + 2, none⟩ (.bool y.2.2)) := ((((Kp.refl (fun b => b = g3) wr)).setCell (p := ⟨g3, i * 3, none⟩) (Or.inr rfl) _).setCell (p := ⟨g3, i * 3 + 1, none⟩) (Or.inr rfl) _).setCell (p := ⟨g3, i * 3 + 2, none⟩) (Or.inr rfl) _
  exact ⟨h.pa.sm (kk.sm h.pa.lt (by omega)), h.ra.kp kk (by omega), h.r2.kp kk (by omega), h.r3.spotSet hi y, h.nw.trans' kk (by intro b hb e; omega), h.la, h.l2, h.l3⟩
end
set_option maxRecDepth 100000 in
set_option maxHeartbeats 1000000 in
theorem spots_any (t : Nt) (nv sv : Value) (wb : Bool) (wi : Int) (L : List (St × Value)) (w : World) (h : PatM w nv sv (t.nd 0 0) L) (hL : L.map Prod.fst = t.steps) (hsz : t.size ≤ 10000) (hops : t.Ops) :
    Calls Tryz.prog 129 #[.agg #[nv, sv, .bool wb, .int .i64 wi]] w (SpotPost t w) := by
  have hpos := t.size_pos
  have hspos := t.steps_pos
  have hsle := t.steps_le
  obtain ⟨gn, cn, hnv⟩ := owns_someX h.nodes (by rw [Nt.nd_length]; exact hpos)
  obtain ⟨gs, cs, hsv⟩ := owns_someX h.steps (by have := congrArg List.length hL; simp at *; omega)
  subst hnv hsv
  have hbn := h.nodes.lt gn rfl
  have hbs := h.steps.lt gs rfl
  have hnl := t.nd_length 0 0
  have hLl : L.length = t.steps.length := by rw [← hL]; simp
  have HC : Hid (∀ W, Nw w W → Calls Tryz.prog 177 #[.agg #[.slice (some ⟨gn, 0, none⟩) t.size cn, .slice (some ⟨gs, 0, none⟩) t.steps.length cs, .bool wb, .int .i64 wi]] W (AddPost t W)) := by
    intro W kW
    have := added_any t _ _ wb wi L W (h.nw kW) hL hsz hops
    rw [hnl, hLl] at this
    exact this
  have HP : Hid (PatM w (.slice (some ⟨gn, 0, none⟩) (t.nd 0 0).length cn) (.slice (some ⟨gs, 0, none⟩) L.length cs) (t.nd 0 0) L) := h
  have HL : Hid (L.map Prod.fst = t.steps) := hL
  clear h hL
  rw [hnl, hLl]
  clear hnl hLl
  generalize hS : t.steps.length = S at *
  have HS : Hid (t.steps.length = S) := hS
  clear hS
  obtain ⟨i0, hi0, hz0, hz1, hz2⟩ := info_parts Tryz.info234
  go_enter Tryz.func129, Tryz.ntmps129
  go_wp2_with fail
  refine (HC.out _ ((Kp.refl _ w).alloc _)).mono ?_
  rintro e2 w2 ⟨abs, ga, rfl, hadd, hra, hga, k2⟩
  have hA := (pat_at w 107 (.slice (some ⟨gn, 0, none⟩) t.size cn) (.slice (some ⟨gs, 0, none⟩) S cs) (.bool wb) (.int .i64 wi) (B := w.heap.size) rfl)
  have PA2 : Hid (PAt w2 w.heap.size (.slice (some ⟨gn, 0, none⟩) t.size cn) (.slice (some ⟨gs, 0, none⟩) S cs) (.bool wb) (.int .i64 wi)) := hA.sm (k2.sm hA.lt (fun h => h))
  have K2 : Hid (Nw w w2) := ((Kp.refl _ w).alloc _).trans k2
  have HAD : Hid (Adds t t.size abs) := hadd
  have hra' := hra.lt
  have RA : Hid (Row w2 ga 232 (heldsC abs)) := hra
  have hgw : w.heap.size < ga := by simp at hga; omega
  obtain ⟨p0, p1, p2, p3, pz⟩ := PA2.out
  clear k2 hra hga hA hadd
  go_wp2_with (first | (at_make; refine wpList_make_full _ rfl _ _ 227 rfl w2.heap.size 234 i0 (.agg #[.int .i64 0, .int .i64 0, .bool false]) 3 Tryz.underlying227 hi0 hz0 hz1 _ _ _ _ t.size rfl rfl ?a1 ?a2 ?b1 ?b2 ?b3 ?_) | fail)
  case a1 => omega
  case a2 => omega
  case b1 => first | omega | (rw [hz2]; omega)
  case b2 => unfold maxLen; omega
  case b3 => simp
  intro w3 hown3 hgrow3
  have k3 : Nw w2 w3 := (Kp.refl _ _).grown hgrow3 (by intro k hk; cases hk)
  have R2 : Hid (Row w3 w2.heap.size 234 (spotsC (List.replicate t.size (0, 0, false)))) := by
    have := Row.of_fullS hown3
    rw [made_spots] at this
    exact this
  have PA3 : Hid (PAt w3 w.heap.size (.slice (some ⟨gn, 0, none⟩) t.size cn) (.slice (some ⟨gs, 0, none⟩) S cs) (.bool wb) (.int .i64 wi)) := PA2.out.sm (k3.sm PA2.out.lt (fun h => h))
  have RA3 : Hid (Row w3 ga 232 (heldsC abs)) := RA.out.kp k3 (fun h => h)
  have K3 : Hid (Nw w w3) := K2.out.trans k3
  have h23 := R2.out.lt
  clear hown3 hgrow3 k3 p0 p1 p2 p3 pz PA2 RA
  obtain ⟨p0, p1, p2, p3, pz⟩ := PA3.out
  go_wp2_with (first | (at_make; refine wpList_make_full _ rfl _ _ 227 rfl w3.heap.size 234 i0 (.agg #[.int .i64 0, .int .i64 0, .bool false]) 3 Tryz.underlying227 hi0 hz0 hz1 _ _ _ _ S rfl rfl ?a1 ?a2 ?b1 ?b2 ?b3 ?_) | fail)
  case a1 => omega
  case a2 => omega
  case b1 => first | omega | (rw [hz2]; omega)
  case b2 => unfold maxLen; omega
  case b3 => simp
  intro w4 hown4 hgrow4
  have k4 : Nw w3 w4 := (Kp.refl _ _).grown hgrow4 (by intro k hk; cases hk)
  have M4 : Hid (SpM w w4 t gn cn gs cs t.size S wb wi ga w2.heap.size w3.heap.size abs (List.replicate t.size (0, 0, false)) (List.replicate S (0, 0, false))) := by
    have := Row.of_fullS hown4
    rw [made_spots] at this
    exact ⟨PA3.out.sm (k4.sm PA3.out.lt (fun h => h)), RA3.out.kp k4 (fun h => h), R2.out.kp k4 (fun h => h), this, K3.out.trans k4, hgw, hra', h23⟩
  clear hown4 hgrow4 k4 p0 p1 p2 p3 pz PA3 RA3 R2 K3 K2 hra' h23
  obtain ⟨p0, p1, p2, p3, pz⟩ := M4.out.pa
  generalize hg2 : w2.heap.size = g2 at *
  generalize hg3 : w3.heap.size = g3 at *
  clear hg2 hg3
  go_wp2
  go_loopg [6] t.size (fun m v6 wr => ∃ (i : Nat) (sp ss : List Spo), v6 = .int .i64 ((i : Int) - 1) ∧ m = i ∧ i ≤ t.size ∧ Spots t i sp ss ∧ SpM w wr t gn cn gs cs t.size S wb wi ga g2 g3 abs sp ss)
  case atStart => exact ⟨t.size, _, _, rfl, rfl, Nat.le_refl _, by have := Spots.start t; rw [HS.out] at this; exact this, M4.out⟩
  case round =>
    obtain ⟨i, sp, ss, rfl, hm, hi, hspo, hM⟩ := hrel
    have HSP : Hid (Spots t i sp ss) := hspo
    have HM : Hid (SpM w wr t gn cn gs cs t.size S wb wi ga g2 g3 abs sp ss) := hM
    have HMM : Hid (_ = i) := hm
    obtain ⟨p0, p1, p2, p3, pz⟩ := hM.pa
    have hl3 := hM.r3.lt
    have hl2 := hM.l3
    have hla := hM.l2
    have hl0 := hM.la
    have HPW := HP.out.nw hM.nw
    clear hm hspo hM M4
    have y1 : w.heap.size < wr.heap.size := by omega
    have y3 : gn < wr.heap.size := by omega
    have y4 : gs < wr.heap.size := by omega
    have y5 : g2 < wr.heap.size := by omega
    have y6 : ga < wr.heap.size := by omega
    by_cases hil : i = 0
    · subst hil
      clear HPW
      have e0 : ((0 : Nat) : Int) - 1 = -1 := rfl
      rw [e0]
      clear e0
      go_wp2
      go_ret
      refine ⟨ss, g3, ?_, HSP.out.lens, HSP.out.done, HM.out.r3, by omega, HM.out.nw⟩
      rw [HS.out]; rfl
    · obtain ⟨n, rfl⟩ : ∃ n, i = n + 1 := ⟨i - 1, by omega⟩
      have en : ((n + 1 : Nat) : Int) - 1 = n := by omega
      rw [en]
      clear en hil
      have hn : n < t.size := by omega
      obtain ⟨u, m, k, hu⟩ : ∃ u m k, (t.subs 0 0)[n]? = some (u, m, k) := ⟨_, _, _, List.getElem?_eq_getElem (by rw [Nt.subs_length]; exact hn)⟩
      have hnd : (t.nd 0 0)[n]? = some (u.root m k) := by rw [Nt.nd_subs, List.getElem?_map, hu]; rfl
      obtain ⟨n0, n1, n2, n3, n4, n5⟩ := HPW.node hnd
      have hok := t.subs_ok 0 0 n u m k hu
      have huo := t.subs_ops 0 0 n u m k hops hu
      have HU : Hid ((t.subs 0 0)[n]? = some (u, m, k)) := hu
      obtain ⟨x, hx⟩ : ∃ x, sp[n]? = some x := ⟨_, List.getElem?_eq_getElem (by rw [HSP.out.len]; exact hn)⟩
      have HX : Hid (sp[n]? = some x) := hx
      have HH : Hid (SpotIs t u k x) := HSP.out.here hn hu hx
      have hc2 : ∀ j y, sp[j]? = some y → wr.cell? ⟨g2, j * 3, none⟩ = some (.int .i64 y.1) ∧ wr.cell? ⟨g2, j * 3 + 1, none⟩ = some (.int .i64 y.2.1) ∧ wr.cell? ⟨g2, j * 3 + 2, none⟩ = some (.bool y.2.2) := by
        intro j y hy
        refine ⟨?_, ?_, ?_⟩
        · rw [HM.out.r2.cell, ← Nat.add_zero (j * 3), spotsC_get sp j 0 y hy (by omega)]; rfl
        · rw [HM.out.r2.cell, spotsC_get sp j 1 y hy (by omega)]; rfl
        · rw [HM.out.r2.cell, spotsC_get sp j 2 y hy (by omega)]; rfl
      obtain ⟨f0, f1, f2⟩ := hc2 n x hx
      have z2 : ∀ o, wr.frozen? ⟨g2, o, none⟩ = false := HM.out.r2.froz
      obtain ⟨xm, xs, xr⟩ := x
      simp only at f0 f1 f2
      have hxl := HH.out.lt
      simp only at hxl
      obtain ⟨hxm, hxs⟩ := hxl
      clear HPW hnd hu hx hi
      cases u with
      | one s =>
        simp only [Nt.root] at n0 n1 n2 n3 n4 n5
        have hks : k < S := by have := hok.sle; simp [Nt.steps] at this; rw [← HS.out]; omega
        obtain ⟨y, hy⟩ : ∃ y, ss[k]? = some y := ⟨_, List.getElem?_eq_getElem (by rw [HSP.out.lens, HS.out]; exact hks)⟩
        have hkl : k < ss.length := (List.getElem?_eq_some_iff.1 hy).1
        have h0 : wr.cell? ⟨g3, k * 3, none⟩ = some (.int .i64 y.1) := by rw [HM.out.r3.cell, ← Nat.add_zero (k * 3), spotsC_get ss k 0 y hy (by omega)]; rfl
        have h1 : wr.cell? ⟨g3, k * 3 + 1, none⟩ = some (.int .i64 y.2.1) := by rw [HM.out.r3.cell, spotsC_get ss k 1 y hy (by omega)]; rfl
        have h2 : wr.cell? ⟨g3, k * 3 + 2, none⟩ = some (.bool y.2.2) := by rw [HM.out.r3.cell, spotsC_get ss k 2 y hy (by omega)]; rfl
        have z3 : ∀ o, wr.frozen? ⟨g3, o, none⟩ = false := HM.out.r3.froz
        clear hok huo hy hc2
        go_wp2
        go_roundg n
        case measure => rw [HMM.out]; omega
        case rel => exact ⟨n, sp, ss.set k (xm, xs, xr), rfl, rfl, by omega, HSP.out.leafSet hn HU.out HX.out, ((HM.out.set3 hkl (xm, xs, xr)).next ((Kp.refl _ _).alloc _)).next ((Kp.refl _ _).alloc _)⟩
      | two op l r =>
        obtain ⟨sl, sr⟩ := hok.two op l r rfl
        have hidx := hok.idx
        simp only [Nt.size] at hidx
        have hl1 := l.size_pos
        have hr1 := r.size_pos
        obtain ⟨jl, hjl⟩ : ∃ jl, jl + 1 = m + l.size := ⟨m + l.size - 1, by omega⟩
        obtain ⟨jr, hjr⟩ : ∃ jr, jr + 1 = m + l.size + r.size := ⟨m + l.size + r.size - 1, by omega⟩
        have HJL : Hid (jl + 1 = m + l.size) := hjl
        have HJR : Hid (jr + 1 = m + l.size + r.size) := hjr
        have e1 : m + l.size - 1 - 0 = jl := by omega
        rw [e1] at sl
        simp only [Nt.root] at n0 n1 n2 n3 n4 n5
        have el : ((m + l.size : Nat) : Int) - 1 = jl := by omega
        have er : ((m + l.size + r.size : Nat) : Int) - 1 = jr := by omega
        rw [el] at n2
        rw [er] at n3
        have hlr : jl < jr := by omega
        have hjn : jr < n := by omega
        have hjt : jr < t.size := by omega
        have hjt' : jl < t.size := by omega
        obtain ⟨y, hy⟩ : ∃ y, sp[jl]? = some y := ⟨_, List.getElem?_eq_getElem (by rw [HSP.out.len]; omega)⟩
        obtain ⟨z, hz⟩ : ∃ y, sp[jr]? = some y := ⟨_, List.getElem?_eq_getElem (by rw [HSP.out.len]; omega)⟩
        have HLN : Hid (jl < sp.length ∧ jr < sp.length) := ⟨by rw [HSP.out.len]; omega, by rw [HSP.out.len]; omega⟩
        obtain ⟨g0, g1, g2'⟩ := hc2 jl y hy
        obtain ⟨q0, q1, q2⟩ := hc2 jr z hz
        obtain ⟨⟨a, b⟩, hab⟩ : ∃ ab, abs[jl]? = some ab := ⟨_, List.getElem?_eq_getElem (by rw [HAD.out.len]; omega)⟩
        have AL : Hid (AddIs (nmT t) l k a b) := HAD.out.ok jl l m k a b (by omega) sl hab
        have b0 : wr.cell? ⟨ga, jl * 2, none⟩ = some (.int .i64 a) := by rw [HM.out.ra.cell, ← Nat.add_zero (jl * 2), heldsC_get abs jl 0 _ hab (by omega)]; rfl
        have b1 : wr.cell? ⟨ga, jl * 2 + 1, none⟩ = some (.int .i64 b) := by rw [HM.out.ra.cell, heldsC_get abs jl 1 _ hab (by omega)]; rfl
        have ha := AL.out.maybe.lt
        have hb := AL.out.surely.lt
        have hop := huo.1
        clear hok huo hy hz hab hc2 sl sr e1 el er hidx hl1 hr1 hjl hjr
        have v1 : ¬ jr * 3 = jl * 3 := by omega
        have v2 : ¬ jr * 3 = jl * 3 + 1 := by omega
        have v3 : ¬ jr * 3 = jl * 3 + 2 := by omega
        have v4 : ¬ jr * 3 + 1 = jl * 3 := by omega
        have v5 : ¬ jr * 3 + 1 = jl * 3 + 1 := by omega
        have v6 : ¬ jr * 3 + 1 = jl * 3 + 2 := by omega
        have v7 : ¬ jr * 3 + 2 = jl * 3 := by omega
        have v8 : ¬ jr * 3 + 2 = jl * 3 + 1 := by omega
        have v9 : ¬ jr * 3 + 2 = jl * 3 + 2 := by omega
        have u1 : ¬ g2 = wr.heap.size := by omega
        have u2 : ¬ g2 = wr.heap.size + 1 := by omega
        rcases hop with rfl | rfl
        · have HL2 : Hid (SpotIs t l k (xm, xs, xr)) := HH.out.thenL
          have HR2 : Hid (SpotIs t r (k + l.steps.length) (xm ||| a, xs ||| b, xr)) := HH.out.thenR AL.out
          have HZ : Hid (∀ n' W, Nw ((((((wr.setCell ⟨g2, jl * 3, none⟩ (.int .i64 xm)).setCell ⟨g2, jl * 3 + 1, none⟩ (.int .i64 xs)).setCell ⟨g2, jl * 3 + 2, none⟩ (.bool xr)).alloc (.cells #[.int .i64 1, .int .i64 0, .int .i64 jl, .int .i64 jr, .int .i64 0, .int .i64 0] 286)).alloc (.cells #[.int .i64 xm, .int .i64 xs, .bool xr] 234)).drewN n') W →
              (W.cell? ⟨wr.heap.size + 1, 0, none⟩ = some (.int .i64 xm) ∧ W.cell? ⟨wr.heap.size + 1, 1, none⟩ = some (.int .i64 xs) ∧ W.cell? ⟨wr.heap.size + 1, 2, none⟩ = some (.bool xr) ∧ ∀ o, W.frozen? ⟨wr.heap.size + 1, o, none⟩ = false) ∧
              (W.cell? ⟨wr.heap.size, 3, none⟩ = some (.int .i64 jr)) ∧ wr.heap.size + 1 < W.heap.size ∧ SpM w W t gn cn gs cs t.size S wb wi ga g2 g3 abs (sp.set jl (xm, xs, xr)) ss) := by
            intro n' W kW
            have hm2 := HM.out.set2 HLN.out.1 (xm, xs, xr)
            simp only at hm2
            generalize hwa : ((wr.setCell ⟨g2, jl * 3, none⟩ (.int .i64 xm)).setCell ⟨g2, jl * 3 + 1, none⟩ (.int .i64 xs)).setCell ⟨g2, jl * 3 + 2, none⟩ (.bool xr) = wa at *
            have hsz : wa.heap.size = wr.heap.size := by rw [← hwa]; simp
            rw [← hsz]
            have hk0 : wa.heap.size + 1 < ((wa.alloc (.cells #[.int .i64 1, .int .i64 0, .int .i64 jl, .int .i64 jr, .int .i64 0, .int .i64 0] 286)).alloc (.cells #[.int .i64 xm, .int .i64 xs, .bool xr] 234)).heap.size := by simp
            refine ⟨⟨?_, ?_, ?_, ?_⟩, ?_, ?_, ?_⟩
            · rw [kW.cell (by exact hk0) (fun h => h)]; simp [go_sem, World.cell?_alloc_at]
            · rw [kW.cell (by exact hk0) (fun h => h)]; simp [go_sem, World.cell?_alloc_at]
            · rw [kW.cell (by exact hk0) (fun h => h)]; simp [go_sem, World.cell?_alloc_at]
            · intro o; rw [kW.frozen (by exact hk0) (fun h => h)]; simp [go_sem, World.frozen?_alloc_at]
            · rw [kW.cell (by show wa.heap.size < _; exact Nat.lt_of_succ_lt hk0) (fun h => h)]; simp [go_sem, World.cell?_alloc_at]
            · exact Nat.lt_of_lt_of_le hk0 kW.size
            · exact ((hm2.next ((Kp.refl _ _).alloc _)).next ((Kp.refl _ _).alloc _)).next (((Kp.refl _ _).drewN n').trans kW)
          go_wp2
          go_region_with ((go_at_call 178; refine (heldAnd_any xm xs a b _ hxm hxs ha hb).mono ?_; rintro e9 w9 ⟨rfl, k9⟩; obtain ⟨⟨c0, c1, c2, cz⟩, cn3, hlt9, M9⟩ := HZ.out _ _ k9; have M9' : Hid (SpM w w9 t gn cn gs cs t.size S wb wi ga g2 g3 abs (sp.set jl (xm, xs, xr)) ss) := M9; clear M9 k9))
          all_goals
            have kk : Kp (fun b => b = wr.heap.size + 1) w9 ((w9.setCell ⟨wr.heap.size + 1, 0, none⟩ (.int .i64 (xm ||| a : Nat))).setCell ⟨wr.heap.size + 1, 1, none⟩ (.int .i64 (xs ||| b : Nat))) := (((Kp.refl (fun b => b = wr.heap.size + 1) w9)).setCell (p := ⟨wr.heap.size + 1, 0, none⟩) (Or.inr rfl) _).setCell (p := ⟨wr.heap.size + 1, 1, none⟩) (Or.inr rfl) _
            have M10 : Hid (SpM w ((w9.setCell ⟨wr.heap.size + 1, 0, none⟩ (.int .i64 (xm ||| a : Nat))).setCell ⟨wr.heap.size + 1, 1, none⟩ (.int .i64 (xs ||| b : Nat))) t gn cn gs cs t.size S wb wi ga g2 g3 abs (sp.set jl (xm, xs, xr)) ss) := M9'.out.kp1 kk (by omega)
            have d0 : ((w9.setCell ⟨wr.heap.size + 1, 0, none⟩ (.int .i64 (xm ||| a : Nat))).setCell ⟨wr.heap.size + 1, 1, none⟩ (.int .i64 (xs ||| b : Nat))).cell? ⟨wr.heap.size + 1, 0, none⟩ = some (.int .i64 (xm ||| a : Nat)) := by simp [go_sem, c0]
            have d1 : ((w9.setCell ⟨wr.heap.size + 1, 0, none⟩ (.int .i64 (xm ||| a : Nat))).setCell ⟨wr.heap.size + 1, 1, none⟩ (.int .i64 (xs ||| b : Nat))).cell? ⟨wr.heap.size + 1, 1, none⟩ = some (.int .i64 (xs ||| b : Nat)) := by simp [go_sem, c1]
            have d2 : ((w9.setCell ⟨wr.heap.size + 1, 0, none⟩ (.int .i64 (xm ||| a : Nat))).setCell ⟨wr.heap.size + 1, 1, none⟩ (.int .i64 (xs ||| b : Nat))).cell? ⟨wr.heap.size + 1, 2, none⟩ = some (.bool xr) := by simp [go_sem, c2]
            have d3 : ((w9.setCell ⟨wr.heap.size + 1, 0, none⟩ (.int .i64 (xm ||| a : Nat))).setCell ⟨wr.heap.size + 1, 1, none⟩ (.int .i64 (xs ||| b : Nat))).cell? ⟨wr.heap.size, 3, none⟩ = some (.int .i64 jr) := by rw [kk.cell (by show wr.heap.size < _; omega) (by show ¬ wr.heap.size = _; omega)]; exact cn3
            generalize (w9.setCell ⟨wr.heap.size + 1, 0, none⟩ (.int .i64 (xm ||| a : Nat))).setCell ⟨wr.heap.size + 1, 1, none⟩ (.int .i64 (xs ||| b : Nat)) = w10 at *
            obtain ⟨z', hz'⟩ : ∃ y, (sp.set jl (xm, xs, xr))[jr]? = some y := ⟨_, List.getElem?_eq_getElem (by simpa using HLN.out.2)⟩
            obtain ⟨m0, m1, m2⟩ := M10.out.cell2 jr z' hz'
            have mz : ∀ o, w10.frozen? ⟨g2, o, none⟩ = false := M10.out.r2.froz
            clear kk c0 c1 c2 cz cn3 hlt9 M9' hz' n0 n1 n2 n3 n4 n5 f0 f1 f2 z2 g0 g1 g2' q0 q1 q2 b0 b1 p0 p1 p2 p3 pz
            go_wp2
            go_roundg n
            case measure => rw [HMM.out]; omega
            case rel => exact ⟨n, (sp.set jl (xm, xs, xr)).set jr (xm ||| a, xs ||| b, xr), ss, rfl, rfl, by omega, HSP.out.two (x := (xm, xs, xr)) hn HU.out HJL.out HJR.out HL2.out HR2.out, M10.out.set2 (by simpa using HLN.out.2) (xm ||| a, xs ||| b, xr)⟩
        · have HL2 : Hid (SpotIs t l k (xm, xs, xr)) := HH.out.orL
          have HR2 : Hid (SpotIs t r (k + l.steps.length) (xm, xs, xr)) := HH.out.orR
          go_wp2
          go_roundg n
          case measure => rw [HMM.out]; omega
          case rel => exact ⟨n, (sp.set jl (xm, xs, xr)).set jr (xm, xs, xr), ss, rfl, rfl, by omega, HSP.out.two (x := (xm, xs, xr)) hn HU.out HJL.out HJR.out HL2.out HR2.out, (((HM.out.set2 HLN.out.1 (xm, xs, xr)).set2 (by simpa using HLN.out.2) (xm, xs, xr)).next ((Kp.refl _ _).alloc _)).next ((Kp.refl _ _).alloc _)⟩
      | rnd lo hi' b =>
        have hidx := hok.idx
        simp only [Nt.size] at hidx
        have hl1 := b.size_pos
        obtain ⟨jl, hjl⟩ : ∃ jl, jl + 1 = m + b.size := ⟨m + b.size - 1, by omega⟩
        have HJL : Hid (jl + 1 = m + b.size) := hjl
        simp only [Nt.root] at n0 n1 n2 n3 n4 n5
        have el : ((m + b.size : Nat) : Int) - 1 = jl := by omega
        rw [el] at n2
        have hjt' : jl < t.size := by omega
        obtain ⟨y, hy⟩ : ∃ y, sp[jl]? = some y := ⟨_, List.getElem?_eq_getElem (by rw [HSP.out.len]; omega)⟩
        have HLN : Hid (jl < sp.length) := by show _ < _; rw [HSP.out.len]; omega
        obtain ⟨g0, g1, g2'⟩ := hc2 jl y hy
        have HL2 : Hid (SpotIs t b k (xm, xs, true)) := HH.out.rnd
        have u1 : ¬ g2 = wr.heap.size := by omega
        have u2 : ¬ g2 = wr.heap.size + 1 := by omega
        clear hok huo hy hc2 el hidx hl1 hjl
        go_wp2
        go_roundg n
        case measure => rw [HMM.out]; omega
        case rel => exact ⟨n, sp.set jl (xm, xs, true), ss, rfl, rfl, by omega, HSP.out.rnd hn HU.out HJL.out HL2.out, ((HM.out.set2 HLN.out (xm, xs, true)).next ((Kp.refl _ _).alloc _)).next ((Kp.refl _ _).alloc _)⟩
end Go.Proofs.YtcboiapggnmpfaaGreat
