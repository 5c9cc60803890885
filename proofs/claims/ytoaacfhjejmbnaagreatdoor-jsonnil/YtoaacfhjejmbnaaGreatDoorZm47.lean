/- Merged by program: LgRead, LhEval, JnWrite. -/
import Derived.Test.YtoaacfhjejmbnaaGreatDoorZm42
import Derived.Test.YtoaacfhjejmbnaaGreatDoorZm43
import Derived.Test.YtoaacfhjejmbnaaGreatDoorZm46
import Derived.Laws.OwnMore
import Derived.Test.YtoaacfhjejmbnaaGreatDoorZm41
/- json.Read: walked. -/
namespace Go.Proofs.YtoaacfhjejmbnaaGreatDoor
open Go.RowKit
set_option linter.unusedSimpArgs false
set_option linter.unusedVariables false
section
variable {w : World} {ops : Array Oper} {rest : List Oper} {o : Oper} {a : Act} {Q : Exit → Act → World → Prop}
theorem app_ee (hgd : o.guard = none) (s x : Operand) (ho : o.op = .call { callee := .builtin .append, args := #[s, x], argTypes := #[50, 50] })
    (B : Nat) (v : Value) (es : List Hd) (hs : a.eval s = v) (hown : w.ownsRow B 88 7 v es.length (ecs es)) (u : Value) (B' : Nat) (fs : List Hd) (hx : a.eval x = u) (hu : w.ownsRow B' 88 7 u fs.length (ecs fs)) (hk : es.length + fs.length ≤ 3000000) (hB : B ≤ w.heap.size)
    (h : ∀ v' w', Hid (w'.ownsRow B 88 7 v' (es.length + fs.length) (ecs (es ++ fs))) → Hid (Below B w w') → wpList Tryz.prog ops Q rest (a.put o.dst v') w') : wpList Tryz.prog ops Q (o :: rest) a w := by
  obtain ⟨i0, hi, hz0, hz1, hz2⟩ := info_parts infoE
  rcases id hu.2 with ⟨hu0, e0⟩ | ⟨g, cap, cur, hu0, _⟩
  · have hf : fs = [] := List.eq_nil_of_length_eq_zero (by rw [← e0])
    subst hf
    refine wpList_plain hgd fun K hK => ?_
    have hr := run_append_owned_none (P := Tryz.prog) w B 50 o.type 88 i0 7 Tryz.underlying50 hi v es.length (ecs es) hown
    rw [hu0] at hx
    unfold Oper.wp execOp
    simp only [ho, resolve, invoke, builtin, Sem.run_bind, Sem.run_pure, Result.andThen_ok, List.map_toArray, List.map_cons, List.map_nil, hs, hx, hr]
    exact hK _ _ (h v w (show w.ownsRow _ _ _ _ _ _ by simpa using hown) (Below.refl _ _))
  · rw [hu0] at hx hu
    refine wpList_append_own_at w hgd s x 50 ho B 88 i0 _ 7 72 Tryz.underlying50 hi hz0 hz1 hz2 rfl (by decide) v es.length (ecs es) hs hown ⟨g, 0, none⟩ fs.length cap (ecs fs) hx (by rw [ecs_len]) (row_news hu) (ecs_cell _) (by unfold maxLen; omega) (by omega) hB ?_
    intro v' w' h1 h2 _ _
    rw [← ecs_app] at h1
    exact h v' w' h1 ((Below.refl B w).grown h2 hB fun k hk => (World.ownsRow.lt hown k hk).1)
end
def zV : Array Value := #[.int .i64 0, .bool false, .bool false, .string ⟨#[]⟩, .int .i64 0, .int .u64 0, .string ⟨#[]⟩, .slice none 0 0, .slice none 0 0]
/-- What bytes are read as. -/
def readS (l : List UInt8) : Sum Int (List Hd) := bnd (feedS st0 l) fun x => bnd (finS { x with told := [] }) fun y => .inr (x.told ++ y.told)
/-- What Read answers. -/
def RR (w : World) (o : Sum Int (List Hd)) (e : Ending) (w' : World) : Prop :=
  Below w.heap.size w w' ∧ match o with
  | .inl E => e = .returned (.tuple #[.agg zV, .int .i64 E])
  | .inr es => ∃ y E, e = .returned (.tuple #[.agg y, .int .i64 E]) ∧ (E ≠ 0 → y = zV) ∧ (doneS (runE es) = false → E ≠ 0) ∧ (doneS (runE es) = true → ∃ x : VT es.length, es = fl es.length x ∧ IsV es.length x ∧ Sz es.length x ∧ (E = 0 ↔ Win es.length x) ∧ (E = 0 → ∃ ns ls s f, y = vals (vhd es.length x) ns ls ∧ w.heap.size ≤ s ∧ KR es.length w' x ns ls s f))
theorem Wf.t0 {st : St} (h : Wf st) : Wf { st with told := [] } := ⟨⟨h.wk.k1, h.wk.k11, h.wk.b1, h.wk.b11⟩, h.dig, h.n, h.tot⟩
theorem es_own {W : World} {B : Nat} {v : Value} {es : List Hd} (h : W.ownsRow B 88 7 v es.length (ecs es)) : ES W v es := by
  rcases id h.2 with ⟨rfl, e⟩ | ⟨g, cap, cur, rfl, _⟩
  · have : es = [] := List.eq_nil_of_length_eq_zero e
    subst this
    exact ES.nil W
  · exact ES.row h rfl
/-- Nine cells stored. -/
def set9 (w : World) (k : Nat) (h : Hd) (ns ls : Value) : World := ((((((((w.setCell ⟨k, 0, none⟩ (.int .i64 h.kind)).setCell ⟨k, 1, none⟩ (.bool h.flag)).setCell ⟨k, 2, none⟩ (.bool h.neg)).setCell ⟨k, 3, none⟩ (.string h.dig)).setCell ⟨k, 4, none⟩ (.int .i64 h.exp)).setCell ⟨k, 5, none⟩ (.int .u64 h.bits)).setCell ⟨k, 6, none⟩ (.string h.text)).setCell ⟨k, 7, none⟩ ns).setCell ⟨k, 8, none⟩ ls
theorem bx_set9 {w : World} {k : Nat} {h0 : Hd} {n0 l0 : Value} (hb : Bx w k h0 n0 l0) (h : Hd) (ns ls : Value) : Bx (set9 w k h ns ls) k h ns ls ∧ But k w (set9 w k h ns ls) := by
  constructor
  · have h1 := blk_set hb.at_ 0 (.int .i64 h.kind)
    simp [vals] at h1
    have h2 := blk_set h1 1 (.bool h.flag)
    simp at h2
    have h3 := blk_set h2 2 (.bool h.neg)
    simp at h3
    have h4 := blk_set h3 3 (.string h.dig)
    simp at h4
    have h5 := blk_set h4 4 (.int .i64 h.exp)
    simp at h5
    have h6 := blk_set h5 5 (.int .u64 h.bits)
    simp at h6
    have h7 := blk_set h6 6 (.string h.text)
    simp at h7
    have h8 := blk_set h7 7 ns
    simp at h8
    have h9 := blk_set h8 8 ls
    simp at h9
    exact ⟨h9⟩
  · exact (((((((((But.refl k w).set 0 _).set 1 _).set 2 _).set 3 _).set 4 _).set 5 _).set 6 _).set 7 _).set 8 _
theorem Bx.lt' {w : World} {k : Nat} {h : Hd} {ns ls : Value} (hb : Bx w k h ns ls) : k < w.heap.size := (Array.getElem?_eq_some_iff.1 hb.at_).1
/-- What Build answers, its parts named. -/
theorem build_p (v : Value) (es : List Hd) (w : World) (hv : ES w v es) (hs : es.length ≤ 50000) (hz : ∀ e ∈ es, EvZ e) (g : Ut.Gu w) :
    Calls Tryz.prog 29 #[v] w fun e w' => Below w.heap.size w w' ∧ ∃ h a1 m1 d1 a2 m2 d2 E, e = .returned (.tuple #[.agg (vals h (.slice a1 m1 d1) (.slice a2 m2 d2)), .int .i64 E]) ∧ (E ≠ 0 → vals h (.slice a1 m1 d1) (.slice a2 m2 d2) = zV) ∧ (doneS (runE es) = false → E ≠ 0) ∧
      (doneS (runE es) = true → ∃ x : VT es.length, es = fl es.length x ∧ IsV es.length x ∧ Sz es.length x ∧ (E = 0 ↔ Win es.length x) ∧ (E = 0 → h = vhd es.length x ∧ ∃ s f, w.heap.size ≤ s ∧ KR es.length w' x (.slice a1 m1 d1) (.slice a2 m2 d2) s f)) := by
  refine (Build_es v es w hv hs hz g).mono ?_
  rintro e w' ⟨hb, y, E, rfl, h1, h2, h3⟩
  refine ⟨hb, ?_⟩
  by_cases hE : E = 0
  · have hd : doneS (runE es) = true := by
      cases hq : doneS (runE es) with
      | true => rfl
      | false => exact absurd hE (h2 hq)
    obtain ⟨x, k1, k2, k3, k4, k5⟩ := h3 hd
    obtain ⟨ns, ls, s, f, rfl, k6, k7⟩ := k5 hE
    obtain ⟨a1, m1, d1, a2, m2, d2, rfl, rfl⟩ := k7.rd.shape
    exact ⟨_, a1, m1, d1, a2, m2, d2, E, rfl, fun q => absurd hE q, fun q => (by rw [hd] at q; cases q), fun _ => ⟨x, k1, k2, k3, k4, fun _ => ⟨rfl, s, f, k6, k7⟩⟩⟩
  · have hy := h1 hE
    subst hy
    exact ⟨zr 0, none, 0, 0, none, 0, 0, E, rfl, fun _ => rfl, h2, fun hd => by
      obtain ⟨x, k1, k2, k3, k4, k5⟩ := h3 hd
      exact ⟨x, k1, k2, k3, k4, fun q => absurd q hE⟩⟩
set_option maxHeartbeats 1000000 in
set_option maxRecDepth 100000 in
theorem read_r (w : World) (va : Option Addr) (vc : Nat) (l : List UInt8) (hs : ∀ m, SB w w.heap.size m (.slice va l.length vc) l) (gu : Ut.Gu w) (h8 : 8 ≤ w.heap.size) (hlen : ∀ es, readS l = .inr es → es.length ≤ 50000 ∧ ∀ e ∈ es, EvZ e) :
    Calls Tryz.prog 17 #[.slice va l.length vc] w fun e w' => RR w (readS l) e w' := by
  obtain ⟨w0, hw0⟩ : ∃ w0, w0 = w.alloc (.cells (vals (zr 0) (.slice none 0 0) (.slice none 0 0)) 29) := ⟨_, rfl⟩
  have B0 : Below w.heap.size w w0 := by rw [hw0]; exact below_al (Below.refl _ _)
  have X0 : Hid (Bx w0 w.heap.size (zr 0) (.slice none 0 0) (.slice none 0 0)) := ⟨by rw [hw0]; exact heap_alloc_last _ _⟩
  have z0 : w0.heap.size = w.heap.size + 1 := by rw [hw0]; simp
  obtain ⟨k, hk⟩ : ∃ k, w.heap.size = k := ⟨_, rfl⟩
  have N : Hid (Calls Tryz.prog 22 #[] (w.alloc (.cells (vals (zr 0) (.slice none 0 0) (.slice none 0 0)) 29)) fun e w' => ∃ r g m, e = .returned (.pointer (some ⟨r, 0, none⟩)) ∧ RM w' r g m st0 ∧ Below w0.heap.size w0 w' ∧ g.lo = w0.heap.size) := by
    rw [← hw0]
    refine (new_r w0 (gu.below B0) (by omega)).mono ?_
    rintro e w' ⟨r, g, m, h1, h2, h3, h4, _⟩
    exact ⟨r, g, m, h1, h2, h3, h4⟩
  have FD := hide (fun w1 r g m (h : RM w1 r g m st0) (hb : Below w0.heap.size w0 w1) (hg : g.lo = w0.heap.size) => feed_r h st0_wf (v := .slice va l.length vc) (l := l) (by
    have := (hs m)
    refine ⟨this.shape, this.len, fun hl => ?_⟩
    obtain ⟨b, o, c, h1, h2, h3⟩ := this.rd hl
    have hlt : b < w.heap.size := by
      have := h2 0 hl
      unfold World.cell? at this
      by_cases q : b < w.heap.size
      · exact q
      · rw [Array.getElem?_eq_none (by simpa using q)] at this; cases this
    exact ⟨b, o, c, h1, fun j hj => by rw [← h2 j hj, World.cell?_of_block (w := w0) (hb.block b (by omega))]; exact World.cell?_of_block (w := w) (B0.block b hlt), Or.inl (by rw [hg]; omega)⟩))
  have wf := fun x (hx : feedS st0 l = .inr x) => (feedS_wf st0_wf hx).t0
  have her := fun E (hx : feedS st0 l = .inl E) => (feed_er hx).ne
  have B0' := hide B0
  have z0' := hide z0
  have hk' := hide hk
  rw [hk] at X0
  clear hs gu h8 z0 B0 hw0
  unfold readS at hlen ⊢
  generalize feedS st0 l = o at FD wf her hlen ⊢
  simp only [vals, zr] at N
  cases o with
  | inl E =>
    have hE := her E rfl
    have e0 : (E != 0) = true := by simpa using hE
    clear her wf hlen hE
    simp only [bnd]
    go_enter Tryz.func17, Tryz.ntmps17
    go_wp2_with (first
      | (go_at_call 22; refine N.out.mono ?_; rintro e w1 ⟨r, g, m, rfl, hp1, hp2, hp3⟩; have M1 := hide hp1; have B1 := hide hp2; have G1 := hide hp3; clear hp1 hp2 hp3)
      | (go_at_call 23; refine (FD.out _ _ _ _ M1.out B1.out G1.out).mono ?_; rintro e w2 ⟨hp1, rfl, _⟩; have B2 : Hid (Below w0.heap.size w0 w2) := B1.out.trans (G1.out ▸ hp1.below); clear hp1; have X2 : Hid (Bx w2 k (zr 0) (.slice none 0 0) (.slice none 0 0)) := ⟨(B2.out.block k (by have := z0'.out; have := hk'.out; omega)).trans X0.out.at_⟩; have x2 := X2.out.cells; simp only [zr] at x2; obtain ⟨c0, c1, c2, c3, c4, c5, c6, c7, c8⟩ := x2; have fz := X2.out.frz; have kl := X2.out.lt'))
    have Q := bx_set9 X2.out (zr 0) (.slice none 0 0) (.slice none 0 0)
    obtain ⟨Z, hZ⟩ : ∃ Z, set9 w2 k (zr 0) (.slice none 0 0) (.slice none 0 0) = Z := ⟨_, rfl⟩
    rw [hZ] at Q
    simp only [set9, zr] at hZ
    rw [hZ]
    obtain ⟨Q1, Q2⟩ := Q
    obtain ⟨y0, y1, y2, y3, y4, y5, y6, y7, y8⟩ := Q1.cells
    simp only [zr] at y0 y1 y2 y3 y4 y5 y6 y7 y8
    refine bodyPost_ret (v := .tuple #[.agg #[.int .i64 0, .bool false, .bool false, .string ⟨#[]⟩, .int .i64 0, .int .u64 0, .string ⟨#[]⟩, .slice none 0 0, .slice none 0 0], .int .i64 E]) (by simp [results, Tryz.results17, go_sem, y0, y1, y2, y3, y4, y5, y6, y7, y8]) rfl ⟨?_, rfl⟩
    exact (below_then B0'.out B2.out).trans (Q2.below (by rw [hk'.out]; exact Nat.le_refl _))
  | inr x =>
    have hwf := wf x rfl
    have FD2 : Hid (∀ w1 r g m, RM w1 r g m st0 → Below w0.heap.size w0 w1 → g.lo = w0.heap.size → Calls Tryz.prog 23 #[.pointer (some ⟨r, 0, none⟩), .slice va l.length vc] w1 fun e w' => ∃ a n c m', e = .returned (.tuple #[.slice a n c, .int .i64 0]) ∧ RF g m w1 w' ∧ RM w' r g m' { x with told := [] } ∧ m'.told = .slice none 0 0 ∧ w'.ownsRow (r + 1) 88 7 (.slice a n c) x.told.length (ecs x.told)) := fun w1 r g m a1 a2 a3 => (FD.out w1 r g m a1 a2 a3).mono (by
      intro e w' hp
      obtain ⟨h1, m', v, rfl, h2, h3, h4, h5, h6⟩ := hp
      rcases id h5.2 with ⟨rfl, _⟩ | ⟨g', cap, cur, rfl, _⟩
      · exact ⟨_, _, _, m', rfl, h1, h2, h4, h5⟩
      · exact ⟨_, _, _, m', rfl, h1, h2, h4, h5⟩)
    have EN := hide (fun w2 r g m (h : RM w2 r g m { x with told := [] }) => endl_r h hwf)
    have her2 := fun E (hx : finS { x with told := [] } = .inl E) => (fin_er hx).ne
    clear FD wf her hwf
    simp only [bnd] at hlen ⊢
    generalize finS { x with told := [] } = o2 at EN her2 hlen ⊢
    cases o2 with
    | inl E =>
      have hE := her2 E rfl
      have e0 : (E != 0) = true := by simpa using hE
      clear her2 hlen hE
      simp only
      go_enter Tryz.func17, Tryz.ntmps17
      go_wp2_with (first
        | (go_at_call 22; refine N.out.mono ?_; rintro e w1 ⟨r, g, m, rfl, hp1, hp2, hp3⟩; have M1 := hide hp1; have B1 := hide hp2; have G1 := hide hp3; clear hp1 hp2 hp3)
        | (go_at_call 23; refine (FD2.out _ _ _ _ M1.out B1.out G1.out).mono ?_; rintro e w2 ⟨va2, vn2, vc2, m2, rfl, hp1, hp2, hp3, hp4⟩; have B2 : Hid (Below w0.heap.size w0 w2) := B1.out.trans (G1.out ▸ hp1.below); have M2 := hide hp2; have T2 := hide hp3; have V2 := hide hp4; clear hp1 hp2 hp3 hp4)
        | (go_at_call 24; refine (EN.out _ _ _ _ M2.out).mono ?_; rintro e w3 ⟨hp1, rfl, _⟩; have B3 : Hid (Below w0.heap.size w0 w3) := B2.out.trans (G1.out ▸ hp1.below); clear hp1; have X3 : Hid (Bx w3 k (zr 0) (.slice none 0 0) (.slice none 0 0)) := ⟨(B3.out.block k (by have := z0'.out; have := hk'.out; omega)).trans X0.out.at_⟩; have x3 := X3.out.cells; simp only [zr] at x3; obtain ⟨c0, c1, c2, c3, c4, c5, c6, c7, c8⟩ := x3; have fz := X3.out.frz; have kl := X3.out.lt'))
      have Q := bx_set9 X3.out (zr 0) (.slice none 0 0) (.slice none 0 0)
      obtain ⟨Z, hZ⟩ : ∃ Z, set9 w3 k (zr 0) (.slice none 0 0) (.slice none 0 0) = Z := ⟨_, rfl⟩
      rw [hZ] at Q
      simp only [set9, zr] at hZ
      rw [hZ]
      obtain ⟨Q1, Q2⟩ := Q
      obtain ⟨y0, y1, y2, y3, y4, y5, y6, y7, y8⟩ := Q1.cells
      simp only [zr] at y0 y1 y2 y3 y4 y5 y6 y7 y8
      refine bodyPost_ret (v := .tuple #[.agg #[.int .i64 0, .bool false, .bool false, .string ⟨#[]⟩, .int .i64 0, .int .u64 0, .string ⟨#[]⟩, .slice none 0 0, .slice none 0 0], .int .i64 E]) (by simp [results, Tryz.results17, go_sem, y0, y1, y2, y3, y4, y5, y6, y7, y8]) rfl ⟨?_, rfl⟩
      exact (below_then B0'.out B3.out).trans (Q2.below (by rw [hk'.out]; exact Nat.le_refl _))
    | inr y =>
      clear her2
      obtain ⟨hl1, hl2⟩ := hlen _ rfl
      have EN2 : Hid (∀ w2 r g m vl, RM w2 r g m { x with told := [] } → m.told = .slice none 0 0 → w2.ownsRow (r + 1) 88 7 vl x.told.length (ecs x.told) → Calls Tryz.prog 24 #[.pointer (some ⟨r, 0, none⟩)] w2 fun e w' => ∃ a n c, e = .returned (.tuple #[.slice a n c, .int .i64 0]) ∧ RF g m w2 w' ∧ w'.ownsRow (r + 1) 88 7 vl x.told.length (ecs x.told) ∧ w'.ownsRow (r + 1) 88 7 (.slice a n c) y.told.length (ecs y.told)) := fun w2 r g m vl a1 a2 a3 => (EN.out w2 r g m a1).mono (by
        intro e w' hp
        obtain ⟨h1, v, rfl, h2, h3, h4⟩ := hp
        have k3 : w'.ownsRow (r + 1) 88 7 vl x.told.length (ecs x.told) := own_of a3 fun q hq _ => by
          obtain ⟨c, f, hc⟩ := own_blk a3 hq
          rw [h1.blk hc ⟨ty_ne hc a1.word (by decide), ty_ne hc a1.held (by decide), by rw [a2]; intro e; cases e⟩ (by decide) (by decide) (by decide) (by decide) (by decide) (by decide), hc]
        rcases id h3.2 with ⟨rfl, _⟩ | ⟨g', cap, cur, rfl, _⟩
        · exact ⟨_, _, _, rfl, h1, k3, h3⟩
        · exact ⟨_, _, _, rfl, h1, k3, h3⟩)
      have BU := hide (fun w4 v (hv : ES w4 v (x.told ++ y.told)) (g : Ut.Gu w4) => build_p v (x.told ++ y.told) w4 hv hl1 hl2 g)
      have hl1' := hide hl1
      clear EN hlen hl1 hl2
      simp only
      go_enter Tryz.func17, Tryz.ntmps17
      go_wp2_with (first
        | (go_at_call 22; refine N.out.mono ?_; rintro e w1 ⟨r, g, m, rfl, hp1, hp2, hp3⟩; have M1 := hide hp1; have B1 := hide hp2; have G1 := hide hp3; clear hp1 hp2 hp3)
        | (go_at_call 23; refine (FD2.out _ _ _ _ M1.out B1.out G1.out).mono ?_; rintro e w2 ⟨va2, vn2, vc2, m2, rfl, hp1, hp2, hp3, hp4⟩; have B2 : Hid (Below w0.heap.size w0 w2) := B1.out.trans (G1.out ▸ hp1.below); have M2 := hide hp2; have T2 := hide hp3; have V2 := hide hp4; clear hp1 hp2 hp3 hp4)
        | (go_at_call 24; refine (EN2.out _ _ _ _ _ M2.out T2.out V2.out).mono ?_; rintro e w3 ⟨va3, vn3, vc3, rfl, hp1, hp2, hp3⟩; have B3 : Hid (Below w0.heap.size w0 w3) := B2.out.trans (G1.out ▸ hp1.below); have U3 := hide hp2; have V3 := hide hp3; have GU : Hid (Ut.Gu w3) := Gu.low M2.out.gu hp1.below M2.out.gk.low; have r3 : Hid (r + 1 ≤ w3.heap.size) := (by have := M2.out.lt; have := hp1.below.size; show r + 1 ≤ w3.heap.size; omega); have gl : Hid (8 ≤ r + 1) := (by have := M2.out.gk.loR; have := M2.out.gk.low; show 8 ≤ r + 1; omega); have rk : Hid (k < r + 1) := (by have := M2.out.gk.loR; have := G1.out; have := z0'.out; have := hk'.out; show k < r + 1; omega); clear hp1 hp2 hp3)
        | (at_builtin; refine Sto.out ?_))
      refine Sto.mk ?_
      refine app_ee rfl (.tmp 28) (.tmp 29) rfl (r + 1) _ x.told rfl U3.out _ (r + 1) y.told rfl V3.out (by have := hl1'.out; rw [List.length_append] at this; omega) r3.out ?_
      intro v' w4 ho hb4
      have es4 : ES w4 v' (x.told ++ y.told) := es_own (by have := ho.out; rw [← List.length_append] at this; exact this)
      have B4 : Hid (Below w0.heap.size w0 w4) := B3.out.trans (hb4.out.mono (by have := G1.out; have := M2.out.gk.loR; omega))
      have BB := hide (BU.out w4 v' es4 (Gu.low GU.out hb4.out gl.out))
      obtain ⟨a4, c4', hv4, _⟩ := es4
      obtain ⟨nn, hnn⟩ : ∃ nn, (x.told ++ y.told).length = nn := ⟨_, rfl⟩
      rw [hnn] at hv4
      subst hv4
      clear hnn
      have k4 : k < w4.heap.size := by have := hb4.out.size; have := r3.out; have := rk.out; omega
      have X4 : Hid (Bx w4 k (zr 0) (.slice none 0 0) (.slice none 0 0)) := ⟨(B4.out.block k (by have := z0'.out; have := hk'.out; omega)).trans X0.out.at_⟩
      clear BU ho hb4 N FD2 EN2
      go_wp2_with (go_at_call 29; refine Sto.out ?_)
      refine Sto.mk (BB.out.mono ?_)
      rintro e w5 ⟨hp1, h5, a1, n1, d1, a2, n2, d2, E5, rfl, hp2, hp3, hp4⟩
      simp only [vals]
      have B5 := hide hp1
      have P2 := hide hp2
      have P3 := hide hp3
      have P4 := hide hp4
      clear hp1 hp2 hp3 hp4
      have X5 : Hid (Bx w5 k (zr 0) (.slice none 0 0) (.slice none 0 0)) := ⟨(B5.out.block k k4).trans X4.out.at_⟩
      have x5 := X5.out.cells
      simp only [zr] at x5
      obtain ⟨c0, c1, c2, c3, c4, c5, c6, c7, c8⟩ := x5
      have fz := X5.out.frz
      have kl := X5.out.lt'
      go_wp2_with fail
      have Q := bx_set9 X5.out h5 (.slice a1 n1 d1) (.slice a2 n2 d2)
      obtain ⟨Z, hZ⟩ : ∃ Z, set9 w5 k h5 (.slice a1 n1 d1) (.slice a2 n2 d2) = Z := ⟨_, rfl⟩
      rw [hZ] at Q
      simp only [set9] at hZ
      rw [hZ]
      obtain ⟨Q1, Q2⟩ := Q
      obtain ⟨y0, y1, y2, y3, y4, y5, y6, y7, y8⟩ := Q1.cells
      refine bodyPost_ret (v := .tuple #[.agg #[.int .i64 h5.kind, .bool h5.flag, .bool h5.neg, .string h5.dig, .int .i64 h5.exp, .int .u64 h5.bits, .string h5.text, .slice a1 n1 d1, .slice a2 n2 d2], .int .i64 E5]) (by simp [results, Tryz.results17, go_sem, y0, y1, y2, y3, y4, y5, y6, y7, y8]) rfl ⟨?_, vals h5 (.slice a1 n1 d1) (.slice a2 n2 d2), E5, rfl, P2.out, P3.out, fun hd => ?_⟩
      · exact ((below_then B0'.out B4.out).trans (B5.out.mono (by have := hk'.out; omega))).trans (Q2.below (by rw [hk'.out]; exact Nat.le_refl _))
      · obtain ⟨z, q1, q2, q3, q4, q5⟩ := P4.out hd
        refine ⟨z, q1, q2, q3, q4, fun hE => ?_⟩
        obtain ⟨rfl, s, f, q6, q7⟩ := q5 hE
        have hw4 := B4.out.size
        have hz0 := z0'.out
        refine ⟨_, _, s, f, rfl, by omega, q7.move (by rw [Q2.size]; exact q7.2.1) fun j h1 h2 => Q2.blk j (by omega)⟩
end Go.Proofs.YtoaacfhjejmbnaaGreatDoor
/- The examples that are read, as the machine reads them. -/
namespace Go.Proofs.YtoaacfhjejmbnaaGreatDoor
open Go.RowKit
set_option linter.unusedSimpArgs false
set_option linter.unusedVariables false
def exA : List UInt8 := [32, 91, 49, 44, 32, 50, 46, 48, 101, 49, 32, 44, 34, 92, 117, 48, 48, 101, 57, 92, 117, 100, 56, 51, 100, 92, 117, 100, 101, 48, 48, 34, 93, 32]
def exB : List UInt8 := [91, 49, 44, 93]
def exC : List UInt8 := [91, 91, 91, 91, 91, 91, 91, 91, 91, 91, 91, 91, 91, 91, 91, 91, 91, 93, 93, 93, 93, 93, 93, 93, 93, 93, 93, 93, 93, 93, 93, 93, 93, 93]
def exE : List Hd := [zr 7, { zr 3 with dig := ⟨#[49]⟩ }, { zr 3 with dig := ⟨#[50]⟩, exp := 1 }, { zr 5 with text := ⟨#[195, 169, 240, 159, 152, 128]⟩ }, zr 11]
set_option maxRecDepth 100000 in
theorem exA_rd : readS exA = .inr exE := by kernel_rfl
set_option maxRecDepth 100000 in
theorem exB_rd : readS exB = .inl 70 := by kernel_rfl
set_option maxRecDepth 100000 in
theorem exC_rd : readS exC = .inl 2 := by kernel_rfl
end Go.Proofs.YtoaacfhjejmbnaaGreatDoor
/- json.Write: walked. -/
namespace Go.Proofs.YtoaacfhjejmbnaaGreatDoor
open Go.RowKit
set_option linter.unusedSimpArgs false
set_option linter.unusedVariables false
/-- What Write answers. -/
def JW (n : Nat) (x : VT n) (E : Int) (w : World) (e : Ending) (w' : World) : Prop :=
  Below w.heap.size w w' ∧ (E ≠ 0 → e = .returned (.tuple #[.slice none 0 0, .int .i64 E])) ∧ (E = 0 → ((jtx n x).length ≤ 65536 → ∃ a m c, e = .returned (.tuple #[.slice a m c, .int .i64 0]) ∧ Own w' w.heap.size (.slice a m c) (jtx n x)) ∧ (65536 < (jtx n x).length → e = .returned (.tuple #[.slice none 0 0, .int .i64 2])))
theorem ownsRow_low {W : World} {B B' T sz n : Nat} {v : Value} {xs : List Value} (h : W.ownsRow B T sz v n xs) (hb : B' ≤ B) : W.ownsRow B' T sz v n xs := by
  refine ⟨h.1, ?_⟩
  rcases h.2 with h0 | ⟨g, cap, cur, rfl, h1, h2⟩
  · exact Or.inl h0
  · exact Or.inr ⟨g, cap, cur, rfl, Nat.le_trans hb h1, h2⟩
set_option maxHeartbeats 2000000 in
set_option maxRecDepth 100000 in
theorem jwrite_any (n : Nat) (x : VT n) (ns ls : Value) (w : World) (hr : Rdy n w x ns ls) (hg : Rg n x) (g : Ut.Gu w) (ht : Tab w.heap.size w) (E : Int) (hE : Chk n x E) :
    Calls Tryz.prog 11 #[.agg (vals (vhd n x) ns ls)] w fun e w' => JW n x E w e w' := by
  have hmf : ∀ (fn : Fn) (first cap : Array Value) (w : World), (Instr.makeFunc fn first cap).run Tryz.prog w = .ok (.func fn first cap) w := fun _ _ _ _ => rfl
  have ck := hide (fun o1 o2 o3 => check_any n x ns ls (((w.alloc o1).alloc o2).alloc o3) (hr.below (below_al (below_al (below_al (Below.refl _ _))))) (g.below (below_al (below_al (below_al (Below.refl _ _))))) E hE)
  obtain ⟨a1, m1, d1, a2, m2, d2, rfl, rfl⟩ := hr.rd.shape
  obtain ⟨h, hh⟩ : ∃ h, vhd n x = h := ⟨_, rfl⟩
  have hr' := hide hr
  have hg' := hide hg
  have ht' := hide ht
  have hE' := hide hE
  have hh' := hide hh
  rw [hh] at ck ⊢
  simp only [vals] at ck
  clear hr hg ht hE hh g
  show Calls _ _ #[.agg #[.int .i64 h.kind, .bool h.flag, .bool h.neg, .string h.dig, .int .i64 h.exp, .int .u64 h.bits, .string h.text, .slice a1 m1 d1, .slice a2 m2 d2]] _ _
  go_enter_defers Tryz.func11, Tryz.ntmps11
  go_wp2_with (go_at_call 32; refine Sto.out ?_)
  refine Sto.mk ((ck.out _ _ _).mono ?_)
  rintro e w1 ⟨rfl, hb1⟩
  have B1 : Hid (Below w.heap.size w w1) := below_then (below_al (below_al (below_al (Below.refl _ _)))) hb1
  have C1 : Hid (∀ q, q < w.heap.size + 1 + 1 + 1 → w1.heap[q]? = (((w.alloc (.cells (vals h (.slice a1 m1 d1) (.slice a2 m2 d2)) 29)).alloc (.cells #[.slice none 0 0] 32)).alloc (.cells #[.int .i64 0] 33)).heap[q]?) := fun q hq => hb1.block q (by simpa using hq)
  have z1 : w.heap.size + 1 + 1 < w1.heap.size := by have := hb1.size; simp at this; omega
  have V1 : Hid (Bx w1 w.heap.size h (.slice a1 m1 d1) (.slice a2 m2 d2)) := ⟨by
    rw [C1.out _ (by omega), Below.heap_alloc _ _ _ (by simp; omega), Below.heap_alloc _ _ _ (by simp)]
    exact heap_alloc_last _ _⟩
  have R1 : Hid (w1.heap[w.heap.size + 1]? = some (.cells #[.slice none 0 0] 32 (0, 0))) := by
    show _ = _
    rw [C1.out _ (by omega), Below.heap_alloc _ _ _ (by simp)]
    have := heap_alloc_last (w.alloc (.cells (vals h (.slice a1 m1 d1) (.slice a2 m2 d2)) 29)) (.cells #[.slice none 0 0] 32)
    rw [World.size_alloc] at this
    exact this
  have R2 : Hid (w1.heap[w.heap.size + 1 + 1]? = some (.cells #[.int .i64 0] 33 (0, 0))) := by
    show _ = _
    rw [C1.out _ (by omega)]
    have := heap_alloc_last ((w.alloc (.cells (vals h (.slice a1 m1 d1) (.slice a2 m2 d2)) 29)).alloc (.cells #[.slice none 0 0] 32)) (.cells #[.int .i64 0] 33)
    rw [World.size_alloc, World.size_alloc] at this
    exact this
  have c1 : w1.cell? ⟨w.heap.size + 1, 0, none⟩ = some (.slice none 0 0) := by simp [World.cell?, R1.out]
  have f1 : w1.frozen? ⟨w.heap.size + 1, 0, none⟩ = false := by simp [World.frozen?, R1.out]
  have c2 : w1.cell? ⟨w.heap.size + 1 + 1, 0, none⟩ = some (.int .i64 0) := by simp [World.cell?, R2.out]
  have f2 : w1.frozen? ⟨w.heap.size + 1 + 1, 0, none⟩ = false := by simp [World.frozen?, R2.out]
  clear hb1 ck
  by_cases e0 : E = 0
  · have ne0 : (E != 0) = false := by simpa using e0
    obtain ⟨hi, hw0⟩ : IsV n x ∧ Win n x := by
      rcases hE'.out with ⟨q, _⟩ | ⟨q, _⟩ | ⟨_, q1, q2⟩
      · omega
      · omega
      · exact ⟨q1, q2⟩
    have vk := hide (fun W (b : Below w.heap.size w W) i (hi2 : w.heap.size ≤ i) (y : WB W i []) => jval_all n x (.slice a1 m1 d1) (.slice a2 m2 d2) w W i [] ⟨hr'.out.rd, ⟨hi, hw0.1, hg'.out⟩, hi2, b, ht'.out⟩ y (by simp))
    rw [hh'.out] at vk
    simp only [vals] at vk
    obtain ⟨v0, v1, v2, v3, v4, v5, v6, v7, v8⟩ := V1.out.cells
    have e0' := hide e0
    clear e0 hi hw0
    have zz1 : w.heap.size < w1.heap.size := by omega
    have zz2 : w.heap.size + 1 < w1.heap.size := by omega
    go_wp2_with (go_at_call 34; refine Sto.out ?_)
    refine Sto.mk ((vk.out _ (below_al B1.out) w1.heap.size (by omega) ⟨.slice none 0 0, heap_alloc_last _ _, own_nil _ _⟩).mono ?_)
    rintro e w2 hw
    have R1' : Hid (w2.heap[w.heap.size + 1]? = some (.cells #[.slice none 0 0] 32 (0, 0))) := by show _ = _; rw [hw.1.1.block _ (by omega), Below.heap_alloc _ _ _ (by omega)]; exact R1.out
    have R2' : Hid (w2.heap[w.heap.size + 1 + 1]? = some (.cells #[.int .i64 0] 33 (0, 0))) := by show _ = _; rw [hw.1.1.block _ (by omega), Below.heap_alloc _ _ _ (by omega)]; exact R2.out
    have B2 : Hid (Below w.heap.size w w2) := (below_al B1.out).trans (hw.1.1.mono (by omega))
    clear c1 f1 c2 f2 v0 v1 v2 v3 v4 v5 v6 v7 v8
    have c1 : w2.cell? ⟨w.heap.size + 1, 0, none⟩ = some (.slice none 0 0) := by simp [World.cell?, R1'.out]
    have f1 : w2.frozen? ⟨w.heap.size + 1, 0, none⟩ = false := by simp [World.frozen?, R1'.out]
    have c2 : w2.cell? ⟨w.heap.size + 1 + 1, 0, none⟩ = some (.int .i64 0) := by simp [World.cell?, R2'.out]
    have f2 : w2.frozen? ⟨w.heap.size + 1 + 1, 0, none⟩ = false := by simp [World.frozen?, R2'.out]
    have n12 : w.heap.size + 1 ≠ w.heap.size + 1 + 1 := by omega
    obtain ⟨hf, ⟨q1, rfl, v', hv', ho'⟩ | ⟨q1, rfl⟩⟩ := hw
    · obtain ⟨b1, b2, b3, rfl⟩ : ∃ b1 b2 b3, v' = .slice b1 b2 b3 := by
        rcases ho'.2 with ⟨rfl, e⟩ | ⟨g, cap, cur, rfl, _⟩
        · exact ⟨_, _, _, rfl⟩
        · exact ⟨_, _, _, rfl⟩
      have c3 : w2.cell? ⟨w1.heap.size, 0, none⟩ = some (.slice b1 b2 b3) := by simp [World.cell?, hv']
      have O2 := hide ho'
      have Q1 := hide q1
      clear hf hv' ho' q1
      go_wp2_with fail
      refine leaves_cons (f := 33) (args := #[.pointer (some ⟨w.heap.size + 1, 0, none⟩), .pointer (some ⟨w.heap.size + 1 + 1, 0, none⟩)]) (by simp) (by simp [go_sem]) ?_
      refine (wcatch_idle ⟨w.heap.size + 1, 0, none⟩ ⟨w.heap.size + 1 + 1, 0, none⟩ _).mono ?_
      rintro e u' w'' ⟨rfl, rfl, rfl⟩
      simp [Leaves, settle, results, Tryz.results11, go_sem, *]
      have hbb : Below w.heap.size w ((w2.setCell ⟨w.heap.size + 1, 0, none⟩ (.slice b1 b2 b3)).setCell ⟨w.heap.size + 1 + 1, 0, none⟩ (.int .i64 0)) := (B2.out.setCell (p := ⟨w.heap.size + 1, 0, none⟩) (show w.heap.size ≤ w.heap.size + 1 by omega) _).setCell (p := ⟨w.heap.size + 1 + 1, 0, none⟩) (show w.heap.size ≤ w.heap.size + 1 + 1 by omega) _
      refine ⟨hbb, fun q => absurd e0'.out q, fun _ => ⟨fun _ => ⟨b1, b2, b3, rfl, ?_⟩, fun q => (by have := Q1.out; simp at this; omega)⟩⟩
      have ho := O2.out
      rw [List.nil_append] at ho
      have hlt := World.ownsRow.lt ho
      refine ownsRow_of (ownsRow_low ho (by omega)) fun g e hg => ?_
      have := (hlt g e).1
      rw [heap_set_ne (by omega), heap_set_ne (by omega)]
    · have Q1 := hide q1
      clear hf q1
      go_wp2_with fail
      unfold pan
      refine leaves_cons (f := 33) (args := #[.pointer (some ⟨w.heap.size + 1, 0, none⟩), .pointer (some ⟨w.heap.size + 1 + 1, 0, none⟩)]) (by simp) (by simp [go_sem]) ?_
      refine (wcatch_pan ⟨w.heap.size + 1, 0, none⟩ ⟨w.heap.size + 1 + 1, 0, none⟩ 0 (.slice none 0 0) [] _ c1 f1 c2 f2 (by simp) 2).mono ?_
      rintro e u' w'' ⟨rfl, rfl, rfl⟩
      simp [Leaves, settle, results, Tryz.results11, go_sem, *]
      have hbb : Below w.heap.size w ((w2.setCell ⟨w.heap.size + 1, 0, none⟩ (.slice none 0 0)).setCell ⟨w.heap.size + 1 + 1, 0, none⟩ (.int .i64 2)) := (B2.out.setCell (p := ⟨w.heap.size + 1, 0, none⟩) (show w.heap.size ≤ w.heap.size + 1 by omega) _).setCell (p := ⟨w.heap.size + 1 + 1, 0, none⟩) (show w.heap.size ≤ w.heap.size + 1 + 1 by omega) _
      exact ⟨hbb, fun q => absurd e0'.out q, fun _ => ⟨fun q => (by have := Q1.out; simp at this; omega), fun _ => rfl⟩⟩
  · have ne0 : (E != 0) = true := by simpa using e0
    have n12 : w.heap.size + 1 ≠ w.heap.size + 1 + 1 := by omega
    go_wp2_with fail
    simp [bodyPostD, Leaves, settle, results, Tryz.results11, go_sem, *]
    have hbb : Below w.heap.size w ((w1.setCell ⟨w.heap.size + 1, 0, none⟩ (.slice none 0 0)).setCell ⟨w.heap.size + 1 + 1, 0, none⟩ (.int .i64 E)) := (B1.out.setCell (p := ⟨w.heap.size + 1, 0, none⟩) (show w.heap.size ≤ w.heap.size + 1 by omega) _).setCell (p := ⟨w.heap.size + 1 + 1, 0, none⟩) (show w.heap.size ≤ w.heap.size + 1 + 1 by omega) _
    exact ⟨hbb, fun _ => rfl, fun q => absurd q e0⟩
end Go.Proofs.YtoaacfhjejmbnaaGreatDoor
