/- calamusref01's Add; num.Cmp of structs that are no numbers: walked. -/
import Derived.Test.YtjpdlibncmldlaaDoorQhCmp
namespace Go.Proofs.YtjpdlibncmldlaaDoor
open Go.RowKit
set_option linter.unusedSimpArgs false
set_option linter.unusedVariables false
/-- Sums and differences of sizes, as Made takes them. -/
theorem sum_of (neg : Bool) (l : List Nat) (x : Int) (Z : Int) (hd : Dgs l) (hx : -400 ≤ x) (h : Z = if neg then -((val l * 10 ^ (x + 400).toNat : Nat) : Int) else ((val l * 10 ^ (x + 400).toNat : Nat) : Int)) : IsSum Z (formF neg l x) := by
  rw [h]; exact formF_sum neg l x hd hx
theorem add_scale {v p q X : Nat} (h : v = p + q) : v * X = p * X + q * X := by rw [h, Nat.add_mul]
theorem sub_scale {v p q X : Nat} (h : v + p = q) : v * X + p * X = q * X := by rw [← Nat.add_mul, h]
theorem formF_err (neg : Bool) (l : List Nat) (x : Int) {fb : Bool} {fs : ByteArray} {fx fe : Int} (h : formF neg l x = (fb, fs, fx, fe)) : fe = 0 ∨ (fb = false ∧ fs = ⟨#[]⟩ ∧ fx = 0 ∧ fe = 2) := by
  unfold formF at h
  split at h
  · left; exact (congrArg (fun r => r.2.2.2) h).symm
  · split at h
    · left; exact (congrArg (fun r => r.2.2.2) h).symm
    · right
      exact ⟨(congrArg (fun r => r.1) h).symm, (congrArg (fun r => r.2.1) h).symm, (congrArg (fun r => r.2.2.1) h).symm, (congrArg (fun r => r.2.2.2) h).symm⟩
set_option maxHeartbeats 4000000 in
theorem radd_any (na : Bool) (a : ByteArray) (xa : Int) (nb : Bool) (b : ByteArray) (xb : Int) (w : World) (ha : a.size ≤ maxLen) (hb : b.size ≤ maxLen) :
    Calls Tryd.prog 20 #[.agg #[.bool na, .string a, .int .i64 xa], .agg #[.bool nb, .string b, .int .i64 xb]] w fun e w' => ∃ rn rs rx re, e = retF (rn, rs, rx, re) ∧ Hid (AddP na a xa nb b xb (rn, rs, rx, re)) ∧ Hid (Below w.heap.size w w') := by
  have B0 := hide (boxes_new w na a xa nb b xb)
  cases h1 : isN na a xa
  · go_enter Tryd.func20, Tryd.ntmps20
    go_wp2_with fail
    go_fit (ris_of na a xa _ ha false h1)
    rintro e w1 ⟨rfl, hb1⟩
    have B1 := hide (B0.out.then hb1)
    obtain ⟨c0, c1, c2, f0, f1, f2⟩ := B1.out.b2.cells
    clear hb1
    go_wp2
    refine bodyPost_ret (v := .tuple #[.agg #[.bool false, .string ⟨#[]⟩, .int .i64 0], .int .i64 10]) (by simp [results, Tryd.results20, go_sem, c0, c1, c2]) rfl ⟨false, ⟨#[]⟩, 0, 10, rfl, Or.inr ⟨by rw [h1]; simp, rfl⟩, ?_⟩
    exact ((B1.out.below.setCell (by show w.heap.size ≤ w.heap.size + 1 + 1; omega) _).setCell (by show w.heap.size ≤ w.heap.size + 1 + 1; omega) _).setCell (by show w.heap.size ≤ w.heap.size + 1 + 1; omega) _
  · cases h2 : isN nb b xb
    · go_enter Tryd.func20, Tryd.ntmps20
      go_wp2_with fail
      go_fit (ris_of na a xa _ ha true h1)
      rintro e w1 ⟨rfl, hb1⟩
      have B1 := hide (B0.out.then hb1)
      obtain ⟨c0, c1, c2, f0, f1, f2⟩ := B1.out.b1.cells
      clear hb1
      go_wp2_with fail
      go_fit (ris_of nb b xb _ hb false h2)
      rintro e w2 ⟨rfl, hb2⟩
      have B2 := hide (B1.out.then hb2)
      clear hb2 c0 c1 c2 f0 f1 f2
      obtain ⟨c0, c1, c2, f0, f1, f2⟩ := B2.out.b2.cells
      go_wp2
      refine bodyPost_ret (v := .tuple #[.agg #[.bool false, .string ⟨#[]⟩, .int .i64 0], .int .i64 10]) (by simp [results, Tryd.results20, go_sem, c0, c1, c2]) rfl ⟨false, ⟨#[]⟩, 0, 10, rfl, Or.inr ⟨by rw [h2]; simp, rfl⟩, ?_⟩
      exact ((B2.out.below.setCell (by show w.heap.size ≤ w.heap.size + 1 + 1; omega) _).setCell (by show w.heap.size ≤ w.heap.size + 1 + 1; omega) _).setCell (by show w.heap.size ≤ w.heap.size + 1 + 1; omega) _
    · obtain ⟨da, ea, d1, d2, d3, d4, d5⟩ := isN_digits h1
      obtain ⟨db, eb, g1, g2, g3, g4, g5⟩ := isN_digits h2
      have HA := hide (fun w => aligned_any na nb da db xa xb w d1 g1 d2 g2 d3 d4 g3 g4)
      rw [← ea, ← eb] at HA
      have key : Hid (∀ (P Q : List Nat) (x : Int), val P * 10 ^ (x + 400).toNat = val da * 10 ^ (xa + 400).toNat → val Q * 10 ^ (x + 400).toNat = val db * 10 ^ (xb + 400).toNat → mag a xa = val P * 10 ^ (x + 400).toNat ∧ mag b xb = val Q * 10 ^ (x + 400).toNat) := fun P Q x p q => ⟨by rw [d5, p], by rw [g5, q]⟩
      clear d5 g5 ea eb d1 d2 d3 d4 g1 g2 g3 g4
      -- what Made makes of the digits is the sum
      have fin : Hid (∀ (neg : Bool) (l : List Nat) (x : Int), Dgs l → -400 ≤ x → (Zv na a xa + Zv nb b xb = if neg then -((val l * 10 ^ (x + 400).toNat : Nat) : Int) else ((val l * 10 ^ (x + 400).toNat : Nat) : Int)) → AddP na a xa nb b xb (formF neg l x)) := fun neg l x hd hx h => Or.inl ⟨h1, h2, sum_of neg l x _ hd hx h⟩
      go_enter Tryd.func20, Tryd.ntmps20
      go_wp2_with fail
      go_fit (ris_of na a xa _ ha true h1)
      rintro e w1 ⟨rfl, hb1⟩
      have B1 := hide (B0.out.then hb1)
      obtain ⟨c0, c1, c2, f0, f1, f2⟩ := B1.out.b1.cells
      clear hb1
      go_wp2_with fail
      go_fit (ris_of nb b xb _ hb true h2)
      rintro e w2 ⟨rfl, hb2⟩
      have B2 := hide (B1.out.then hb2)
      clear hb2 c0 c1 c2 f0 f1 f2
      obtain ⟨c0, c1, c2, f0, f1, f2⟩ := B2.out.b1.cells
      obtain ⟨q0, q1, q2, k0, k1, k2⟩ := B2.out.b0.cells
      go_wp2_with fail
      go_fit (HA.out _)
      rintro e w3 ⟨⟨P, Q, x, m, rfl, p1, p2, p3, p4, p5, p6, p7, p8, p9⟩, hb3⟩
      have B3 := hide (B2.out.then hb3)
      clear hb3 c0 c1 c2 f0 f1 f2 q0 q1 q2 k0 k1 k2
      obtain ⟨m1, m2⟩ := key.out P Q x p8 p9
      have M1 := hide m1
      have M2 := hide m2
      have P1 := hide p1
      have P2 := hide p2
      have P3 := hide p3
      have P4 := hide p4
      clear p1 p2 p3 p4 p8 p9 m1 m2
      obtain ⟨c0, c1, c2, f0, f1, f2⟩ := B3.out.b1.cells
      obtain ⟨q0, q1, q2, k0, k1, k2⟩ := B3.out.b0.cells
      -- the end: Made, and its answer told
      cases na <;> cases nb
      · go_wp2_with fail
        go_fit (plus_any P Q m _ P1.out P2.out P3.out P4.out (by omega))
        rintro e w4 ⟨⟨l, rfl, l1, l2, l3⟩, hb4⟩
        have B4 := hide (B3.out.then hb4)
        have FF := hide (fin.out false l x l1 p6 (by
                  have h9 := add_scale (X := 10 ^ (x + 400).toNat) l3
                  have n1 := M1.out
                  have n2 := M2.out
                  simp only [Zv, if_true, if_false, Bool.false_eq_true]
                  omega))
        have L1 := hide l1
        have L2 := hide l2
        clear hb4 c0 c1 c2 f0 f1 f2 q0 q1 q2 k0 k1 k2 l1 l2 l3
        obtain ⟨c0, c1, c2, f0, f1, f2⟩ := B4.out.b1.cells
        obtain ⟨fb, fs, fx, fe, hfe⟩ : ∃ fb fs fx fe, formF false l x = (fb, fs, fx, fe) := ⟨_, _, _, _, rfl⟩
        rw [hfe] at FF
        have herr := formF_err false l x hfe
        have HF := hide hfe
        clear hfe
        go_wp2_with fail
        go_fit (made_any false l x _ L1.out (by have := L2.out; omega) (by omega) (by omega))
        rw [HF.out]
        rintro e w5 ⟨rfl, hb5⟩
        have B5 := hide (B4.out.then hb5)
        clear hb5 c0 c1 c2 f0 f1 f2
        obtain ⟨c0, c1, c2, f0, f1, f2⟩ := B5.out.b2.cells
        have hlt := B5.out.b2.lt
        rcases herr with rfl | ⟨rfl, rfl, rfl, rfl⟩
        · simp only [retM]
          obtain ⟨z0, z1, z2, z3, z4, z5⟩ := ((B5.out.b2.set (n' := fb) (s' := fs) (x' := fx)).alloc (.cells #[.bool fb, .string fs, .int .i64 fx] 23)).cells
          go_wp2
          refine bodyPost_ret (v := .tuple #[.agg #[.bool fb, .string fs, .int .i64 fx], .int .i64 0]) (by simp [results, Tryd.results20, go_sem, z0, z1, z2]) rfl ⟨fb, fs, fx, 0, rfl, FF.out, ?_⟩
          refine below_al ?_
          iterate 3 refine Below.setCell ?_ (by show w.heap.size ≤ w.heap.size + 1 + 1; omega) _
          exact B5.out.below
        · simp only [retM]
          obtain ⟨z0, z1, z2, z3, z4, z5⟩ := ((B5.out.b2.set (n' := false) (s' := ⟨#[]⟩) (x' := 0)).alloc (.cells #[.bool false, .string ⟨#[]⟩, .int .i64 0] 23)).cells
          go_wp2
          refine bodyPost_ret (v := .tuple #[.agg #[.bool false, .string ⟨#[]⟩, .int .i64 0], .int .i64 2]) (by simp [results, Tryd.results20, go_sem, z0, z1, z2]) rfl ⟨false, ⟨#[]⟩, 0, 2, rfl, FF.out, ?_⟩
          refine below_al ?_
          iterate 3 refine Below.setCell ?_ (by show w.heap.size ≤ w.heap.size + 1 + 1; omega) _
          exact B5.out.below
      · obtain ⟨u, hu⟩ : ∃ u, decide (val P < val Q) = u := ⟨_, rfl⟩
        have HU := hide hu
        clear hu
        go_wp2_with fail
        go_fit (less_any P Q m _ P1.out P2.out P3.out P4.out (by omega))
        rw [HU.out]
        rintro e w3' ⟨rfl, hb3'⟩
        have B3' := hide (B3.out.then hb3')
        clear hb3' c0 c1 c2 f0 f1 f2 q0 q1 q2 k0 k1 k2
        obtain ⟨c0, c1, c2, f0, f1, f2⟩ := B3'.out.b1.cells
        obtain ⟨q0, q1, q2, k0, k1, k2⟩ := B3'.out.b0.cells
        cases u
        · have hle := hide (show val Q ≤ val P by have := of_decide_eq_false HU.out; omega)
          go_wp2_with fail
          go_fit (minus_any P Q m _ P1.out P2.out P3.out P4.out (by omega) hle.out)
          rintro e w4 ⟨⟨l, rfl, l1, l2, l3⟩, hb4⟩
          have B4 := hide (B3'.out.then hb4)
          have FF := hide (fin.out false l x l1 p6 (by
                      have h9 := sub_scale (X := 10 ^ (x + 400).toNat) l3
                      have n1 := M1.out
                      have n2 := M2.out
                      simp only [Zv, if_true, if_false, Bool.false_eq_true]
                      omega))
          have L1 := hide l1
          have L2 := hide l2
          clear hb4 c0 c1 c2 f0 f1 f2 q0 q1 q2 k0 k1 k2 l1 l2 l3
          obtain ⟨c0, c1, c2, f0, f1, f2⟩ := B4.out.b1.cells
          obtain ⟨fb, fs, fx, fe, hfe⟩ : ∃ fb fs fx fe, formF false l x = (fb, fs, fx, fe) := ⟨_, _, _, _, rfl⟩
          rw [hfe] at FF
          have herr := formF_err false l x hfe
          have HF := hide hfe
          clear hfe
          go_wp2_with fail
          go_fit (made_any false l x _ L1.out (by have := L2.out; omega) (by omega) (by omega))
          rw [HF.out]
          rintro e w5 ⟨rfl, hb5⟩
          have B5 := hide (B4.out.then hb5)
          clear hb5 c0 c1 c2 f0 f1 f2
          obtain ⟨c0, c1, c2, f0, f1, f2⟩ := B5.out.b2.cells
          have hlt := B5.out.b2.lt
          rcases herr with rfl | ⟨rfl, rfl, rfl, rfl⟩
          · simp only [retM]
            obtain ⟨z0, z1, z2, z3, z4, z5⟩ := ((B5.out.b2.set (n' := fb) (s' := fs) (x' := fx)).alloc (.cells #[.bool fb, .string fs, .int .i64 fx] 23)).cells
            go_wp2
            refine bodyPost_ret (v := .tuple #[.agg #[.bool fb, .string fs, .int .i64 fx], .int .i64 0]) (by simp [results, Tryd.results20, go_sem, z0, z1, z2]) rfl ⟨fb, fs, fx, 0, rfl, FF.out, ?_⟩
            refine below_al ?_
            iterate 3 refine Below.setCell ?_ (by show w.heap.size ≤ w.heap.size + 1 + 1; omega) _
            exact B5.out.below
          · simp only [retM]
            obtain ⟨z0, z1, z2, z3, z4, z5⟩ := ((B5.out.b2.set (n' := false) (s' := ⟨#[]⟩) (x' := 0)).alloc (.cells #[.bool false, .string ⟨#[]⟩, .int .i64 0] 23)).cells
            go_wp2
            refine bodyPost_ret (v := .tuple #[.agg #[.bool false, .string ⟨#[]⟩, .int .i64 0], .int .i64 2]) (by simp [results, Tryd.results20, go_sem, z0, z1, z2]) rfl ⟨false, ⟨#[]⟩, 0, 2, rfl, FF.out, ?_⟩
            refine below_al ?_
            iterate 3 refine Below.setCell ?_ (by show w.heap.size ≤ w.heap.size + 1 + 1; omega) _
            exact B5.out.below
        · have hle := hide (show val P ≤ val Q by have := of_decide_eq_true HU.out; omega)
          go_wp2_with fail
          go_fit (minus_any Q P m _ P2.out P1.out P4.out P3.out (by omega) hle.out)
          rintro e w4 ⟨⟨l, rfl, l1, l2, l3⟩, hb4⟩
          have B4 := hide (B3'.out.then hb4)
          have hcells := B4.out.b1.cells
          have FF := hide (fin.out true l x l1 p6 (by
                      have h9 := sub_scale (X := 10 ^ (x + 400).toNat) l3
                      have n1 := M1.out
                      have n2 := M2.out
                      simp only [Zv, if_true, if_false, Bool.false_eq_true]
                      omega))
          have L1 := hide l1
          have L2 := hide l2
          clear hb4 c0 c1 c2 f0 f1 f2 q0 q1 q2 k0 k1 k2 l1 l2 l3
          obtain ⟨c0, c1, c2, f0, f1, f2⟩ := B4.out.b1.cells
          obtain ⟨fb, fs, fx, fe, hfe⟩ : ∃ fb fs fx fe, formF true l x = (fb, fs, fx, fe) := ⟨_, _, _, _, rfl⟩
          rw [hfe] at FF
          have herr := formF_err true l x hfe
          have HF := hide hfe
          clear hfe
          go_wp2_with fail
          go_fit (made_any true l x _ L1.out (by have := L2.out; omega) (by omega) (by omega))
          rw [HF.out]
          rintro e w5 ⟨rfl, hb5⟩
          have B5 := hide (B4.out.then hb5)
          clear hb5 c0 c1 c2 f0 f1 f2
          obtain ⟨c0, c1, c2, f0, f1, f2⟩ := B5.out.b2.cells
          have hlt := B5.out.b2.lt
          rcases herr with rfl | ⟨rfl, rfl, rfl, rfl⟩
          · simp only [retM]
            obtain ⟨z0, z1, z2, z3, z4, z5⟩ := ((B5.out.b2.set (n' := fb) (s' := fs) (x' := fx)).alloc (.cells #[.bool fb, .string fs, .int .i64 fx] 23)).cells
            go_wp2
            refine bodyPost_ret (v := .tuple #[.agg #[.bool fb, .string fs, .int .i64 fx], .int .i64 0]) (by simp [results, Tryd.results20, go_sem, z0, z1, z2]) rfl ⟨fb, fs, fx, 0, rfl, FF.out, ?_⟩
            refine below_al ?_
            iterate 3 refine Below.setCell ?_ (by show w.heap.size ≤ w.heap.size + 1 + 1; omega) _
            exact B5.out.below
          · simp only [retM]
            obtain ⟨z0, z1, z2, z3, z4, z5⟩ := ((B5.out.b2.set (n' := false) (s' := ⟨#[]⟩) (x' := 0)).alloc (.cells #[.bool false, .string ⟨#[]⟩, .int .i64 0] 23)).cells
            go_wp2
            refine bodyPost_ret (v := .tuple #[.agg #[.bool false, .string ⟨#[]⟩, .int .i64 0], .int .i64 2]) (by simp [results, Tryd.results20, go_sem, z0, z1, z2]) rfl ⟨false, ⟨#[]⟩, 0, 2, rfl, FF.out, ?_⟩
            refine below_al ?_
            iterate 3 refine Below.setCell ?_ (by show w.heap.size ≤ w.heap.size + 1 + 1; omega) _
            exact B5.out.below
      · obtain ⟨u, hu⟩ : ∃ u, decide (val P < val Q) = u := ⟨_, rfl⟩
        have HU := hide hu
        clear hu
        go_wp2_with fail
        go_fit (less_any P Q m _ P1.out P2.out P3.out P4.out (by omega))
        rw [HU.out]
        rintro e w3' ⟨rfl, hb3'⟩
        have B3' := hide (B3.out.then hb3')
        clear hb3' c0 c1 c2 f0 f1 f2 q0 q1 q2 k0 k1 k2
        obtain ⟨c0, c1, c2, f0, f1, f2⟩ := B3'.out.b1.cells
        obtain ⟨q0, q1, q2, k0, k1, k2⟩ := B3'.out.b0.cells
        cases u
        · have hle := hide (show val Q ≤ val P by have := of_decide_eq_false HU.out; omega)
          go_wp2_with fail
          go_fit (minus_any P Q m _ P1.out P2.out P3.out P4.out (by omega) hle.out)
          rintro e w4 ⟨⟨l, rfl, l1, l2, l3⟩, hb4⟩
          have B4 := hide (B3'.out.then hb4)
          have FF := hide (fin.out true l x l1 p6 (by
                      have h9 := sub_scale (X := 10 ^ (x + 400).toNat) l3
                      have n1 := M1.out
                      have n2 := M2.out
                      simp only [Zv, if_true, if_false, Bool.false_eq_true]
                      omega))
          have L1 := hide l1
          have L2 := hide l2
          clear hb4 c0 c1 c2 f0 f1 f2 q0 q1 q2 k0 k1 k2 l1 l2 l3
          obtain ⟨c0, c1, c2, f0, f1, f2⟩ := B4.out.b1.cells
          obtain ⟨fb, fs, fx, fe, hfe⟩ : ∃ fb fs fx fe, formF true l x = (fb, fs, fx, fe) := ⟨_, _, _, _, rfl⟩
          rw [hfe] at FF
          have herr := formF_err true l x hfe
          have HF := hide hfe
          clear hfe
          go_wp2_with fail
          go_fit (made_any true l x _ L1.out (by have := L2.out; omega) (by omega) (by omega))
          rw [HF.out]
          rintro e w5 ⟨rfl, hb5⟩
          have B5 := hide (B4.out.then hb5)
          clear hb5 c0 c1 c2 f0 f1 f2
          obtain ⟨c0, c1, c2, f0, f1, f2⟩ := B5.out.b2.cells
          have hlt := B5.out.b2.lt
          rcases herr with rfl | ⟨rfl, rfl, rfl, rfl⟩
          · simp only [retM]
            obtain ⟨z0, z1, z2, z3, z4, z5⟩ := ((B5.out.b2.set (n' := fb) (s' := fs) (x' := fx)).alloc (.cells #[.bool fb, .string fs, .int .i64 fx] 23)).cells
            go_wp2
            refine bodyPost_ret (v := .tuple #[.agg #[.bool fb, .string fs, .int .i64 fx], .int .i64 0]) (by simp [results, Tryd.results20, go_sem, z0, z1, z2]) rfl ⟨fb, fs, fx, 0, rfl, FF.out, ?_⟩
            refine below_al ?_
            iterate 3 refine Below.setCell ?_ (by show w.heap.size ≤ w.heap.size + 1 + 1; omega) _
            exact B5.out.below
          · simp only [retM]
            obtain ⟨z0, z1, z2, z3, z4, z5⟩ := ((B5.out.b2.set (n' := false) (s' := ⟨#[]⟩) (x' := 0)).alloc (.cells #[.bool false, .string ⟨#[]⟩, .int .i64 0] 23)).cells
            go_wp2
            refine bodyPost_ret (v := .tuple #[.agg #[.bool false, .string ⟨#[]⟩, .int .i64 0], .int .i64 2]) (by simp [results, Tryd.results20, go_sem, z0, z1, z2]) rfl ⟨false, ⟨#[]⟩, 0, 2, rfl, FF.out, ?_⟩
            refine below_al ?_
            iterate 3 refine Below.setCell ?_ (by show w.heap.size ≤ w.heap.size + 1 + 1; omega) _
            exact B5.out.below
        · have hle := hide (show val P ≤ val Q by have := of_decide_eq_true HU.out; omega)
          go_wp2_with fail
          go_fit (minus_any Q P m _ P2.out P1.out P4.out P3.out (by omega) hle.out)
          rintro e w4 ⟨⟨l, rfl, l1, l2, l3⟩, hb4⟩
          have B4 := hide (B3'.out.then hb4)
          have hcells := B4.out.b1.cells
          have FF := hide (fin.out false l x l1 p6 (by
                      have h9 := sub_scale (X := 10 ^ (x + 400).toNat) l3
                      have n1 := M1.out
                      have n2 := M2.out
                      simp only [Zv, if_true, if_false, Bool.false_eq_true]
                      omega))
          have L1 := hide l1
          have L2 := hide l2
          clear hb4 c0 c1 c2 f0 f1 f2 q0 q1 q2 k0 k1 k2 l1 l2 l3
          obtain ⟨c0, c1, c2, f0, f1, f2⟩ := B4.out.b1.cells
          obtain ⟨fb, fs, fx, fe, hfe⟩ : ∃ fb fs fx fe, formF false l x = (fb, fs, fx, fe) := ⟨_, _, _, _, rfl⟩
          rw [hfe] at FF
          have herr := formF_err false l x hfe
          have HF := hide hfe
          clear hfe
          go_wp2_with fail
          go_fit (made_any false l x _ L1.out (by have := L2.out; omega) (by omega) (by omega))
          rw [HF.out]
          rintro e w5 ⟨rfl, hb5⟩
          have B5 := hide (B4.out.then hb5)
          clear hb5 c0 c1 c2 f0 f1 f2
          obtain ⟨c0, c1, c2, f0, f1, f2⟩ := B5.out.b2.cells
          have hlt := B5.out.b2.lt
          rcases herr with rfl | ⟨rfl, rfl, rfl, rfl⟩
          · simp only [retM]
            obtain ⟨z0, z1, z2, z3, z4, z5⟩ := ((B5.out.b2.set (n' := fb) (s' := fs) (x' := fx)).alloc (.cells #[.bool fb, .string fs, .int .i64 fx] 23)).cells
            go_wp2
            refine bodyPost_ret (v := .tuple #[.agg #[.bool fb, .string fs, .int .i64 fx], .int .i64 0]) (by simp [results, Tryd.results20, go_sem, z0, z1, z2]) rfl ⟨fb, fs, fx, 0, rfl, FF.out, ?_⟩
            refine below_al ?_
            iterate 3 refine Below.setCell ?_ (by show w.heap.size ≤ w.heap.size + 1 + 1; omega) _
            exact B5.out.below
          · simp only [retM]
            obtain ⟨z0, z1, z2, z3, z4, z5⟩ := ((B5.out.b2.set (n' := false) (s' := ⟨#[]⟩) (x' := 0)).alloc (.cells #[.bool false, .string ⟨#[]⟩, .int .i64 0] 23)).cells
            go_wp2
            refine bodyPost_ret (v := .tuple #[.agg #[.bool false, .string ⟨#[]⟩, .int .i64 0], .int .i64 2]) (by simp [results, Tryd.results20, go_sem, z0, z1, z2]) rfl ⟨false, ⟨#[]⟩, 0, 2, rfl, FF.out, ?_⟩
            refine below_al ?_
            iterate 3 refine Below.setCell ?_ (by show w.heap.size ≤ w.heap.size + 1 + 1; omega) _
            exact B5.out.below
      · go_wp2_with fail
        go_fit (plus_any P Q m _ P1.out P2.out P3.out P4.out (by omega))
        rintro e w4 ⟨⟨l, rfl, l1, l2, l3⟩, hb4⟩
        have B4 := hide (B3.out.then hb4)
        have FF := hide (fin.out true l x l1 p6 (by
                  have h9 := add_scale (X := 10 ^ (x + 400).toNat) l3
                  have n1 := M1.out
                  have n2 := M2.out
                  simp only [Zv, if_true, if_false, Bool.false_eq_true]
                  omega))
        have L1 := hide l1
        have L2 := hide l2
        clear hb4 c0 c1 c2 f0 f1 f2 q0 q1 q2 k0 k1 k2 l1 l2 l3
        obtain ⟨c0, c1, c2, f0, f1, f2⟩ := B4.out.b1.cells
        obtain ⟨fb, fs, fx, fe, hfe⟩ : ∃ fb fs fx fe, formF true l x = (fb, fs, fx, fe) := ⟨_, _, _, _, rfl⟩
        rw [hfe] at FF
        have herr := formF_err true l x hfe
        have HF := hide hfe
        clear hfe
        go_wp2_with fail
        go_fit (made_any true l x _ L1.out (by have := L2.out; omega) (by omega) (by omega))
        rw [HF.out]
        rintro e w5 ⟨rfl, hb5⟩
        have B5 := hide (B4.out.then hb5)
        clear hb5 c0 c1 c2 f0 f1 f2
        obtain ⟨c0, c1, c2, f0, f1, f2⟩ := B5.out.b2.cells
        have hlt := B5.out.b2.lt
        rcases herr with rfl | ⟨rfl, rfl, rfl, rfl⟩
        · simp only [retM]
          obtain ⟨z0, z1, z2, z3, z4, z5⟩ := ((B5.out.b2.set (n' := fb) (s' := fs) (x' := fx)).alloc (.cells #[.bool fb, .string fs, .int .i64 fx] 23)).cells
          go_wp2
          refine bodyPost_ret (v := .tuple #[.agg #[.bool fb, .string fs, .int .i64 fx], .int .i64 0]) (by simp [results, Tryd.results20, go_sem, z0, z1, z2]) rfl ⟨fb, fs, fx, 0, rfl, FF.out, ?_⟩
          refine below_al ?_
          iterate 3 refine Below.setCell ?_ (by show w.heap.size ≤ w.heap.size + 1 + 1; omega) _
          exact B5.out.below
        · simp only [retM]
          obtain ⟨z0, z1, z2, z3, z4, z5⟩ := ((B5.out.b2.set (n' := false) (s' := ⟨#[]⟩) (x' := 0)).alloc (.cells #[.bool false, .string ⟨#[]⟩, .int .i64 0] 23)).cells
          go_wp2
          refine bodyPost_ret (v := .tuple #[.agg #[.bool false, .string ⟨#[]⟩, .int .i64 0], .int .i64 2]) (by simp [results, Tryd.results20, go_sem, z0, z1, z2]) rfl ⟨false, ⟨#[]⟩, 0, 2, rfl, FF.out, ?_⟩
          refine below_al ?_
          iterate 3 refine Below.setCell ?_ (by show w.heap.size ≤ w.heap.size + 1 + 1; omega) _
          exact B5.out.below
end Go.Proofs.YtjpdlibncmldlaaDoor
