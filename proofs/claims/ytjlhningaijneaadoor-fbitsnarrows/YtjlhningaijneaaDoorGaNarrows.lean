/- calamusref02's Narrow, Class; calamuslaw02.FbitsNarrows: walked. -/
import Derived.Test.YtjlhningaijneaaDoorFzNarrow
import Derived.Test.YtjlhningaijneaaDoorFzNarrowS
import Derived.Test.YtjlhningaijneaaDoorFnAwake
namespace Go.Proofs.YtjlhningaijneaaDoor
open Go.RowKit
set_option linter.unusedSimpArgs false
set_option linter.unusedVariables false
theorem cls_clsF (x : Nat) : cls x = clsF 2047 (x / 4503599627370496 % 2048) (x % 4503599627370496) := rfl
theorem rclass_any (x : Nat) (w : World) (hx : x < 18446744073709551616) :
    Calls Tryd.prog 17 #[.int .u64 x] w fun e w' => e = .returned (.int .i64 (cls x : Nat)) ∧ Below w.heap.size w w' := by
  obtain ⟨s, hs⟩ : ∃ s, x / 9223372036854775808 = s := ⟨_, rfl⟩
  obtain ⟨E, hE⟩ : ∃ E, x / 4503599627370496 % 2048 = E := ⟨_, rfl⟩
  obtain ⟨F, hF⟩ : ∃ F, x % 4503599627370496 = F := ⟨_, rfl⟩
  obtain ⟨n, hn⟩ : ∃ n : Bool, s = n.toNat := by
    by_cases e : s = 1
    · exact ⟨true, e⟩
    · exact ⟨false, by show s = 0; omega⟩
  have hEl : E < 2048 := by omega
  have hOf : Hid (∀ w, Calls Tryd.prog 24 #[.int .u64 x, .int .i64 11, .int .i64 52] w fun e w' => e = .returned (.agg #[.bool n, .int .i64 E, .int .u64 F, .int .i64 11, .int .i64 52]) ∧ Below w.heap.size w w') := fun w => of_d x s E F n w hn hEl (by omega) (by omega)
  have hCl : Hid (∀ w, Calls Tryd.prog 30 #[.agg #[.bool n, .int .i64 E, .int .u64 F, .int .i64 11, .int .i64 52]] w fun e w' => e = .returned (.int .i64 (cls x : Nat)) ∧ Below w.heap.size w w') := fun w => by rw [cls_clsF, hE, hF]; exact fclass_d E F n w hEl
  obtain ⟨c, hc⟩ : ∃ c, cls x = c := ⟨_, rfl⟩
  rw [hc] at hCl ⊢
  clear hs hE hF hn hc
  go_enter Tryd.func17, Tryd.ntmps17
  go_wp2_with (first | (go_at_call 24; go_fit (hOf.out _); rintro e w1 ⟨rfl, hB1⟩) | (go_at_call 30; go_fit (hCl.out _); rintro e w2 ⟨rfl, hB2⟩))
  go_ret
  exact ⟨rfl, below_then hB1 hB2⟩
set_option maxHeartbeats 1000000 in
theorem rnarrow_any (x : Nat) (w : World) (hx : x < 18446744073709551616) :
    Calls Tryd.prog 15 #[.int .u64 x] w fun e w' => e = .returned (.tuple #[.int .i64 (nrw x).1, .int .u64 (nrw x).2]) ∧ Below w.heap.size w w' := by
  have h1 := hide (tries_h x · hx)
  have h2 := hide (tries_s x · hx)
  have l1 := narh_lt x hx
  have l2 := nars_lt x hx
  have r1 := hide (rwiden16_any (narh x) · l1)
  have r2 := hide (rwiden32_any (nars x) · l2)
  obtain ⟨nh, hnh⟩ : ∃ nh, narh x = nh := ⟨_, rfl⟩
  obtain ⟨ns, hns⟩ : ∃ ns, nars x = ns := ⟨_, rfl⟩
  obtain ⟨vh, hvh⟩ : ∃ vh, widh (narh x) = vh := ⟨_, rfl⟩
  obtain ⟨vs, hvs⟩ : ∃ vs, wids (nars x) = vs := ⟨_, rfl⟩
  have hr := hide (show nrw x = if vh = x then (16, nh) else if vs = x then (32, ns) else (64, x) by unfold nrw; rw [hvh, hvs, hnh, hns])
  rw [hvh] at r1
  rw [hvs] at r2
  rw [hnh] at h1 r1 l1
  rw [hns] at h2 r2 l2
  clear hnh hns hvh hvs
  have m1 : IntKind.u16.wrap (nh : Int) = nh := by rw [IntKind.wrap_u16]; omega
  have m2 : IntKind.u32.wrap (ns : Int) = ns := by rw [IntKind.wrap_u32']; omega
  by_cases c1 : vh = x
  · have c1' : ((vh : Int) == (x : Int)) = true := by simp; omega
    have hr := hide (hr.out.trans (if_pos c1))
    clear c1
    go_enter Tryd.func15, Tryd.ntmps15
    go_wp2_with fail
    go_fit (h1.out _)
    rintro e w1 ⟨rfl, hB1⟩
    go_wp2_with fail
    go_fit (r1.out _)
    rintro e w2 ⟨rfl, hB2⟩
    go_wp2
    exact bodyPost_ret (v := .tuple #[.int .i64 16, .int .u64 nh]) (by simp [results, Tryd.results15, go_sem]) rfl ⟨by rw [hr.out]; rfl, below_then hB1 hB2⟩
  · have c1' : ((vh : Int) == (x : Int)) = false := by simp; omega
    by_cases c2 : vs = x
    · have c2' : ((vs : Int) == (x : Int)) = true := by simp; omega
      have hr := hide (hr.out.trans ((if_neg c1).trans (if_pos c2)))
      clear c1 c2
      go_enter Tryd.func15, Tryd.ntmps15
      go_wp2_with fail
      go_fit (h1.out _)
      rintro e w1 ⟨rfl, hB1⟩
      go_wp2_with fail
      go_fit (r1.out _)
      rintro e w2 ⟨rfl, hB2⟩
      go_wp2_with fail
      go_fit (h2.out _)
      rintro e w3 ⟨rfl, hB3⟩
      go_wp2_with fail
      go_fit (r2.out _)
      rintro e w4 ⟨rfl, hB4⟩
      go_wp2
      exact bodyPost_ret (v := .tuple #[.int .i64 32, .int .u64 ns]) (by simp [results, Tryd.results15, go_sem]) rfl ⟨by rw [hr.out]; rfl, below_then (below_then (below_then hB1 hB2) hB3) hB4⟩
    · have c2' : ((vs : Int) == (x : Int)) = false := by simp; omega
      have hr := hide (hr.out.trans ((if_neg c1).trans (if_neg c2)))
      clear c1 c2
      go_enter Tryd.func15, Tryd.ntmps15
      go_wp2_with fail
      go_fit (h1.out _)
      rintro e w1 ⟨rfl, hB1⟩
      go_wp2_with fail
      go_fit (r1.out _)
      rintro e w2 ⟨rfl, hB2⟩
      go_wp2_with fail
      go_fit (h2.out _)
      rintro e w3 ⟨rfl, hB3⟩
      go_wp2_with fail
      go_fit (r2.out _)
      rintro e w4 ⟨rfl, hB4⟩
      go_wp2
      exact bodyPost_ret (v := .tuple #[.int .i64 64, .int .u64 x]) (by simp [results, Tryd.results15, go_sem]) rfl ⟨by rw [hr.out]; rfl, below_then (below_then (below_then hB1 hB2) hB3) hB4⟩
set_option maxHeartbeats 1000000 in
theorem narrows_any (x : Nat) (w : World) (g : Gl w) (hx : x < 18446744073709551616) :
    Calls Tryd.prog 4 #[.int .u64 x] w fun e w' => e = .returned (.bool true) ∧ Below w.heap.size w w' := by
  have g := hide g
  obtain ⟨n, a, h1⟩ : ∃ n a, nrw x = (n, a) := ⟨_, _, rfl⟩
  have h1 := hide h1
  go_enter Tryd.func4, Tryd.ntmps4
  go_wp2_with fail
  refine (narrow_any x _ g.out hx).mono ?_
  rintro e w1 ⟨rfl, hB1⟩
  rw [h1.out]
  go_wp2_with fail
  refine (rnarrow_any x _ hx).mono ?_
  rintro e w2 ⟨rfl, hB2⟩
  rw [h1.out]
  have G2 := hide (g.out.below (below_then hB1 hB2))
  go_wp2_with fail
  refine (awake_any _ G2.out).mono ?_
  rintro e w3 ⟨rfl, hB3⟩
  have G3 := hide (G2.out.below hB3)
  go_wp2_with fail
  refine (class_any x _ G3.out hx).mono ?_
  rintro e w4 ⟨rfl, hB4⟩
  go_wp2_with fail
  refine (rclass_any x _ hx).mono ?_
  rintro e w5 ⟨rfl, hB5⟩
  go_wp2
  go_ret
  exact ⟨rfl, below_then (below_then (below_then (below_then hB1 hB2) hB3) hB4) hB5⟩
end Go.Proofs.YtjlhningaijneaaDoor
