/- calamuslaw03's state: walked. -/
import Derived.Test.YtefiklklppfimaaDoorUzCount
import Derived.Test.YtefiklklppfimaaDoorUjLaw
namespace Go.Proofs.YtefiklklppfimaaDoor
open Go.RowKit
set_option linter.unusedSimpArgs false
set_option linter.unusedVariables false
/-- What is fed so is answered so. -/
def feedE (o : Option St) : Nat := if o.isSome then 0 else 30
/-- Where state stands in its loop. -/
structure Su (w : World) (s : ByteArray) (pos : Nat) (W : World) : Prop where
  below : Below w.heap.size w W
  le : pos ≤ s.size
  ok : run .i8 ((bl s).take pos) = some .i8
theorem run_pos {l : List UInt8} {pos : Nat} (h : run .i8 (l.take pos) = some .i8) : run .i8 l = run .i8 (l.drop pos) := by
  conv => lhs; rw [← List.take_append_drop pos l, run_app h]
set_option maxHeartbeats 2000000 in
set_option maxRecDepth 100000 in
theorem state_any (s : ByteArray) (w : World) (hs : s.size ≤ 16384) :
    Calls Tryd.prog 19 #[.string s] w fun x w' => (∃ f e : Nat, Hid (f = feedE (run .i8 (bl s)) ∧ e = endE (run .i8 (bl s))) ∧ x = .returned (.tuple #[.int .i64 f, .int .i64 e])) ∧ Below w.heap.size w w' := by
  have C0 : Hid (Su w s 0 w) := ⟨Below.refl _ _, Nat.zero_le _, by rw [List.take_zero]; rfl⟩
  go_enter Tryd.func19, Tryd.ntmps19
  go_wp2
  go_loopw [4] (fun a w' => ∃ pos : Nat, a = .int .i64 pos ∧ Hid (Su w s pos w')) (fun i _ => s.size - (intOf i).toNat)
  case atStart => exact ⟨0, rfl, C0.out⟩
  case round =>
    obtain ⟨pos, rfl, C⟩ := hrel
    have hpl := C.out.le
    by_cases hlt : pos < s.size
    · have hp' : pos < (bl s).length := by rw [bl_length]; exact hlt
      have hne : (bl s).drop pos ≠ [] := by intro q; have := congrArg List.length q; rw [List.length_drop] at this; simp at this; omega
      have hde := hide (fun W => rdecode_any s pos W hs)
      rw [decA_in hp'] at hde
      have hli : (pos : Int) < (s.size : Int) := by omega
      cases hc : chr ((bl s).drop pos) with
      | some rk =>
        obtain ⟨r, k⟩ := rk
        have hd : decF ((bl s).drop pos) = (r, k, 0) := by unfold decF; rw [hc]
        rw [hd] at hde
        obtain ⟨n1, n4, nl, hrn, hv', hb'⟩ := chr_some hc
        rw [List.length_drop, bl_length] at nl
        have hrv := (valid_iff r).1 hv'
        have hC' : Hid (∀ W, Below wr.heap.size wr W → Su w s (pos + k) W) := fun W hW => ⟨below_then C.out.below hW, by omega, run_take C.out.ok hrn⟩
        clear hd hc hrn hb' hv' hne hp' hrv
        go_wp2_with (go_at_call 16; refine (hde.out _).mono ?_; rintro e w4 ⟨rfl, hb4⟩; have hb4 := hide hb4)
        refine ⟨⟨pos + k, by go_num, hC'.out _ hb4.out⟩, by simp [intOf]; omega⟩
      | none =>
        have hB := hide C.out.below
        have hrp := run_pos C.out.ok
        rcases chr_none hne hc with e | ⟨p, hp, e, _⟩
        · have hd : decF ((bl s).drop pos) = (0, 0, 30) := by unfold decF; rw [hc, e]; rfl
          rw [hd] at hde
          have hfin := hide (show 30 = feedE (run .i8 (bl s)) ∧ 30 = endE (run .i8 (bl s)) by rw [hrp, e]; exact ⟨rfl, rfl⟩)
          clear hd hc hne hp' e hrp
          go_wp2_with (go_at_call 16; refine (hde.out _).mono ?_; rintro e w4 ⟨rfl, hb4⟩; have hb4 := hide hb4)
          go_ret2
          exact ⟨⟨30, 30, hfin.out, rfl⟩, below_then hB.out hb4.out⟩
        · have hd : decF ((bl s).drop pos) = (0, 0, 31) := by unfold decF; rw [hc, e]; rfl
          rw [hd] at hde
          have hfin := hide (show 0 = feedE (run .i8 (bl s)) ∧ 31 = endE (run .i8 (bl s)) by rw [hrp, e]; exact ⟨rfl, by cases p <;> first | rfl | exact absurd rfl hp⟩)
          clear hd hc hne hp' e hrp
          go_wp2_with (go_at_call 16; refine (hde.out _).mono ?_; rintro e w4 ⟨rfl, hb4⟩; have hb4 := hide hb4)
          go_ret2
          exact ⟨⟨0, 31, hfin.out, rfl⟩, below_then hB.out hb4.out⟩
    · have hli : ¬ ((pos : Int) < (s.size : Int)) := by omega
      have hk : run .i8 (bl s) = some .i8 := by
        have := C.out.ok
        rw [List.take_of_length_le (by rw [bl_length]; omega)] at this
        exact this
      have hfin := hide (show 0 = feedE (run .i8 (bl s)) ∧ 0 = endE (run .i8 (bl s)) by rw [hk]; exact ⟨rfl, rfl⟩)
      have hB := hide C.out.below
      clear hk
      go_wp2
      go_ret2
      exact ⟨⟨0, 0, hfin.out, rfl⟩, hB.out⟩
end Go.Proofs.YtefiklklppfimaaDoor
