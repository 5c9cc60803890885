/- utf's Valid, isCharacter, Encode: walked. -/
import Derived.Test.YtjidnceccpmheaaDoorUeThruV
namespace Go.Proofs.YtjidnceccpmheaaDoor.Ut
open Go.RowKit
set_option linter.unusedSimpArgs false
set_option linter.unusedVariables false
/-- Is it a text? -/
def okT (l : List UInt8) : Bool := decide (run .i8 l = some .i8)
theorem okT_iff (l : List UInt8) : okT l = true ↔ run .i8 l = some .i8 := by simp [okT]
theorem run_ok {o : Option St} {l : List UInt8} (h : run .i8 l = o) : okT l = (o.isSome && (o.getD .i16 == .i8)) := by
  unfold okT
  rw [h]
  cases o with
  | none => rfl
  | some q => cases q <;> rfl
theorem Gu.bts {w : World} (g : Gu w) : w.cell? ⟨2, 0, none⟩ = some (.int .u8 0) ∧ w.cell? ⟨2, 1, none⟩ = some (.int .u8 0) ∧ w.cell? ⟨2, 2, none⟩ = some (.int .u8 0) ∧ w.cell? ⟨2, 3, none⟩ = some (.int .u8 0) ∧ w.cell? ⟨2, 4, none⟩ = some (.int .u8 0) ∧ w.cell? ⟨2, 5, none⟩ = some (.int .u8 0) ∧ w.cell? ⟨2, 6, none⟩ = some (.int .u8 0) ∧ w.cell? ⟨2, 7, none⟩ = some (.int .u8 0) :=
  ⟨g.btc 0 (by omega), g.btc 1 (by omega), g.btc 2 (by omega), g.btc 3 (by omega), g.btc 4 (by omega), g.btc 5 (by omega), g.btc 6 (by omega), g.btc 7 (by omega)⟩
theorem Gu.bt1 {w : World} (g : Gu w) : (∀ o, (w.alloc o).cell? ⟨2, 0, none⟩ = some (.int .u8 0)) ∧ (∀ o, (w.alloc o).cell? ⟨2, 1, none⟩ = some (.int .u8 0)) ∧ (∀ o, (w.alloc o).cell? ⟨2, 2, none⟩ = some (.int .u8 0)) ∧ (∀ o, (w.alloc o).cell? ⟨2, 3, none⟩ = some (.int .u8 0)) ∧ (∀ o, (w.alloc o).cell? ⟨2, 4, none⟩ = some (.int .u8 0)) ∧ (∀ o, (w.alloc o).cell? ⟨2, 5, none⟩ = some (.int .u8 0)) ∧ (∀ o, (w.alloc o).cell? ⟨2, 6, none⟩ = some (.int .u8 0)) ∧ (∀ o, (w.alloc o).cell? ⟨2, 7, none⟩ = some (.int .u8 0)) := by
  have k : ∀ o, Gu (w.alloc o) := fun o => g.below (below_al (Below.refl _ _))
  exact ⟨fun o => (k o).btc 0 (by omega), fun o => (k o).btc 1 (by omega), fun o => (k o).btc 2 (by omega), fun o => (k o).btc 3 (by omega), fun o => (k o).btc 4 (by omega), fun o => (k o).btc 5 (by omega), fun o => (k o).btc 6 (by omega), fun o => (k o).btc 7 (by omega)⟩
theorem thru_b0 (s : ByteArray) (w : World) (g : Gu w) (hs : s.size < 9223372036854775807) :
    Calls Tryd.prog 23 #[.agg #[.int .u8 0, .int .u8 0, .int .u8 0, .int .u8 0, .int .u8 0, .int .u8 0, .int .u8 0, .int .u8 0], .string s] w fun r w' => r = .returned (stV (run .i8 (bl s))) ∧ Below w.heap.size w w' := through_any .i8 s w g hs
set_option maxHeartbeats 1000000 in
theorem valid_any (s : ByteArray) (w : World) (g : Gu w) (hs : s.size < 9223372036854775807) :
    Calls Tryd.prog 16 #[.string s] w fun r w' => r = .returned (.bool (okT (bl s))) ∧ Below w.heap.size w w' := by
  obtain ⟨b0, b1, b2, b3, b4, b5, b6, b7⟩ := g.bts
  have g := hide g
  have ht := hide (thru_b0 s w g.out hs)
  obtain ⟨o, ho⟩ : ∃ o, run .i8 (bl s) = o := ⟨_, rfl⟩
  rw [run_ok ho]
  rw [ho] at ht
  clear ho
  cases o with
  | none =>
    simp only [stV, sp] at ht
    go_enter Tryd.func16, Tryd.ntmps16
    go_wp2_with (go_at_call 23; refine ht.out.mono ?_; rintro r w1 ⟨rfl, hb1⟩; obtain ⟨d0, d1, d2, d3, d4, d5, d6, d7⟩ := (g.out.below hb1).bt1; have hb1 := hide hb1)
    go_ret
    exact ⟨rfl, below_al hb1.out⟩
  | some q =>
    obtain ⟨a, b, c, d, e, f, g2, h, e1, heq⟩ := spV_ex q
    simp only [stV, e1, sp] at ht
    clear e1
    go_enter Tryd.func16, Tryd.ntmps16
    go_wp2_with (go_at_call 23; refine ht.out.mono ?_; rintro r w1 ⟨rfl, hb1⟩; obtain ⟨d0, d1, d2, d3, d4, d5, d6, d7⟩ := (g.out.below hb1).bt1; have hb1 := hide hb1)
    go_ret
    exact ⟨by simp, below_al hb1.out⟩
theorem isCharacter_any (r : Int) (w : World) (h0 : -9223372036854775808 ≤ r) (h1 : r ≤ 9223372036854775807) :
    Calls Tryd.prog 65 #[.int .i64 r] w fun e w' => e = .returned (.bool (Utf8.valid r)) ∧ w' = w := by
  have e : Utf8.valid r = decide ((0 ≤ r ∧ r < 55296) ∨ (55295 + 2048 < r ∧ r ≤ 1114111)) := by
    simp only [Utf8.valid]
    rw [Bool.eq_iff_iff]
    simp only [Bool.or_eq_true, Bool.and_eq_true, decide_eq_true_eq]
    omega
  rw [e]
  go_enter Tryd.func65, Tryd.ntmps65
  go_wp2
  all_goals
    go_ret
    refine ⟨congrArg Ending.returned (show Value.bool _ = Value.bool _ from congrArg Value.bool ?_), rfl⟩
    first
      | rfl
      | (rw [Bool.eq_iff_iff]; simp; omega)
set_option maxHeartbeats 1000000 in
theorem encode_any (r : Int) (w : World) (h0 : -9223372036854775808 ≤ r) (h1 : r ≤ 9223372036854775807) :
    Calls Tryd.prog 55 #[.int .i64 r] w fun e w' => e = .returned (.tuple (if Utf8.valid r then #[.string (Utf8.encode r), .int .i64 0] else #[.string ⟨#[]⟩, .int .i64 1])) ∧ w' = w := by
  have hc := hide (fun w => isCharacter_any r w h0 h1)
  cases hv : Utf8.valid r
  · rw [hv] at hc
    go_enter Tryd.func55, Tryd.ntmps55
    go_wp2_with (go_at_call 65; refine (hc.out _).mono ?_; rintro e w1 ⟨rfl, rfl⟩)
    go_ret2
    exact ⟨rfl, rfl⟩
  · rw [hv] at hc
    have hw : IntKind.i32.wrap r = r := by
      have : 0 ≤ r ∧ r ≤ 1114111 := by
        simp only [Utf8.valid, Bool.or_eq_true, Bool.and_eq_true, decide_eq_true_eq] at hv
        omega
      rw [IntKind.wrap_i32]; omega
    clear hv
    go_enter Tryd.func55, Tryd.ntmps55
    go_wp2_with (go_at_call 65; refine (hc.out _).mono ?_; rintro e w1 ⟨rfl, rfl⟩)
    go_ret2
    exact ⟨rfl, rfl⟩
end Go.Proofs.YtjidnceccpmheaaDoor.Ut
