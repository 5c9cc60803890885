/- calamusref04.scalars: walked. -/
import Derived.Test.YtemlpjnophijfaaDoorWxLists
import Derived.Test.YtemlpjnophijfaaDoorWyM
import Derived.Test.YtemlpjnophijfaaDoorXcReq
import Derived.Test.YtemlpjnophijfaaDoorQzM
namespace Go.Proofs.YtemlpjnophijfaaDoor
open Go.RowKit
set_option linter.unusedSimpArgs false
set_option linter.unusedVariables false
theorem cmpI_lt (a b : Int) : cmpI a b = -1 ↔ a < b := by
  unfold cmpI
  split
  · exact ⟨fun _ => by assumption, fun _ => rfl⟩
  · split
    · exact ⟨fun h => absurd h (by decide), fun h => by omega⟩
    · exact ⟨fun h => absurd h (by decide), fun h => by omega⟩
theorem cmpB_lt (a b : ByteArray) : cmpB a b = -1 ↔ Op.bytesLess a.toList b.toList = true := by
  unfold cmpB
  split
  · exact ⟨fun _ => by assumption, fun _ => rfl⟩
  · split
    · exact ⟨fun h => absurd h (by decide), fun h => absurd h (by assumption)⟩
    · exact ⟨fun h => absurd h (by decide), fun h => absurd h (by assumption)⟩
theorem cmpB_zero (a b : ByteArray) : cmpB a b = 0 ↔ a = b := ord_b.zero a b trivial trivial
theorem cmpF_lt (a b : Bool) : cmpF a b = -1 ↔ (!a && b) = true := by cases a <;> cases b <;> decide
set_option maxHeartbeats 1000000 in
set_option maxRecDepth 100000 in
theorem sc_2 (h g : Hd) (a1 a4 b1 b4 : Option Addr) (a2 a3 a5 a6 b2 b3 b5 b6 : Nat) (w : World) (hk : h.kind = 2) (gk : g.kind = 2) :
    Calls Tryd.prog 47 #[.agg (vals h (.slice a1 a2 a3) (.slice a4 a5 a6)), .agg (vals g (.slice b1 b2 b3) (.slice b4 b5 b6))] w fun e w' => e = .returned (.bool (decide (cmpF h.flag g.flag = -1))) ∧ Below w.heap.size w w' := by
  show Calls _ _ #[.agg #[.int .i64 h.kind, .bool h.flag, .bool h.neg, .string h.dig, .int .i64 h.exp, .int .u64 h.bits, .string h.text, .slice a1 a2 a3, .slice a4 a5 a6], .agg #[.int .i64 g.kind, .bool g.flag, .bool g.neg, .string g.dig, .int .i64 g.exp, .int .u64 g.bits, .string g.text, .slice b1 b2 b3, .slice b4 b5 b6]] _ _
  rw [hk, gk]
  obtain ⟨fa, hfa⟩ : ∃ f, h.flag = f := ⟨_, rfl⟩
  obtain ⟨fb, hfb⟩ : ∃ f, g.flag = f := ⟨_, rfl⟩
  rw [hfa, hfb]
  clear hfa hfb
  cases fa <;> cases fb
  · go_enter Tryd.func47, Tryd.ntmps47
    go_wp2_with fail
    go_ret
    exact ⟨by first | rfl | decide, below_al (below_al (Below.refl _ _))⟩
  · go_enter Tryd.func47, Tryd.ntmps47
    go_wp2_with fail
    go_ret
    exact ⟨by first | rfl | decide, below_al (below_al (Below.refl _ _))⟩
  · go_enter Tryd.func47, Tryd.ntmps47
    go_wp2_with fail
    go_ret
    exact ⟨by first | rfl | decide, below_al (below_al (Below.refl _ _))⟩
  · go_enter Tryd.func47, Tryd.ntmps47
    go_wp2_with fail
    go_ret
    exact ⟨by first | rfl | decide, below_al (below_al (Below.refl _ _))⟩
set_option maxHeartbeats 1000000 in
set_option maxRecDepth 100000 in
theorem sc_3 (h g : Hd) (a1 a4 b1 b4 : Option Addr) (a2 a3 a5 a6 b2 b3 b5 b6 : Nat) (w : World) (hk : h.kind = 3) (gk : g.kind = 3) (n1 : isN h.neg h.dig h.exp = true) (n2 : isN g.neg g.dig g.exp = true) :
    Calls Tryd.prog 47 #[.agg (vals h (.slice a1 a2 a3) (.slice a4 a5 a6)), .agg (vals g (.slice b1 b2 b3) (.slice b4 b5 b6))] w fun e w' => e = .returned (.bool (decide (cmpN h.neg h.dig h.exp g.neg g.dig g.exp = -1))) ∧ Below w.heap.size w w' := by
  have hL := hide (fun W => rless_any h.neg h.dig h.exp g.neg g.dig g.exp W n1 n2)
  have hd : decide (cmpN h.neg h.dig h.exp g.neg g.dig g.exp = -1) = decide (Zv h.neg h.dig h.exp < Zv g.neg g.dig g.exp) := by
    rw [decide_eq_decide, cmpN_spec n1 n2, cmpI_lt]
  rw [hd]
  obtain ⟨q, hq⟩ : ∃ q, decide (Zv h.neg h.dig h.exp < Zv g.neg g.dig g.exp) = q := ⟨_, rfl⟩
  rw [hq] at hL ⊢
  clear hq hd n1 n2
  show Calls _ _ #[.agg #[.int .i64 h.kind, .bool h.flag, .bool h.neg, .string h.dig, .int .i64 h.exp, .int .u64 h.bits, .string h.text, .slice a1 a2 a3, .slice a4 a5 a6], .agg #[.int .i64 g.kind, .bool g.flag, .bool g.neg, .string g.dig, .int .i64 g.exp, .int .u64 g.bits, .string g.text, .slice b1 b2 b3, .slice b4 b5 b6]] _ _
  rw [hk, gk]
  go_enter Tryd.func47, Tryd.ntmps47
  go_wp2_with (go_at_call 59; refine (hL.out _).mono ?_; rintro e w1 ⟨rfl, hb1⟩)
  go_ret
  exact ⟨rfl, below_then (below_al (below_al (Below.refl _ _))) hb1⟩
set_option maxHeartbeats 1000000 in
set_option maxRecDepth 100000 in
theorem sc_4 (h g : Hd) (a1 a4 b1 b4 : Option Addr) (a2 a3 a5 a6 b2 b3 b5 b6 : Nat) (w : World) (hk : h.kind = 4) (gk : g.kind = 4) :
    Calls Tryd.prog 47 #[.agg (vals h (.slice a1 a2 a3) (.slice a4 a5 a6)), .agg (vals g (.slice b1 b2 b3) (.slice b4 b5 b6))] w fun e w' => e = .returned (.bool (decide (cmpI h.bits g.bits = -1))) ∧ Below w.heap.size w w' := by
  have hd := hide (show decide (cmpI h.bits g.bits = -1) = decide (h.bits < g.bits) by rw [decide_eq_decide, cmpI_lt])
  show Calls _ _ #[.agg #[.int .i64 h.kind, .bool h.flag, .bool h.neg, .string h.dig, .int .i64 h.exp, .int .u64 h.bits, .string h.text, .slice a1 a2 a3, .slice a4 a5 a6], .agg #[.int .i64 g.kind, .bool g.flag, .bool g.neg, .string g.dig, .int .i64 g.exp, .int .u64 g.bits, .string g.text, .slice b1 b2 b3, .slice b4 b5 b6]] _ _
  rw [hk, gk]
  by_cases hl : h.bits < g.bits
  · go_enter Tryd.func47, Tryd.ntmps47
    go_wp2_with fail
    go_ret
    exact ⟨by rw [hd.out]; first | rfl | simp [hl], below_al (below_al (Below.refl _ _))⟩
  · go_enter Tryd.func47, Tryd.ntmps47
    go_wp2_with fail
    go_ret
    exact ⟨by rw [hd.out]; first | rfl | simp [hl], below_al (below_al (Below.refl _ _))⟩
set_option maxHeartbeats 1000000 in
set_option maxRecDepth 100000 in
theorem sc_t (h g : Hd) (a1 a4 b1 b4 : Option Addr) (a2 a3 a5 a6 b2 b3 b5 b6 : Nat) (w : World) (k2 : ¬ h.kind = 2) (k3 : ¬ h.kind = 3) (k4 : ¬ h.kind = 4) :
    Calls Tryd.prog 47 #[.agg (vals h (.slice a1 a2 a3) (.slice a4 a5 a6)), .agg (vals g (.slice b1 b2 b3) (.slice b4 b5 b6))] w fun e w' => e = .returned (.bool (decide (cmpB h.text g.text = -1))) ∧ Below w.heap.size w w' := by
  have hd := hide (show decide (cmpB h.text g.text = -1) = Op.bytesLess h.text.toList g.text.toList by
    cases hq : Op.bytesLess h.text.toList g.text.toList
    · rw [decide_eq_false]; intro e; rw [(cmpB_lt _ _).1 e] at hq; cases hq
    · rw [decide_eq_true]; exact (cmpB_lt _ _).2 hq)
  show Calls _ _ #[.agg #[.int .i64 h.kind, .bool h.flag, .bool h.neg, .string h.dig, .int .i64 h.exp, .int .u64 h.bits, .string h.text, .slice a1 a2 a3, .slice a4 a5 a6], .agg #[.int .i64 g.kind, .bool g.flag, .bool g.neg, .string g.dig, .int .i64 g.exp, .int .u64 g.bits, .string g.text, .slice b1 b2 b3, .slice b4 b5 b6]] _ _
  go_enter Tryd.func47, Tryd.ntmps47
  go_wp2_with fail
  go_ret
  exact ⟨by rw [hd.out]; first | rfl | simp, below_al (below_al (Below.refl _ _))⟩
end Go.Proofs.YtemlpjnophijfaaDoor
