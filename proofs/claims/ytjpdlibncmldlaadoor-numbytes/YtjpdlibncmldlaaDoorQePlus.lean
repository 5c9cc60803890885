/- calamusref01's plus and minus: walked. -/
import Derived.Test.YtjpdlibncmldlaaDoorQcLess
import Derived.Test.YtjpdlibncmldlaaDoorQdMath
namespace Go.Proofs.YtjpdlibncmldlaaDoor
open Go.RowKit
set_option linter.unusedSimpArgs false
set_option linter.unusedVariables false
set_option maxHeartbeats 2000000 in
theorem plus_any (a b : List Nat) (n : Nat) (w : World) (ha : Dgs a) (hb : Dgs b) (hla : a.length = n) (hlb : b.length = n) (hn : n ≤ 100000) :
    Calls Tryd.prog 48 #[.string (mkS a), .string (mkS b)] w fun e w' => (∃ l, e = .returned (.string (mkS l)) ∧ Dgs l ∧ l.length ≤ n + 1 ∧ val l = val a + val b) ∧ Below w.heap.size w w' := by
  have hsa : (mkS a).size = n := by rw [mkS_size, hla]
  have hsb : (mkS b).size = n := by rw [mkS_size, hlb]
  have Ha := hide ha
  have Hb := hide hb
  have Hla := hide hla
  have Hlb := hide hlb
  clear ha hb hla hlb
  obtain ⟨sa, hsA⟩ : ∃ s, s = mkS a := ⟨_, rfl⟩
  obtain ⟨sb, hsB⟩ : ∃ s, s = mkS b := ⟨_, rfl⟩
  rw [← hsA] at hsa ⊢
  rw [← hsB] at hsb ⊢
  have ga : Hid (∀ k (h : k < sa.size) (h' : k < a.length), sa[k].toNat = a[k] + 48) := fun k h h' => by subst hsA; exact mkS_get a Ha.out k h' h
  have gb : Hid (∀ k (h : k < sb.size) (h' : k < b.length), sb[k].toNat = b[k] + 48) := fun k h h' => by subst hsB; exact mkS_get b Hb.out k h' h
  clear hsA hsB
  go_enter Tryd.func48, Tryd.ntmps48
  go_wp2
  go_loopw [5, 6, 7] (fun s c i wr => ∃ (k cc : Nat) (l : List Nat), k ≤ n ∧ cc ≤ 1 ∧ i = .int .i64 ((n : Int) - 1 - k) ∧ c = .int .i64 cc ∧ s = .string (mkS l) ∧ Hid (PInv a b n k l cc) ∧ Hid (Below w.heap.size w wr)) (fun s c i _ => (intOf i + 1).toNat)
  case atStart => exact ⟨0, 0, [], Nat.zero_le _, Nat.zero_le _, by simp, rfl, rfl, PInv.start a b n Hla.out Hlb.out, Below.refl _ _⟩
  case round =>
    obtain ⟨k, cc, l, hk, hcc, rfl, rfl, rfl, hI, hB⟩ := hrel
    have hsz : (mkS l).size = k := by rw [mkS_size]; exact hI.out.len
    by_cases hlt : k < n
    · obtain ⟨i, hi⟩ : ∃ i : Nat, n - 1 - k = i := ⟨_, rfl⟩
      have hi2 : (n : Int) - 1 - k = i := by omega
      have hia : i < sa.size := by omega
      have hib : i < sb.size := by omega
      have hin : i < n := by omega
      have hin' : (i : Int) < n := by omega
      have hia' : (i : Int) < sa.size := by omega
      have hib' : (i : Int) < sb.size := by omega
      obtain ⟨x, hx⟩ : ∃ x, a[n - 1 - k]'(by rw [Hla.out]; omega) = x := ⟨_, rfl⟩
      obtain ⟨y, hy⟩ : ∃ y, b[n - 1 - k]'(by rw [Hlb.out]; omega) = y := ⟨_, rfl⟩
      have hx9 : x ≤ 9 := by rw [← hx]; exact Ha.out _ (List.getElem_mem _)
      have hy9 : y ≤ 9 := by rw [← hy]; exact Hb.out _ (List.getElem_mem _)
      have h1 : sa[i].toNat = x + 48 := by
        rw [ga.out i hia (by rw [Hla.out]; omega), ← hx]
        simp only [hi]
      have h2 : sb[i].toNat = y + 48 := by
        rw [gb.out i hib (by rw [Hlb.out]; omega), ← hy]
        simp only [hi]
      obtain ⟨v, hv⟩ : ∃ v, x + y + cc = v := ⟨_, rfl⟩
      have hv19 : v ≤ 19 := by omega
      have hstep := hide (hI.out.step Ha.out Hb.out Hla.out Hlb.out hlt x y hx hy v hv.symm)
      have e1 : IntKind.u8.wrap ((sa[i].toNat : Int) - 48) = x := by rw [h1, IntKind.wrap_u8']; omega
      have e2 : IntKind.u8.wrap ((sb[i].toNat : Int) - 48) = y := by rw [h2, IntKind.wrap_u8']; omega
      have e3 : IntKind.i64.wrap (x : Int) = x := by rw [IntKind.wrap_i64]; omega
      have e4 : IntKind.i64.wrap (y : Int) = y := by rw [IntKind.wrap_i64]; omega
      have e5 : IntKind.i64.wrap ((x : Int) + y) = (x : Int) + y := by rw [IntKind.wrap_i64]; omega
      have e6 : IntKind.i64.wrap ((x : Int) + y + cc) = v := by rw [IntKind.wrap_i64]; omega
      have t1 : (v : Int).tdiv 10 = ((v / 10 : Nat) : Int) := by rw [Int.tdiv_eq_ediv_of_nonneg (by omega)]; omega
      obtain ⟨r, hr⟩ : ∃ r, v % 10 = r := ⟨_, rfl⟩
      have hr9 : r ≤ 9 := by omega
      have t2 : (v : Int).tmod 10 = (r : Int) := by rw [Int.tmod_eq_emod_of_nonneg (by omega)]; omega
      have hp := hide (dig_piece r hr9)
      rw [hr] at hstep
      have hc1 := hide (show v / 10 ≤ 1 by omega)
      have hi := hide hi
      clear hx hy hv h1 h2 hr
      rw [hi2]
      go_wp2
      go_region
      all_goals
        go_wp2
        refine ⟨⟨k + 1, v / 10, r :: l, by omega, hc1.out, ?_, rfl, ?_, hstep.out, hB.out.drew⟩, ?_⟩
        · exact congrArg (Value.int IntKind.i64) (by omega)
        · rw [hp.out, mkS_app]; rfl
        · simp only [intOf]; omega
    · have hke : k = n := by omega
      subst hke
      obtain ⟨d1, d2, d3⟩ := hI.out.done
      by_cases hc : 0 < cc
      · rw [if_pos hc] at d1 d2 d3
        have D := hide (And.intro d1 (And.intro d2 d3))
        clear d1 d2 d3
        go_wp2
        go_ret
        refine ⟨⟨1 :: l, ?_, D.out.2.1, D.out.2.2, D.out.1⟩, hB.out⟩
        exact congrArg (fun s => Ending.returned (Value.string s)) (mkS_app [1] l)
      · rw [if_neg hc] at d1 d2 d3
        have D := hide (And.intro d1 (And.intro d2 d3))
        clear d1 d2 d3
        go_wp2
        go_ret
        exact ⟨⟨l, rfl, D.out.2.1, D.out.2.2, D.out.1⟩, hB.out⟩
set_option maxHeartbeats 2000000 in
theorem minus_any (a b : List Nat) (n : Nat) (w : World) (ha : Dgs a) (hb : Dgs b) (hla : a.length = n) (hlb : b.length = n) (hn : n ≤ 100000) (hle : val b ≤ val a) :
    Calls Tryd.prog 50 #[.string (mkS a), .string (mkS b)] w fun e w' => (∃ l, e = .returned (.string (mkS l)) ∧ Dgs l ∧ l.length = n ∧ val l + val b = val a) ∧ Below w.heap.size w w' := by
  have hsa : (mkS a).size = n := by rw [mkS_size, hla]
  have hsb : (mkS b).size = n := by rw [mkS_size, hlb]
  have Ha := hide ha
  have Hb := hide hb
  have Hla := hide hla
  have Hlb := hide hlb
  have HLE := hide hle
  clear ha hb hla hlb hle
  obtain ⟨sa, hsA⟩ : ∃ s, s = mkS a := ⟨_, rfl⟩
  obtain ⟨sb, hsB⟩ : ∃ s, s = mkS b := ⟨_, rfl⟩
  rw [← hsA] at hsa ⊢
  rw [← hsB] at hsb ⊢
  have ga : Hid (∀ k (h : k < sa.size) (h' : k < a.length), sa[k].toNat = a[k] + 48) := fun k h h' => by subst hsA; exact mkS_get a Ha.out k h' h
  have gb : Hid (∀ k (h : k < sb.size) (h' : k < b.length), sb[k].toNat = b[k] + 48) := fun k h h' => by subst hsB; exact mkS_get b Hb.out k h' h
  clear hsA hsB
  go_enter Tryd.func50, Tryd.ntmps50
  go_wp2
  go_loopw [5, 6, 7] (fun s c i wr => ∃ (k cc : Nat) (l : List Nat), k ≤ n ∧ cc ≤ 1 ∧ i = .int .i64 ((n : Int) - 1 - k) ∧ c = .int .i64 cc ∧ s = .string (mkS l) ∧ Hid (SInv a b n k l cc) ∧ Hid (Below w.heap.size w wr)) (fun s c i _ => (intOf i + 1).toNat)
  case atStart => exact ⟨0, 0, [], Nat.zero_le _, Nat.zero_le _, by simp, rfl, rfl, SInv.start a b n Hla.out Hlb.out, Below.refl _ _⟩
  case round =>
    obtain ⟨k, cc, l, hk, hcc, rfl, rfl, rfl, hI, hB⟩ := hrel
    have hsz : (mkS l).size = k := by rw [mkS_size]; exact hI.out.len
    by_cases hlt : k < n
    · obtain ⟨i, hi⟩ : ∃ i : Nat, n - 1 - k = i := ⟨_, rfl⟩
      have hi2 : (n : Int) - 1 - k = i := by omega
      have hia : i < sa.size := by omega
      have hib : i < sb.size := by omega
      have hin : i < n := by omega
      have hin' : (i : Int) < n := by omega
      have hia' : (i : Int) < sa.size := by omega
      have hib' : (i : Int) < sb.size := by omega
      obtain ⟨x, hx⟩ : ∃ x, a[n - 1 - k]'(by rw [Hla.out]; omega) = x := ⟨_, rfl⟩
      obtain ⟨y, hy⟩ : ∃ y, b[n - 1 - k]'(by rw [Hlb.out]; omega) = y := ⟨_, rfl⟩
      have hx9 : x ≤ 9 := by rw [← hx]; exact Ha.out _ (List.getElem_mem _)
      have hy9 : y ≤ 9 := by rw [← hy]; exact Hb.out _ (List.getElem_mem _)
      have h1 : sa[i].toNat = x + 48 := by
        rw [ga.out i hia (by rw [Hla.out]; omega), ← hx]
        simp only [hi]
      have h2 : sb[i].toNat = y + 48 := by
        rw [gb.out i hib (by rw [Hlb.out]; omega), ← hy]
        simp only [hi]
      obtain ⟨v, hv⟩ : ∃ v, x + 10 - y - cc = v := ⟨_, rfl⟩
      have hv' : v + y + cc = x + 10 := by omega
      have hv19 : v ≤ 19 := by omega
      have hstep := hide (hI.out.step Ha.out Hb.out Hla.out Hlb.out hlt x y hx hy v hv')
      have e1 : IntKind.u8.wrap ((sa[i].toNat : Int) - 48) = x := by rw [h1, IntKind.wrap_u8']; omega
      have e2 : IntKind.u8.wrap ((sb[i].toNat : Int) - 48) = y := by rw [h2, IntKind.wrap_u8']; omega
      have e3 : IntKind.i64.wrap (x : Int) = x := by rw [IntKind.wrap_i64]; omega
      have e4 : IntKind.i64.wrap (y : Int) = y := by rw [IntKind.wrap_i64]; omega
      have e5 : IntKind.i64.wrap ((x : Int) - y) = (x : Int) - y := by rw [IntKind.wrap_i64]; omega
      have e6 : IntKind.i64.wrap ((x : Int) - y - cc) = (x : Int) - y - cc := by rw [IntKind.wrap_i64]; omega
      have e7 : IntKind.i64.wrap ((x : Int) - y - cc + 10) = v := by rw [IntKind.wrap_i64]; omega
      have t1 : (v : Int).tdiv 10 = ((v / 10 : Nat) : Int) := by rw [Int.tdiv_eq_ediv_of_nonneg (by omega)]; omega
      obtain ⟨r, hr⟩ : ∃ r, v % 10 = r := ⟨_, rfl⟩
      have hr9 : r ≤ 9 := by omega
      have t2 : (v : Int).tmod 10 = (r : Int) := by rw [Int.tmod_eq_emod_of_nonneg (by omega)]; omega
      have hp := hide (dig_piece r hr9)
      rw [hr] at hstep
      have hc1 := hide (show 1 - v / 10 ≤ 1 by omega)
      have hc2 := hide (show (1 : Int) - ((v / 10 : Nat) : Int) = ((1 - v / 10 : Nat) : Int) by omega)
      obtain ⟨q, hq⟩ : ∃ q, v / 10 = q := ⟨_, rfl⟩
      have hq1 : q ≤ 1 := by omega
      rw [hq] at t1 hstep hc1 hc2
      have hi := hide hi
      clear hx hy hv h1 h2 hr hv' hq
      rw [hi2]
      go_wp2
      go_region
      all_goals
        go_wp2
        refine ⟨⟨k + 1, 1 - q, r :: l, by omega, hc1.out, ?_, congrArg (Value.int IntKind.i64) hc2.out, ?_, hstep.out, hB.out.drew⟩, ?_⟩
        · exact congrArg (Value.int IntKind.i64) (by omega)
        · rw [hp.out, mkS_app]; rfl
        · simp only [intOf]; omega
    · have hke : k = n := by omega
      subst hke
      have hl := hide (hI.out.done HLE.out)
      have hD := hide hI.out.dgs
      have hL := hide hI.out.len
      go_wp2
      go_ret
      exact ⟨⟨l, rfl, hD.out, hL.out, hl.out⟩, hB.out⟩
end Go.Proofs.YtjpdlibncmldlaaDoor
