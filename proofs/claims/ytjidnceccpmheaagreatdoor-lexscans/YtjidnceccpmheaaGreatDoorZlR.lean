/- Merged by program: QlCut, QmExp, QnExp, QoParse, QpParse, QqParse, GdSame. -/
import Derived.Test.YtjidnceccpmheaaGreatDoorZlQ
import Derived.Test.YtjidnceccpmheaaGreatDoorZlNxLay
import Derived.Deep.RegionHeld3
import Derived.Test.YtjidnceccpmheaaGreatDoorZlNvSplit
import Derived.Test.YtjidnceccpmheaaGreatDoorZlNzParse
import Derived.Test.YtjidnceccpmheaaGreatDoorZlNyParse
/- calamusref01's cut, exponent: walked. -/
namespace Go.Proofs.YtjidnceccpmheaaGreatDoor
open Go.RowKit
set_option linter.unusedSimpArgs false
set_option linter.unusedVariables false
set_option maxHeartbeats 1000000 in
theorem rcut_any (s : ByteArray) (w : World) (hs : s.size ≤ 100000) :
    Calls Tryz.prog 57 #[.string s] w fun e w' => e = .returned (.tuple #[.string (mkB ((bl s).takeWhile isDig)), .string (mkB ((bl s).dropWhile isDig))]) ∧ Below w.heap.size w w' := by
  obtain ⟨k, hk⟩ : ∃ k, cntD (bl s) = k := ⟨_, rfl⟩
  have hle : k ≤ s.size := by rw [← hk, ← bl_length]; exact cntD_le _
  have hl1 : ((bl s).takeWhile isDig).length = k := hk
  have e1 := hide (show mkB ((bl s).takeWhile isDig) = s.extract 0 k by
    rw [extract_mkB, List.drop_zero, Nat.sub_zero]
    congr 1
    rw [← hl1]; exact (take_tw isDig (bl s)).symm)
  have e2 := hide (show mkB ((bl s).dropWhile isDig) = s.extract k s.size by
    rw [drop_mkB]
    congr 1
    rw [← hl1]; exact (drop_tw isDig (bl s)).symm)
  have hdig : Hid (∀ j (h : j < s.size), j < k → isDig s[j] = true) := fun j h hj => by
    rw [← bl_get s j h]
    have hj' : j < ((bl s).takeWhile isDig).length := by rw [hl1]; exact hj
    have e : (bl s)[j]'(by rw [bl_length]; exact h) = ((bl s).takeWhile isDig)[j] := by
      have := List.IsPrefix.getElem (List.takeWhile_prefix isDig (l := bl s)) hj'
      exact this.symm
    rw [e]
    exact List.all_eq_true.1 (List.all_takeWhile (p := isDig) (l := bl s)) _ (List.getElem_mem _)
  have hnot : Hid (∀ h : k < s.size, isDig s[k] = false) := fun h => by
    rw [← bl_get s k h]
    have h2 : 0 < ((bl s).dropWhile isDig).length := by
      have := congrArg List.length (List.takeWhile_append_dropWhile (p := isDig) (l := bl s))
      rw [List.length_append, hl1, bl_length] at this
      omega
    have h3 := List.head_dropWhile_not isDig (l := bl s) (by intro q; rw [q] at h2; simp at h2)
    have e : (bl s)[k]'(by rw [bl_length]; exact h) = ((bl s).dropWhile isDig).head (by intro q; rw [q] at h2; simp at h2) := by
      have q := drop_tw isDig (bl s)
      rw [hl1] at q
      rw [List.head_eq_getElem]
      simp only [← q, List.getElem_drop]
      rfl
    rw [e]; exact h3
  clear hk hl1
  go_enter Tryz.func57, Tryz.ntmps57
  go_wp2
  go_loop [4] (fun i => ∃ j : Nat, j ≤ k ∧ i = .int .i64 j) (fun i => k - (intOf i).toNat)
  case atStart => exact ⟨0, Nat.zero_le _, rfl⟩
  case round =>
    obtain ⟨j, hj, rfl⟩ := hrel
    by_cases hlt : j < k
    · have hjs : j < s.size := by omega
      have hd := (isDig_iff _).1 (hdig.out j hjs hlt)
      have d1 := hd.1
      have d2 := hd.2
      clear hd
      go_wp2
      exact ⟨⟨j + 1, by omega, by go_num⟩, by simp [intOf]; omega⟩
    · have hje : j = k := by omega
      subst hje
      by_cases hend : j < s.size
      · have hd' : ¬ (48 ≤ (s[j].toNat : Int) ∧ (s[j].toNat : Int) ≤ 57) := fun q => by
          have := hnot.out hend
          rw [(isDig_iff _).2 q] at this
          cases this
        have hj0 : (0 : Int) ≤ j := by omega
        have hjl : (j : Int) ≤ s.size := by omega
        go_wp2
        all_goals
          go_region
          all_goals
            go_wp2
            go_ret2
            exact ⟨by rw [e1.out, e2.out]; rfl, (Below.refl _ _).drew⟩
      · have hjs : j = s.size := by omega
        have e1' := hide (show mkB ((bl s).takeWhile isDig) = s by rw [e1.out, hjs, extract_mkB, List.drop_zero, Nat.sub_zero, List.take_of_length_le (by rw [bl_length]; exact Nat.le_refl _), mkB_bl])
        have e2' := hide (show mkB ((bl s).dropWhile isDig) = ByteArray.empty by rw [e2.out, hjs, drop_mkB, List.drop_of_length_le (by rw [bl_length]; exact Nat.le_refl _)]; rfl)
        have hj0 : (0 : Int) ≤ j := by omega
        have hjl : (j : Int) ≤ s.size := by omega
        have hjn : ¬ (j : Int) < s.size := by omega
        go_wp2
        all_goals
          go_region
          all_goals
            go_wp2
            go_ret2
            exact ⟨by rw [e1'.out, e2'.out]; rfl, (Below.refl _ _).drew⟩
end Go.Proofs.YtjidnceccpmheaaGreatDoor
/- calamusref01's exponent: walked. -/
namespace Go.Proofs.YtjidnceccpmheaaGreatDoor
open Go.RowKit
set_option linter.unusedSimpArgs false
set_option linter.unusedVariables false
/-- The power that digits say, cut off at a million. -/
def pwB (acc : Nat) : List UInt8 → Nat
  | [] => acc
  | c :: l => pwB (min (10 * acc + (c.toNat - 48)) 1000000) l
theorem pwB_le : ∀ (l : List UInt8) (acc : Nat), acc ≤ 1000000 → pwB acc l ≤ 1000000
  | [], acc, h => h
  | c :: l, acc, h => by unfold pwB; exact pwB_le l _ (Nat.min_le_right _ _)
theorem pwB_snoc : ∀ (l : List UInt8) (acc : Nat) (c : UInt8), pwB acc (l ++ [c]) = min (10 * pwB acc l + (c.toNat - 48)) 1000000
  | [], acc, c => rfl
  | a :: l, acc, c => by show pwB _ (l ++ [c]) = _; rw [pwB_snoc l]; rfl
/-- What exponent answers. -/
def expV : List UInt8 → Int × Bool
  | [] => (0, true)
  | c :: r => if c == 101 || c == 69 then (if spOk r then ((if spPn r then -(pwB 0 (spL r) : Int) else (pwB 0 (spL r) : Int)), true) else (0, false)) else (0, false)
theorem mkB_ext (c : UInt8) (r : List UInt8) : (mkB (c :: r)).extract 1 (r.length + 1) = mkB r := by
  have h := drop_mkB (mkB (c :: r)) 1
  rw [mkB_size, bl_mkB] at h
  exact h
theorem dw_nil (l : List UInt8) (h : allD l = true) : l.dropWhile isDig = [] := by
  induction l with
  | nil => rfl
  | cons a l ih =>
    simp only [allD, List.all_cons, Bool.and_eq_true] at h
    rw [List.dropWhile_cons, if_pos h.1]
    exact ih h.2
theorem spOk_cut (l : List UInt8) : (!(l.takeWhile isDig).isEmpty && (l.dropWhile isDig).isEmpty) = (!l.isEmpty && allD l) := by
  cases hd : allD l
  · have : (l.dropWhile isDig).isEmpty = false := by
      cases hq : l.dropWhile isDig with
      | nil =>
        exfalso
        have h1 := List.takeWhile_append_dropWhile (p := isDig) (l := l)
        rw [hq, List.append_nil] at h1
        have h2 := List.all_takeWhile (p := isDig) (l := l)
        rw [h1] at h2
        unfold allD at hd
        rw [h2] at hd; cases hd
      | cons => rfl
    rw [this]; simp
  · have h1 : l.dropWhile isDig = [] := dw_nil l hd
    have h2 : l.takeWhile isDig = l := by
      have := List.takeWhile_append_dropWhile (p := isDig) (l := l)
      rw [h1, List.append_nil] at this
      exact this
    rw [h1, h2]; rfl
theorem mkB_isEmpty (l : List UInt8) : (mkB l).toList.isEmpty = l.isEmpty := mkB_nil l
/-- Behind e and the sign: the digits. -/
def tailE (pn : Bool) (l : List UInt8) : Ending := if !(l.takeWhile isDig).isEmpty && (l.dropWhile isDig).isEmpty then .returned (.tuple #[.int .i64 (if pn then -(pwB 0 (l.takeWhile isDig) : Int) else (pwB 0 (l.takeWhile isDig) : Int)), .bool true]) else .returned (.tuple #[.int .i64 0, .bool false])
theorem exp_tail (c : UInt8) (r : List UInt8) (h : (c == 101 || c == 69) = true) : tailE (spPn r) (spL r) = .returned (.tuple #[.int .i64 (expV (c :: r)).1, .bool (expV (c :: r)).2]) := by
  have h1 := spOk_cut (spL r)
  have h0 : expV (c :: r) = if spOk r then ((if spPn r then -(pwB 0 (spL r) : Int) else (pwB 0 (spL r) : Int)), true) else (0, false) := by
    show (if c == 101 || c == 69 then _ else _) = _
    rw [if_pos h]
  unfold tailE
  rw [h1, h0]
  have h2 : spOk r = (!(spL r).isEmpty && allD (spL r)) := rfl
  rw [h2]
  cases hq : (!(spL r).isEmpty && allD (spL r))
  · rfl
  · have hal : allD (spL r) = true := by
      cases ha : allD (spL r)
      · rw [ha] at hq; simp at hq
      · rfl
    have : (spL r).takeWhile isDig = spL r := by
      have h3 := List.takeWhile_append_dropWhile (p := isDig) (l := spL r)
      have h4 : (spL r).dropWhile isDig = [] := dw_nil _ hal
      rw [h4, List.append_nil] at h3
      exact h3
    rw [this]
    rfl
end Go.Proofs.YtjidnceccpmheaaGreatDoor
/- calamusref01's exponent: walked. -/
namespace Go.Proofs.YtjidnceccpmheaaGreatDoor
open Go.RowKit
set_option linter.unusedSimpArgs false
set_option linter.unusedVariables false
theorem take_snoc (d : List UInt8) (k : Nat) (h : k < d.length) : d.take (k + 1) = d.take k ++ [d[k]] := List.take_succ_eq_append_getElem h
theorem rexp_no (c : UInt8) (r : List UInt8) (w : World) (h : (c == 101 || c == 69) = false) (hl : r.length ≤ 90000) :
    Calls Tryz.prog 58 #[.string (mkB (c :: r))] w fun e w' => e = .returned (.tuple #[.int .i64 0, .bool false]) ∧ Below w.heap.size w w' := by
  have hsz : (mkB (c :: r)).size = r.length + 1 := by rw [mkB_size]; rfl
  have hemp : (mkB (c :: r)).toList.isEmpty = false := mkB_isEmpty _
  have hg : (mkB (c :: r))[0]'(by omega) = c := get0_mkB c r _
  obtain ⟨S, hS⟩ : ∃ S, mkB (c :: r) = S := ⟨_, rfl⟩
  rw [hS] at hsz hemp ⊢
  have hg' : (S[0]'(by omega)) = c := by subst hS; exact hg
  have c1 : c.toNat ≠ 101 := by intro q; have : c = 101 := UInt8.toNat_inj.1 q; subst this; simp at h
  have c2 : c.toNat ≠ 69 := by intro q; have : c = 69 := UInt8.toNat_inj.1 q; subst this; simp at h
  have d1 : ((c.toNat : Int) != 101) = true := by simp; omega
  have d2 : ((c.toNat : Int) != 69) = true := by simp; omega
  have h0 : (0 : Int) < S.size := by omega
  clear hS hg
  go_enter Tryz.func58, Tryz.ntmps58
  go_wp2
  go_ret2
  exact ⟨rfl, Below.refl _ _⟩
theorem rexp_nil (w : World) : Calls Tryz.prog 58 #[.string ⟨#[]⟩] w fun e w' => e = .returned (.tuple #[.int .i64 0, .bool true]) ∧ Below w.heap.size w w' := by
  go_enter Tryz.func58, Tryz.ntmps58
  go_wp2
  go_ret2
  exact ⟨rfl, Below.refl _ _⟩
set_option maxHeartbeats 4000000 in
theorem rexp_e (c : UInt8) (r : List UInt8) (w : World) (h : (c == 101 || c == 69) = true) (hl : r.length ≤ 90000) :
    Calls Tryz.prog 58 #[.string (mkB (c :: r))] w fun e w' => e = tailE (spPn r) (spL r) ∧ Below w.heap.size w w' := by
  have hsz : (mkB (c :: r)).size = r.length + 1 := by rw [mkB_size]; rfl
  have hemp : (mkB (c :: r)).toList.isEmpty = false := mkB_isEmpty _
  have hg : (mkB (c :: r))[0]'(by omega) = c := get0_mkB c r _
  have hext := mkB_ext c r
  obtain ⟨S, hS⟩ : ∃ S, mkB (c :: r) = S := ⟨_, rfl⟩
  rw [hS] at hsz hemp hext ⊢
  have hg' : (S[0]'(by omega)) = c := by subst hS; exact hg
  have c1 : c.toNat = 101 ∨ c.toNat = 69 := by
    simp only [Bool.or_eq_true, beq_iff_eq] at h
    rcases h with rfl | rfl
    · left; rfl
    · right; rfl
  have h0 : (0 : Int) < S.size := by omega
  have h1 : (1 : Int) ≤ S.size := by omega
  clear hS hg h
  cases r with
  | nil =>
    have hp : Hid (tailE (spPn []) (spL []) = .returned (.tuple #[.int .i64 0, .bool false])) := rfl
    have he : mkB [] = ⟨#[]⟩ := rfl
    rw [he] at hext
    have hbe : bl ByteArray.empty = [] := rfl
    rcases c1 with q | q
    all_goals
      go_enter Tryz.func58, Tryz.ntmps58
      go_wp2_with fail
      go_fit (rcut_any ByteArray.empty _ (by decide))
      rw [hbe]
      rintro e w1 ⟨rfl, hb1⟩
      have hme := mkB_isEmpty []
      go_wp2
      go_ret2
      exact ⟨hp.out.symm, hb1⟩
  | cons b t =>
    have hsz2 : (mkB (b :: t)).size = t.length + 1 := by rw [mkB_size]; rfl
    have hg2 : (mkB (b :: t))[0]'(by omega) = b := get0_mkB b t _
    have hext2 := mkB_ext b t
    have hll : t.length ≤ 90000 := by simp at hl; omega
    simp only [List.length_cons] at hsz hext hl
    obtain ⟨V, hV⟩ : ∃ V, mkB (b :: t) = V := ⟨_, rfl⟩
    have g0 : (0 : Int) < ((mkB (b :: t)).size : Int) := by omega
    by_cases p1 : b = 43
    · subst p1
      have hPn : spPn (43 :: t) = false := rfl
      have hL : spL (43 :: t) = t := rfl
      rw [hPn, hL]
      rw [hV] at hsz2 hext2 hext g0
      have hg3 : (V[0]'(by omega)) = 43 := by subst hV; exact hg2
      have g1 : (1 : Int) ≤ V.size := by omega
      clear hV hg2 hPn hL
      rcases c1 with q | q
      all_goals
        go_enter Tryz.func58, Tryz.ntmps58
        go_wp2_with fail
        go_fit (rcut_any (mkB t) _ (by rw [mkB_size]; omega))
        rw [bl_mkB]
        rintro e w1 ⟨rfl, hb1⟩
        have hD := hide (show ∀ c ∈ t.takeWhile isDig, isDig c = true from fun c hc => List.all_eq_true.1 (List.all_takeWhile (p := isDig) (l := t)) c hc)
        have hDl : (t.takeWhile isDig).length ≤ 90001 := by have := takeWhile_len t; omega
        have eT := hide (show tailE false t = if !(t.takeWhile isDig).isEmpty && (t.dropWhile isDig).isEmpty then .returned (.tuple #[.int .i64 (if false then -(pwB 0 (t.takeWhile isDig) : Int) else (pwB 0 (t.takeWhile isDig) : Int)), .bool true]) else .returned (.tuple #[.int .i64 0, .bool false]) from rfl)
        obtain ⟨D, hDD⟩ : ∃ D, t.takeWhile isDig = D := ⟨_, rfl⟩
        obtain ⟨R, hRR⟩ : ∃ R, t.dropWhile isDig = R := ⟨_, rfl⟩
        rw [hDD, hRR] at eT
        rw [hDD] at hD hDl
        rw [hDD, hRR]
        have m1 := mkB_isEmpty D
        have m2 := mkB_isEmpty R
        have sD : (mkB D).size = D.length := mkB_size D
        cases hD0 : D.isEmpty
        · cases hR0 : R.isEmpty
          · rw [hD0] at m1
            rw [hR0] at m2
            rw [hD0, hR0] at eT
            go_wp2
            go_ret2
            exact ⟨eT.out.symm, hb1⟩
          · rw [hD0] at m1
            rw [hR0] at m2
            rw [hD0, hR0] at eT
            go_wp2
            clear m1 m2
            go_loop [7, 8] (fun x i => ∃ k : Nat, k ≤ D.length ∧ i = .int .i64 k ∧ x = .int .i64 (pwB 0 (D.take k) : Nat)) (fun x i => D.length - (intOf i).toNat)
            case atStart => exact ⟨0, Nat.zero_le _, rfl, rfl⟩
            case round =>
              obtain ⟨k, hk, rfl, rfl⟩ := hrel
              have hx6 := pwB_le (D.take k) 0 (by omega)
              by_cases hlt : k < D.length
              · obtain ⟨u, hu⟩ : ∃ u, D[k]'hlt = u := ⟨_, rfl⟩
                have hmem : u ∈ D := by rw [← hu]; exact List.getElem_mem _
                have hdig := (isDig_iff u).1 (hD.out u hmem)
                have hst := hide (show pwB 0 (D.take (k + 1)) = min (10 * pwB 0 (D.take k) + (u.toNat - 48)) 1000000 by rw [take_snoc D k hlt, pwB_snoc, hu])
                have hks : k < (mkB D).size := by omega
                have hget : (mkB D)[k] = u := by
                  have q := bl_get (mkB D) k hks
                  rw [← q, ← hu]
                  simp only [bl_mkB]
                  try rfl
                obtain ⟨q, hq⟩ : ∃ q : Nat, u.toNat = q := ⟨_, rfl⟩
                have hg2 : ((mkB D)[k]).toNat = q := by rw [hget, hq]
                rw [hq] at hdig hst
                have q1 : 48 ≤ q := by omega
                have q2 : q ≤ 57 := by omega
                have hki : (k : Int) < (mkB D).size := by omega
                obtain ⟨x, hxx⟩ : ∃ x, pwB 0 (D.take k) = x := ⟨_, rfl⟩
                rw [hxx] at hst hx6 ⊢
                clear hget hq hdig hxx hmem hu
                by_cases hbig : 10 * x + (q - 48) ≤ 1000000
                · rw [Nat.min_eq_left hbig] at hst
                  have b1 : 10 * (x : Int) + ((q : Int) - 48) ≤ 1000000 := by omega
                  have b2 : ¬ (1000000 : Int) < 10 * (x : Int) + ((q : Int) - 48) := by omega
                  go_wp2
                  all_goals
                    refine ⟨⟨k + 1, hlt, by go_num, ?_⟩, ?_⟩
                    · rw [hst.out]; exact congrArg (Value.int IntKind.i64) (by omega)
                    · simp [intOf]; omega
                · rw [Nat.min_eq_right (by omega)] at hst
                  have b1 : ¬ 10 * (x : Int) + ((q : Int) - 48) ≤ 1000000 := by omega
                  have b2 : (1000000 : Int) < 10 * (x : Int) + ((q : Int) - 48) := by omega
                  go_wp2
                  all_goals
                    refine ⟨⟨k + 1, hlt, by go_num, ?_⟩, ?_⟩
                    · rw [hst.out]; exact congrArg (Value.int IntKind.i64) (by omega)
                    · simp [intOf]; omega
              · have hke : k = D.length := by omega
                subst hke
                have htk : D.take D.length = D := List.take_of_length_le (Nat.le_refl _)
                rw [htk] at hx6 ⊢
                obtain ⟨x, hxx⟩ : ∃ x, pwB 0 D = x := ⟨_, rfl⟩
                rw [hxx] at eT hx6 ⊢
                clear hxx htk
                go_wp2
                go_ret2
                refine ⟨?_, hb1⟩
                rw [eT.out]
                rfl
        · rw [hD0] at m1
          rw [hD0] at eT
          go_wp2
          go_ret2
          exact ⟨eT.out.symm, hb1⟩
    · by_cases p2 : b = 45
      · subst p2
        have hPn : spPn (45 :: t) = true := rfl
        have hL : spL (45 :: t) = t := rfl
        rw [hPn, hL]
        rw [hV] at hsz2 hext2 hext g0
        have hg3 : (V[0]'(by omega)) = 45 := by subst hV; exact hg2
        have g1 : (1 : Int) ≤ V.size := by omega
        clear hV hg2 hPn hL
        rcases c1 with q | q
        all_goals
          go_enter Tryz.func58, Tryz.ntmps58
          go_wp2_with fail
          go_fit (rcut_any (mkB t) _ (by rw [mkB_size]; omega))
          rw [bl_mkB]
          rintro e w1 ⟨rfl, hb1⟩
          have hD := hide (show ∀ c ∈ t.takeWhile isDig, isDig c = true from fun c hc => List.all_eq_true.1 (List.all_takeWhile (p := isDig) (l := t)) c hc)
          have hDl : (t.takeWhile isDig).length ≤ 90001 := by have := takeWhile_len t; omega
          have eT := hide (show tailE true t = if !(t.takeWhile isDig).isEmpty && (t.dropWhile isDig).isEmpty then .returned (.tuple #[.int .i64 (if true then -(pwB 0 (t.takeWhile isDig) : Int) else (pwB 0 (t.takeWhile isDig) : Int)), .bool true]) else .returned (.tuple #[.int .i64 0, .bool false]) from rfl)
          obtain ⟨D, hDD⟩ : ∃ D, t.takeWhile isDig = D := ⟨_, rfl⟩
          obtain ⟨R, hRR⟩ : ∃ R, t.dropWhile isDig = R := ⟨_, rfl⟩
          rw [hDD, hRR] at eT
          rw [hDD] at hD hDl
          rw [hDD, hRR]
          have m1 := mkB_isEmpty D
          have m2 := mkB_isEmpty R
          have sD : (mkB D).size = D.length := mkB_size D
          cases hD0 : D.isEmpty
          · cases hR0 : R.isEmpty
            · rw [hD0] at m1
              rw [hR0] at m2
              rw [hD0, hR0] at eT
              go_wp2
              go_ret2
              exact ⟨eT.out.symm, hb1⟩
            · rw [hD0] at m1
              rw [hR0] at m2
              rw [hD0, hR0] at eT
              go_wp2
              clear m1 m2
              go_loop [7, 8] (fun x i => ∃ k : Nat, k ≤ D.length ∧ i = .int .i64 k ∧ x = .int .i64 (pwB 0 (D.take k) : Nat)) (fun x i => D.length - (intOf i).toNat)
              case atStart => exact ⟨0, Nat.zero_le _, rfl, rfl⟩
              case round =>
                obtain ⟨k, hk, rfl, rfl⟩ := hrel
                have hx6 := pwB_le (D.take k) 0 (by omega)
                by_cases hlt : k < D.length
                · obtain ⟨u, hu⟩ : ∃ u, D[k]'hlt = u := ⟨_, rfl⟩
                  have hmem : u ∈ D := by rw [← hu]; exact List.getElem_mem _
                  have hdig := (isDig_iff u).1 (hD.out u hmem)
                  have hst := hide (show pwB 0 (D.take (k + 1)) = min (10 * pwB 0 (D.take k) + (u.toNat - 48)) 1000000 by rw [take_snoc D k hlt, pwB_snoc, hu])
                  have hks : k < (mkB D).size := by omega
                  have hget : (mkB D)[k] = u := by
                    have q := bl_get (mkB D) k hks
                    rw [← q, ← hu]
                    simp only [bl_mkB]
                    try rfl
                  obtain ⟨q, hq⟩ : ∃ q : Nat, u.toNat = q := ⟨_, rfl⟩
                  have hg2 : ((mkB D)[k]).toNat = q := by rw [hget, hq]
                  rw [hq] at hdig hst
                  have q1 : 48 ≤ q := by omega
                  have q2 : q ≤ 57 := by omega
                  have hki : (k : Int) < (mkB D).size := by omega
                  obtain ⟨x, hxx⟩ : ∃ x, pwB 0 (D.take k) = x := ⟨_, rfl⟩
                  rw [hxx] at hst hx6 ⊢
                  clear hget hq hdig hxx hmem hu
                  by_cases hbig : 10 * x + (q - 48) ≤ 1000000
                  · rw [Nat.min_eq_left hbig] at hst
                    have b1 : 10 * (x : Int) + ((q : Int) - 48) ≤ 1000000 := by omega
                    have b2 : ¬ (1000000 : Int) < 10 * (x : Int) + ((q : Int) - 48) := by omega
                    go_wp2
                    all_goals
                      refine ⟨⟨k + 1, hlt, by go_num, ?_⟩, ?_⟩
                      · rw [hst.out]; exact congrArg (Value.int IntKind.i64) (by omega)
                      · simp [intOf]; omega
                  · rw [Nat.min_eq_right (by omega)] at hst
                    have b1 : ¬ 10 * (x : Int) + ((q : Int) - 48) ≤ 1000000 := by omega
                    have b2 : (1000000 : Int) < 10 * (x : Int) + ((q : Int) - 48) := by omega
                    go_wp2
                    all_goals
                      refine ⟨⟨k + 1, hlt, by go_num, ?_⟩, ?_⟩
                      · rw [hst.out]; exact congrArg (Value.int IntKind.i64) (by omega)
                      · simp [intOf]; omega
                · have hke : k = D.length := by omega
                  subst hke
                  have htk : D.take D.length = D := List.take_of_length_le (Nat.le_refl _)
                  rw [htk] at hx6 ⊢
                  obtain ⟨x, hxx⟩ : ∃ x, pwB 0 D = x := ⟨_, rfl⟩
                  rw [hxx] at eT hx6 ⊢
                  clear hxx htk
                  go_wp2
                  go_ret2
                  refine ⟨?_, hb1⟩
                  rw [eT.out]
                  simp
          · rw [hD0] at m1
            rw [hD0] at eT
            go_wp2
            go_ret2
            exact ⟨eT.out.symm, hb1⟩
      · have n1 : b.toNat ≠ 43 := fun q => p1 (UInt8.toNat_inj.1 q)
        have n2 : b.toNat ≠ 45 := fun q => p2 (UInt8.toNat_inj.1 q)
        have hd1 : hdB 43 (b :: t) = false := by simp [hdB, p1]
        have hd2 : hdB 45 (b :: t) = false := by simp [hdB, p2]
        have hPn : spPn (b :: t) = false := by unfold spPn; rw [hd1, hd2]; rfl
        have hL : spL (b :: t) = b :: t := by unfold spL; rw [hd1, tlB_no hd2]; rfl
        rw [hPn, hL]
        have m1 : ((b.toNat : Int) == 43) = false := by simp; omega
        have m2 : ((b.toNat : Int) == 45) = false := by simp; omega
        have hll2 : (b :: t).length ≤ 90001 := by simp; omega
        obtain ⟨l, hl'⟩ : ∃ l, b :: t = l := ⟨_, rfl⟩
        rw [hl'] at hsz2 hext g0 hll2 ⊢
        have hg3 : ((mkB l)[0]'(by omega)) = b := by subst hl'; exact hg2
        clear hV hg2 hl' hPn hL hext2 p1 p2 hd1 hd2 n1 n2
        rcases c1 with q | q
        all_goals
          go_enter Tryz.func58, Tryz.ntmps58
          go_wp2_with fail
          go_fit (rcut_any (mkB l) _ (by rw [mkB_size]; omega))
          rw [bl_mkB]
          rintro e w1 ⟨rfl, hb1⟩
          have hD := hide (show ∀ c ∈ l.takeWhile isDig, isDig c = true from fun c hc => List.all_eq_true.1 (List.all_takeWhile (p := isDig) (l := l)) c hc)
          have hDl : (l.takeWhile isDig).length ≤ 90001 := by have := takeWhile_len l; omega
          have eT := hide (show tailE false l = if !(l.takeWhile isDig).isEmpty && (l.dropWhile isDig).isEmpty then .returned (.tuple #[.int .i64 (if false then -(pwB 0 (l.takeWhile isDig) : Int) else (pwB 0 (l.takeWhile isDig) : Int)), .bool true]) else .returned (.tuple #[.int .i64 0, .bool false]) from rfl)
          obtain ⟨D, hDD⟩ : ∃ D, l.takeWhile isDig = D := ⟨_, rfl⟩
          obtain ⟨R, hRR⟩ : ∃ R, l.dropWhile isDig = R := ⟨_, rfl⟩
          rw [hDD, hRR] at eT
          rw [hDD] at hD hDl
          rw [hDD, hRR]
          have m1 := mkB_isEmpty D
          have m2 := mkB_isEmpty R
          have sD : (mkB D).size = D.length := mkB_size D
          cases hD0 : D.isEmpty
          · cases hR0 : R.isEmpty
            · rw [hD0] at m1
              rw [hR0] at m2
              rw [hD0, hR0] at eT
              go_wp2
              go_ret2
              exact ⟨eT.out.symm, hb1⟩
            · rw [hD0] at m1
              rw [hR0] at m2
              rw [hD0, hR0] at eT
              go_wp2
              clear m1 m2
              go_loop [7, 8] (fun x i => ∃ k : Nat, k ≤ D.length ∧ i = .int .i64 k ∧ x = .int .i64 (pwB 0 (D.take k) : Nat)) (fun x i => D.length - (intOf i).toNat)
              case atStart => exact ⟨0, Nat.zero_le _, rfl, rfl⟩
              case round =>
                obtain ⟨k, hk, rfl, rfl⟩ := hrel
                have hx6 := pwB_le (D.take k) 0 (by omega)
                by_cases hlt : k < D.length
                · obtain ⟨u, hu⟩ : ∃ u, D[k]'hlt = u := ⟨_, rfl⟩
                  have hmem : u ∈ D := by rw [← hu]; exact List.getElem_mem _
                  have hdig := (isDig_iff u).1 (hD.out u hmem)
                  have hst := hide (show pwB 0 (D.take (k + 1)) = min (10 * pwB 0 (D.take k) + (u.toNat - 48)) 1000000 by rw [take_snoc D k hlt, pwB_snoc, hu])
                  have hks : k < (mkB D).size := by omega
                  have hget : (mkB D)[k] = u := by
                    have q := bl_get (mkB D) k hks
                    rw [← q, ← hu]
                    simp only [bl_mkB]
                    try rfl
                  obtain ⟨q, hq⟩ : ∃ q : Nat, u.toNat = q := ⟨_, rfl⟩
                  have hg2 : ((mkB D)[k]).toNat = q := by rw [hget, hq]
                  rw [hq] at hdig hst
                  have q1 : 48 ≤ q := by omega
                  have q2 : q ≤ 57 := by omega
                  have hki : (k : Int) < (mkB D).size := by omega
                  obtain ⟨x, hxx⟩ : ∃ x, pwB 0 (D.take k) = x := ⟨_, rfl⟩
                  rw [hxx] at hst hx6 ⊢
                  clear hget hq hdig hxx hmem hu
                  by_cases hbig : 10 * x + (q - 48) ≤ 1000000
                  · rw [Nat.min_eq_left hbig] at hst
                    have b1 : 10 * (x : Int) + ((q : Int) - 48) ≤ 1000000 := by omega
                    have b2 : ¬ (1000000 : Int) < 10 * (x : Int) + ((q : Int) - 48) := by omega
                    go_wp2
                    all_goals
                      refine ⟨⟨k + 1, hlt, by go_num, ?_⟩, ?_⟩
                      · rw [hst.out]; exact congrArg (Value.int IntKind.i64) (by omega)
                      · simp [intOf]; omega
                  · rw [Nat.min_eq_right (by omega)] at hst
                    have b1 : ¬ 10 * (x : Int) + ((q : Int) - 48) ≤ 1000000 := by omega
                    have b2 : (1000000 : Int) < 10 * (x : Int) + ((q : Int) - 48) := by omega
                    go_wp2
                    all_goals
                      refine ⟨⟨k + 1, hlt, by go_num, ?_⟩, ?_⟩
                      · rw [hst.out]; exact congrArg (Value.int IntKind.i64) (by omega)
                      · simp [intOf]; omega
                · have hke : k = D.length := by omega
                  subst hke
                  have htk : D.take D.length = D := List.take_of_length_le (Nat.le_refl _)
                  rw [htk] at hx6 ⊢
                  obtain ⟨x, hxx⟩ : ∃ x, pwB 0 D = x := ⟨_, rfl⟩
                  rw [hxx] at eT hx6 ⊢
                  clear hxx htk
                  go_wp2
                  go_ret2
                  refine ⟨?_, hb1⟩
                  rw [eT.out]
                  rfl
          · rw [hD0] at m1
            rw [hD0] at eT
            go_wp2
            go_ret2
            exact ⟨eT.out.symm, hb1⟩
end Go.Proofs.YtjidnceccpmheaaGreatDoor
/- calamusref01's Parse: walked. -/
namespace Go.Proofs.YtjidnceccpmheaaGreatDoor
open Go.RowKit
set_option linter.unusedSimpArgs false
set_option linter.unusedVariables false
/-- The power that the pieces say, cut off at a million. -/
def powB (pn : Bool) (l : List UInt8) : Int := if pn then -(pwB 0 l : Int) else pwB 0 l
/-- What the reference's Parse makes of a text. -/
def parseR (l : List UInt8) : Bool × ByteArray × Int × Int :=
  match splitL l with
  | none => (false, ⟨#[]⟩, 0, 10)
  | some (n, wh, fr, pn, pw) => if 512 < l.length then (false, ⟨#[]⟩, 0, 2) else formF n (dlu wh ++ dlu fr) (powB pn pw - fr.length)
theorem expV_none (n : Bool) (wh fr l4 : List UInt8) (h : (expV l4).2 = false) : splitT n wh fr l4 = none ∧ expV l4 = (0, false) := by
  cases l4 with
  | nil => cases h
  | cons c r =>
    have h0 : expV (c :: r) = if c == 101 || c == 69 then (if spOk r then ((if spPn r then -(pwB 0 (spL r) : Int) else (pwB 0 (spL r) : Int)), true) else (0, false)) else (0, false) := rfl
    have h1 : splitT n wh fr (c :: r) = if c == 101 || c == 69 then (if spOk r then some (n, wh, fr, spPn r, spL r) else none) else none := rfl
    rw [h0] at h ⊢
    rw [h1]
    split at h
    · rename_i q
      rw [if_pos q, if_pos q]
      split at h
      · cases h
      · rename_i q2
        rw [if_neg q2, if_neg q2]
        exact ⟨rfl, rfl⟩
    · rename_i q
      rw [if_neg q, if_neg q]
      exact ⟨rfl, rfl⟩
theorem expV_some (n : Bool) (wh fr l4 : List UInt8) (h : (expV l4).2 = true) : ∃ pn pw, splitT n wh fr l4 = some (n, wh, fr, pn, pw) ∧ expV l4 = (powB pn pw, true) ∧ pwB 0 pw ≤ 1000000 := by
  cases l4 with
  | nil => exact ⟨false, [], rfl, rfl, by unfold pwB; omega⟩
  | cons c r =>
    have h0 : expV (c :: r) = if c == 101 || c == 69 then (if spOk r then ((if spPn r then -(pwB 0 (spL r) : Int) else (pwB 0 (spL r) : Int)), true) else (0, false)) else (0, false) := rfl
    have h1 : splitT n wh fr (c :: r) = if c == 101 || c == 69 then (if spOk r then some (n, wh, fr, spPn r, spL r) else none) else none := rfl
    rw [h0] at h ⊢
    rw [h1]
    split at h
    · rename_i q
      rw [if_pos q, if_pos q]
      split at h
      · rename_i q2
        rw [if_pos q2, if_pos q2]
        exact ⟨spPn r, spL r, rfl, rfl, pwB_le _ _ (by omega)⟩
      · cases h
    · cases h
theorem rexp_any (l : List UInt8) (w : World) (hl : l.length ≤ 90000) :
    Calls Tryz.prog 58 #[.string (mkB l)] w fun e w' => e = .returned (.tuple #[.int .i64 (expV l).1, .bool (expV l).2]) ∧ Below w.heap.size w w' := by
  cases l with
  | nil => exact rexp_nil w
  | cons c r =>
    cases h : (c == 101 || c == 69)
    · have h0 : expV (c :: r) = (0, false) := by
        show (if c == 101 || c == 69 then _ else _) = _
        rw [h]; rfl
      rw [h0]
      exact rexp_no c r w h (by simp at hl; omega)
    · rw [← exp_tail c r h]
      exact rexp_e c r w h (by simp at hl; omega)
theorem formF_err2 (neg : Bool) (l : List Nat) (x : Int) {fb : Bool} {fs : ByteArray} {fx fe : Int} (h : formF neg l x = (fb, fs, fx, fe)) : fe = 0 ∨ (fb = false ∧ fs = ⟨#[]⟩ ∧ fx = 0 ∧ fe = 2) := by
  unfold formF at h
  split at h
  · left; exact (congrArg (fun r => r.2.2.2) h).symm
  · split at h
    · left; exact (congrArg (fun r => r.2.2.2) h).symm
    · right
      exact ⟨(congrArg (fun r => r.1) h).symm, (congrArg (fun r => r.2.1) h).symm, (congrArg (fun r => r.2.2.1) h).symm, (congrArg (fun r => r.2.2.2) h).symm⟩
theorem dlu_len (l : List UInt8) : (dlu l).length = l.length := by simp [dlu]
theorem mkB_dlu (l : List UInt8) (h : allD l = true) : mkB l = mkS (dlu l) := by
  have := mkS_of (mkB l) (by rw [bl_mkB]; exact h)
  rw [dlu_mkB] at this
  exact this.symm
/-- What is behind the power: Made, and its answer told. -/
structure FinQ (w W : World) : Prop where
  below : Below w.heap.size w W
  box : Box W w.heap.size false ⟨#[]⟩ 0
theorem FinQ.then {w W W1 : World} (h : FinQ w W) (hb : Below W.heap.size W W1) : FinQ w W1 := ⟨below_then h.below hb, h.box.below hb h.box.lt⟩
theorem FinQ.drew {w W : World} (h : FinQ w W) : FinQ w W.drew := ⟨h.below.drew, h.box⟩
theorem fin_new (w : World) : FinQ w (w.alloc (.cells #[.bool false, .string ⟨#[]⟩, .int .i64 0] 54)) := ⟨below_al (Below.refl _ _), box_new w false ⟨#[]⟩ 0⟩
end Go.Proofs.YtjidnceccpmheaaGreatDoor
/- calamusref01's Parse: walked, behind the sign. -/
namespace Go.Proofs.YtjidnceccpmheaaGreatDoor
open Go.RowKit
set_option linter.unusedSimpArgs false
set_option linter.unusedVariables false
set_option maxRecDepth 100000 in
set_option maxHeartbeats 4000000 in
theorem rparse_minus (T : List UInt8) (w : World) (hl : T.length ≤ 80000) :
    Calls Tryz.prog 45 #[.string (mkB (45 :: T))] w fun e w' => e = retF (parseR (45 :: T)) ∧ Below w.heap.size w w' := by
  have hsz : (mkB (45 :: T)).size = T.length + 1 := by rw [mkB_size]; rfl
  have hg : (mkB (45 :: T))[0]'(by omega) = 45 := get0_mkB 45 T _
  have hext := mkB_ext 45 T
  have hSL : Hid (splitL (45 :: T) = if badW (T.takeWhile isDig) then none
      else if hdB 46 (T.dropWhile isDig) then (if ((tlB 46 (T.dropWhile isDig)).takeWhile isDig).isEmpty then none else splitT true (T.takeWhile isDig) ((tlB 46 (T.dropWhile isDig)).takeWhile isDig) ((tlB 46 (T.dropWhile isDig)).dropWhile isDig))
      else splitT true (T.takeWhile isDig) [] (T.dropWhile isDig)) := rfl
  obtain ⟨L, hL⟩ : ∃ L, 45 :: T = L := ⟨_, rfl⟩
  have hLl : L.length = T.length + 1 := by rw [← hL]; rfl
  rw [hL] at hSL hsz hext ⊢
  have hg' : ((mkB L)[0]'(by omega)) = 45 := by subst hL; exact hg
  have h0 : (0 : Int) < (mkB L).size := by omega
  have h1 : (1 : Int) ≤ (mkB L).size := by omega
  have F0 := hide (fin_new w)
  clear hL hg
  go_enter Tryz.func45, Tryz.ntmps45
  go_wp2_with fail
  go_fit (rcut_any (mkB T) _ (by rw [mkB_size]; omega))
  rw [bl_mkB]
  rintro e w5 ⟨rfl, hb5⟩
  have F5 := hide (F0.out.then hb5)
  clear hb5
  have lw := takeWhile_len T
  have lr := dropWhile_len T
  have hwd := hide (allD_tw T)
  obtain ⟨wh, hwh⟩ : ∃ wh, T.takeWhile isDig = wh := ⟨_, rfl⟩
  obtain ⟨R1, hR1⟩ : ∃ R1, T.dropWhile isDig = R1 := ⟨_, rfl⟩
  rw [hwh, hR1] at hSL
  rw [hwh] at lw hwd
  rw [hR1] at lr
  rw [hwh, hR1]
  have me := mkB_isEmpty wh
  have sw : (mkB wh).size = wh.length := mkB_size wh
  have s1 : (mkB R1).size = R1.length := mkB_size R1
  clear hwh hR1
  cases hbad : badW wh
  · -- the whole part is as it should be
    have hSL2 := hide (hSL.out.trans (if_neg (by rw [hbad]; simp)))
    have hne : wh.isEmpty = false := by
      cases hq : wh.isEmpty
      · rfl
      · unfold badW at hbad; rw [hq] at hbad; simp at hbad
    rw [hne] at me
    have hw0 : 0 < wh.length := by
      cases wh with
      | nil => cases hne
      | cons => simp
    have hlead : ¬ (1 < wh.length ∧ ((mkB wh)[0]'(by omega)).toNat = 48) := by
      rintro ⟨q1, q2⟩
      have hh : wh.head? = some 48 := by
        cases wh with
        | nil => cases hne
        | cons c r =>
          have := get0_mkB c r (by omega)
          rw [this] at q2
          have : c = 48 := UInt8.toNat_inj.1 q2
          rw [this]; rfl
      unfold badW at hbad
      rw [hh] at hbad
      simp [q1] at hbad
    have hw0i : (0 : Int) < (mkB wh).size := by omega
    obtain ⟨q0, hq0⟩ : ∃ q0 : Nat, ((mkB wh)[0]'(by omega)).toNat = q0 := ⟨_, rfl⟩
    rw [hq0] at hlead
    have hw1 : ((1 : Int) < (wh.length : Int) ∧ ((q0 : Int) == 48) = false) ∨ ¬ (1 : Int) < (wh.length : Int) := by
      by_cases q : 1 < wh.length
      · left
        refine ⟨by omega, ?_⟩
        have : q0 ≠ 48 := fun e => hlead ⟨q, e⟩
        simp; omega
      · right; omega
    clear hbad hlead
    cases hdot : hdB 46 R1
    · -- no point
      have hSplit := hide (hSL2.out.trans (if_neg (by rw [hdot]; simp)))
      obtain ⟨R2, hR2⟩ : ∃ R2, R1 = R2 := ⟨_, rfl⟩
      rw [hR2] at hSplit hdot s1 lr ⊢
      clear hR2
      have F7 := F5
      cases R2 with
      | nil =>
        have he : mkB [] = ⟨#[]⟩ := rfl
        rw [he]
        rcases hw1 with ⟨a1, a2⟩ | a1
        all_goals
          go_wp2_with fail
          go_fit (rexp_nil _)
          rintro e w8 ⟨rfl, hb8⟩
          have F8 := hide (F7.out.then hb8)
          clear hb8
          have hSp2 := hide (hSplit.out.trans (show splitT true wh [] [] = some (true, wh, [], false, []) from rfl))
          obtain ⟨v, hv⟩ : ∃ v : Int, powB false [] = v := ⟨_, rfl⟩
          have hv0 : (0 : Int) = v := hv
          rw [hv0]
          have hpb1 : -1000000 ≤ v := by omega
          have hpb2 : v ≤ 1000000 := by omega
          clear hv0
          by_cases hbig : 512 < L.length
          · have hpr := hide (show parseR L = (false, ⟨#[]⟩, 0, 2) by unfold parseR; rw [hSp2.out]; exact if_pos hbig)
            have hbig' : (512 : Int) < L.length := by omega
            skip
            obtain ⟨z0, z1, z2, y0, y1, y2⟩ := F8.out.box.cells
            obtain ⟨r0, r1, r2, _, _, _⟩ := (F8.out.box.set (n' := false) (s' := ⟨#[]⟩) (x' := 0)).cells
            go_wp2
            refine bodyPost_ret (v := .tuple #[.agg #[.bool false, .string ⟨#[]⟩, .int .i64 0], .int .i64 2]) (by simp [results, Tryz.results45, go_sem, r0, r1, r2]) rfl ⟨by rw [hpr.out]; rfl, ?_⟩
            iterate 3 refine Below.setCell ?_ (by show w.heap.size ≤ w.heap.size; omega) _
            exact F8.out.below
          · have hpr := hide (show parseR L = formF true (dlu wh) v by unfold parseR; rw [hSp2.out, ← hv]; refine (if_neg hbig).trans ?_; simp [dlu])
            have hbig' : ¬ (512 : Int) < L.length := by omega
            have hcat := hide (show mkB wh ++ ⟨#[]⟩ = mkS (dlu wh) by rw [mkB_dlu wh hwd.out, ← mkS_nil, mkS_app, List.append_nil])
            have hDg := hide (dlu_dgs _ hwd.out)
            have hDl := hide (show (dlu wh).length ≤ 100000 by rw [dlu_len]; omega)
            have hcr : ∀ w, (Op.stringOp .add (mkB wh) ⟨#[]⟩).run Tryz.prog w = .ok (.string (mkS (dlu wh))) w := fun w => by rw [← hcat.out]; exact run_string_add_sum w _ _ (by rw [mkB_size]; show _ + 0 ≤ _; omega)
            obtain ⟨fb, fs, fx, fe, hfe⟩ : ∃ fb fs fx fe, formF true (dlu wh) v = (fb, fs, fx, fe) := ⟨_, _, _, _, rfl⟩
            have HF := hide hfe
            rw [hfe] at hpr
            have herr := formF_err2 _ _ _ hfe
            clear hfe
            go_wp2_with fail
            go_fit (made_any true (dlu wh) v _ hDg.out hDl.out (by omega) (by omega))
            rw [HF.out]
            rintro e w9 ⟨rfl, hb9⟩
            have F9 := hide (F8.out.then hb9)
            simp only [retM]
            rcases herr with rfl | ⟨rfl, rfl, rfl, rfl⟩
            · obtain ⟨z0, z1, z2, y0, y1, y2⟩ := (F9.out.box.alloc (.cells #[.bool fb, .string fs, .int .i64 fx] 54)).cells
              obtain ⟨t0, t1, t2, _, _, _⟩ := (box_new w9 fb fs fx).cells
              obtain ⟨r0, r1, r2, _, _, _⟩ := ((F9.out.box.alloc (.cells #[.bool fb, .string fs, .int .i64 fx] 54)).set (n' := fb) (s' := fs) (x' := fx)).cells
              go_wp2
              refine bodyPost_ret (v := .tuple #[.agg #[.bool fb, .string fs, .int .i64 fx], .int .i64 0]) (by simp [results, Tryz.results45, go_sem, r0, r1, r2]) rfl ⟨by rw [hpr.out]; rfl, ?_⟩
              iterate 3 refine Below.setCell ?_ (by show w.heap.size ≤ w.heap.size; omega) _
              exact below_al F9.out.below
            · obtain ⟨z0, z1, z2, y0, y1, y2⟩ := (F9.out.box.alloc (.cells #[.bool false, .string ⟨#[]⟩, .int .i64 0] 54)).cells
              obtain ⟨r0, r1, r2, _, _, _⟩ := ((F9.out.box.alloc (.cells #[.bool false, .string ⟨#[]⟩, .int .i64 0] 54)).set (n' := false) (s' := ⟨#[]⟩) (x' := 0)).cells
              go_wp2
              refine bodyPost_ret (v := .tuple #[.agg #[.bool false, .string ⟨#[]⟩, .int .i64 0], .int .i64 2]) (by simp [results, Tryz.results45, go_sem, r0, r1, r2]) rfl ⟨by rw [hpr.out]; rfl, ?_⟩
              iterate 3 refine Below.setCell ?_ (by show w.heap.size ≤ w.heap.size; omega) _
              exact below_al F9.out.below
      | cons c r =>
        have hcn : c.toNat ≠ 46 := by
          intro q
          have : c = 46 := UInt8.toNat_inj.1 q
          subst this; cases hdot
        have hsr : 0 < (mkB (c :: r)).size := by rw [s1]; simp
        have hgr := get0_mkB c r hsr
        have hsri : (0 : Int) < ((c :: r).length : Int) := by rw [List.length_cons]; omega
        have hcn' : ((c.toNat : Int) == 46) = false := by simp; omega
        obtain ⟨R2, hR2⟩ : ∃ R2, c :: r = R2 := ⟨_, rfl⟩
        have hex : ∃ hs : 0 < (mkB (c :: r)).size, (mkB (c :: r))[0]'hs = c := ⟨hsr, hgr⟩
        clear hgr hdot hcn hsr
        rw [hR2] at hSplit s1 lr hsri hex ⊢
        clear hR2
        obtain ⟨hsr, hgr⟩ := hex
        rcases hw1 with ⟨a1, a2⟩ | a1
        all_goals
          go_wp2_with fail
          go_fit (rexp_any R2 _ (by omega))
          rintro e w8 ⟨rfl, hb8⟩
          have F8 := hide (F7.out.then hb8)
          clear hb8
          cases hok : (expV R2).2
          · obtain ⟨hsp, hev⟩ := expV_none true wh [] R2 hok
            have hpr := hide (show parseR L = (false, ⟨#[]⟩, 0, 10) by unfold parseR; rw [hSplit.out, hsp])
            rw [hev]
            obtain ⟨z0, z1, z2, y0, y1, y2⟩ := F8.out.box.cells
            obtain ⟨r0, r1, r2, _, _, _⟩ := (F8.out.box.set (n' := false) (s' := ⟨#[]⟩) (x' := 0)).cells
            go_wp2
            refine bodyPost_ret (v := .tuple #[.agg #[.bool false, .string ⟨#[]⟩, .int .i64 0], .int .i64 10]) (by simp [results, Tryz.results45, go_sem, r0, r1, r2]) rfl ⟨by rw [hpr.out]; rfl, ?_⟩
            iterate 3 refine Below.setCell ?_ (by show w.heap.size ≤ w.heap.size; omega) _
            exact F8.out.below
          · obtain ⟨pn, pw, hsp, hev, hpl⟩ := expV_some true wh [] R2 hok
            rw [hev]
            have hSp2 := hide (hSplit.out.trans hsp)
            have hpb : -1000000 ≤ powB pn pw ∧ powB pn pw ≤ 1000000 := by unfold powB; split <;> omega
            obtain ⟨v, hv⟩ : ∃ v, powB pn pw = v := ⟨_, rfl⟩
            rw [hv] at hpb ⊢
            obtain ⟨hpb1, hpb2⟩ := hpb
            by_cases hbig : 512 < L.length
            · have hpr := hide (show parseR L = (false, ⟨#[]⟩, 0, 2) by unfold parseR; rw [hSp2.out]; exact if_pos hbig)
              have hbig' : (512 : Int) < L.length := by omega
              clear hsp hev
              obtain ⟨z0, z1, z2, y0, y1, y2⟩ := F8.out.box.cells
              obtain ⟨r0, r1, r2, _, _, _⟩ := (F8.out.box.set (n' := false) (s' := ⟨#[]⟩) (x' := 0)).cells
              go_wp2
              refine bodyPost_ret (v := .tuple #[.agg #[.bool false, .string ⟨#[]⟩, .int .i64 0], .int .i64 2]) (by simp [results, Tryz.results45, go_sem, r0, r1, r2]) rfl ⟨by rw [hpr.out]; rfl, ?_⟩
              iterate 3 refine Below.setCell ?_ (by show w.heap.size ≤ w.heap.size; omega) _
              exact F8.out.below
            · have hpr := hide (show parseR L = formF true (dlu wh) v by unfold parseR; rw [hSp2.out, ← hv]; refine (if_neg hbig).trans ?_; simp [dlu])
              have hbig' : ¬ (512 : Int) < L.length := by omega
              have hcat := hide (show mkB wh ++ ⟨#[]⟩ = mkS (dlu wh) by rw [mkB_dlu wh hwd.out, ← mkS_nil, mkS_app, List.append_nil])
              have hDg := hide (dlu_dgs _ hwd.out)
              have hDl := hide (show (dlu wh).length ≤ 100000 by rw [dlu_len]; omega)
              have hcr : ∀ w, (Op.stringOp .add (mkB wh) ⟨#[]⟩).run Tryz.prog w = .ok (.string (mkS (dlu wh))) w := fun w => by rw [← hcat.out]; exact run_string_add_sum w _ _ (by rw [mkB_size]; show _ + 0 ≤ _; omega)
              obtain ⟨fb, fs, fx, fe, hfe⟩ : ∃ fb fs fx fe, formF true (dlu wh) v = (fb, fs, fx, fe) := ⟨_, _, _, _, rfl⟩
              have HF := hide hfe
              rw [hfe] at hpr
              have herr := formF_err2 _ _ _ hfe
              clear hfe hsp hev hv
              go_wp2_with fail
              go_fit (made_any true (dlu wh) v _ hDg.out hDl.out (by omega) (by omega))
              rw [HF.out]
              rintro e w9 ⟨rfl, hb9⟩
              have F9 := hide (F8.out.then hb9)
              simp only [retM]
              rcases herr with rfl | ⟨rfl, rfl, rfl, rfl⟩
              · obtain ⟨z0, z1, z2, y0, y1, y2⟩ := (F9.out.box.alloc (.cells #[.bool fb, .string fs, .int .i64 fx] 54)).cells
                obtain ⟨t0, t1, t2, _, _, _⟩ := (box_new w9 fb fs fx).cells
                obtain ⟨r0, r1, r2, _, _, _⟩ := ((F9.out.box.alloc (.cells #[.bool fb, .string fs, .int .i64 fx] 54)).set (n' := fb) (s' := fs) (x' := fx)).cells
                go_wp2
                refine bodyPost_ret (v := .tuple #[.agg #[.bool fb, .string fs, .int .i64 fx], .int .i64 0]) (by simp [results, Tryz.results45, go_sem, r0, r1, r2]) rfl ⟨by rw [hpr.out]; rfl, ?_⟩
                iterate 3 refine Below.setCell ?_ (by show w.heap.size ≤ w.heap.size; omega) _
                exact below_al F9.out.below
              · obtain ⟨z0, z1, z2, y0, y1, y2⟩ := (F9.out.box.alloc (.cells #[.bool false, .string ⟨#[]⟩, .int .i64 0] 54)).cells
                obtain ⟨r0, r1, r2, _, _, _⟩ := ((F9.out.box.alloc (.cells #[.bool false, .string ⟨#[]⟩, .int .i64 0] 54)).set (n' := false) (s' := ⟨#[]⟩) (x' := 0)).cells
                go_wp2
                refine bodyPost_ret (v := .tuple #[.agg #[.bool false, .string ⟨#[]⟩, .int .i64 0], .int .i64 2]) (by simp [results, Tryz.results45, go_sem, r0, r1, r2]) rfl ⟨by rw [hpr.out]; rfl, ?_⟩
                iterate 3 refine Below.setCell ?_ (by show w.heap.size ≤ w.heap.size; omega) _
                exact below_al F9.out.below
    · -- a point
      have hSL3 := hide (hSL2.out.trans (if_pos hdot))
      cases R1 with
      | nil => cases hdot
      | cons c Z =>
        have hc : c = 46 := by
          have := eq_of_beq hdot
          simpa using this
        subst hc
        have htl : tlB 46 (46 :: Z) = Z := rfl
        rw [htl] at hSL3
        have hsr : 0 < (mkB (46 :: Z)).size := by rw [s1, List.length_cons]; omega
        have hgr := get0_mkB 46 Z hsr
        have hextZ := mkB_ext 46 Z
        have hlz : (46 :: Z).length = Z.length + 1 := List.length_cons
        rw [hlz] at s1 lr
        obtain ⟨R1, hR1⟩ : ∃ R1, 46 :: Z = R1 := ⟨_, rfl⟩
        have hex : ∃ hs : 0 < (mkB (46 :: Z)).size, (mkB (46 :: Z))[0]'hs = 46 := ⟨hsr, hgr⟩
        clear hgr hdot hsr htl hlz hSL2 hSL
        rw [hR1] at s1 hex hextZ ⊢
        clear hR1
        obtain ⟨hsr, hgr⟩ := hex
        have hsri : (0 : Int) < (mkB R1).size := by omega
        have hsr1 : (1 : Int) ≤ (mkB R1).size := by omega
        rcases hw1 with ⟨a1, a2⟩ | a1
        all_goals
          go_wp2_with fail
          go_fit (rcut_any (mkB Z) _ (by rw [mkB_size]; omega))
          rw [bl_mkB]
          rintro e w6 ⟨rfl, hb6⟩
          have F7 := hide (F5.out.then hb6)
          clear hb6
          have lf := takeWhile_len Z
          have lg := dropWhile_len Z
          have hfd := hide (allD_tw Z)
          obtain ⟨fr, hfr⟩ : ∃ fr, Z.takeWhile isDig = fr := ⟨_, rfl⟩
          obtain ⟨R2, hR2⟩ : ∃ R2, Z.dropWhile isDig = R2 := ⟨_, rfl⟩
          rw [hfr, hR2] at hSL3
          rw [hfr] at lf hfd
          rw [hR2] at lg
          rw [hfr, hR2]
          have mf := mkB_isEmpty fr
          have sf : (mkB fr).size = fr.length := mkB_size fr
          have s2 : (mkB R2).size = R2.length := mkB_size R2
          clear hfr hR2
          cases hfe : fr.isEmpty
          · have hSplit := hide (hSL3.out.trans (if_neg (by rw [hfe]; simp)))
            rw [hfe] at mf
            clear hfe
            go_wp2_with fail
            go_fit (rexp_any R2 _ (by omega))
            rintro e w8 ⟨rfl, hb8⟩
            have F8 := hide (F7.out.then hb8)
            clear hb8
            cases hok : (expV R2).2
            · obtain ⟨hsp, hev⟩ := expV_none true wh fr R2 hok
              have hpr := hide (show parseR L = (false, ⟨#[]⟩, 0, 10) by unfold parseR; rw [hSplit.out, hsp])
              rw [hev]
              obtain ⟨z0, z1, z2, y0, y1, y2⟩ := F8.out.box.cells
              obtain ⟨r0, r1, r2, _, _, _⟩ := (F8.out.box.set (n' := false) (s' := ⟨#[]⟩) (x' := 0)).cells
              go_wp2
              refine bodyPost_ret (v := .tuple #[.agg #[.bool false, .string ⟨#[]⟩, .int .i64 0], .int .i64 10]) (by simp [results, Tryz.results45, go_sem, r0, r1, r2]) rfl ⟨by rw [hpr.out]; rfl, ?_⟩
              iterate 3 refine Below.setCell ?_ (by show w.heap.size ≤ w.heap.size; omega) _
              exact F8.out.below
            · obtain ⟨pn, pw, hsp, hev, hpl⟩ := expV_some true wh fr R2 hok
              rw [hev]
              have hSp2 := hide (hSplit.out.trans hsp)
              have hpb : -1000000 ≤ powB pn pw ∧ powB pn pw ≤ 1000000 := by unfold powB; split <;> omega
              obtain ⟨v, hv⟩ : ∃ v, powB pn pw = v := ⟨_, rfl⟩
              rw [hv] at hpb ⊢
              obtain ⟨hpb1, hpb2⟩ := hpb
              by_cases hbig : 512 < L.length
              · have hpr := hide (show parseR L = (false, ⟨#[]⟩, 0, 2) by unfold parseR; rw [hSp2.out]; exact if_pos hbig)
                have hbig' : (512 : Int) < L.length := by omega
                clear hsp hev
                obtain ⟨z0, z1, z2, y0, y1, y2⟩ := F8.out.box.cells
                obtain ⟨r0, r1, r2, _, _, _⟩ := (F8.out.box.set (n' := false) (s' := ⟨#[]⟩) (x' := 0)).cells
                go_wp2
                refine bodyPost_ret (v := .tuple #[.agg #[.bool false, .string ⟨#[]⟩, .int .i64 0], .int .i64 2]) (by simp [results, Tryz.results45, go_sem, r0, r1, r2]) rfl ⟨by rw [hpr.out]; rfl, ?_⟩
                iterate 3 refine Below.setCell ?_ (by show w.heap.size ≤ w.heap.size; omega) _
                exact F8.out.below
              · have hpr := hide (show parseR L = formF true (dlu wh ++ dlu fr) (v - (fr).length) by unfold parseR; rw [hSp2.out, ← hv]; exact if_neg hbig)
                have hbig' : ¬ (512 : Int) < L.length := by omega
                have hcat := hide (show mkB wh ++ mkB fr = mkS (dlu wh ++ dlu fr) by rw [mkB_dlu wh hwd.out, mkB_dlu fr hfd.out, mkS_app])
                have hDg := hide (show Dgs (dlu wh ++ dlu fr) from fun x hx => by
                  rcases List.mem_append.1 hx with q | q
                  · exact dlu_dgs _ hwd.out x q
                  · exact dlu_dgs _ hfd.out x q)
                have hDl := hide (show (dlu wh ++ dlu fr).length ≤ 100000 by rw [List.length_append, dlu_len, dlu_len]; omega)
                have hcr : ∀ w, (Op.stringOp .add (mkB wh) (mkB fr)).run Tryz.prog w = .ok (.string (mkS (dlu wh ++ dlu fr))) w := fun w => by rw [← hcat.out]; exact run_string_add_sum w _ _ (by rw [mkB_size, mkB_size]; omega)
                obtain ⟨fb, fs, fx, fe, hfe⟩ : ∃ fb fs fx fe, formF true (dlu wh ++ dlu fr) (v - (fr).length) = (fb, fs, fx, fe) := ⟨_, _, _, _, rfl⟩
                have HF := hide hfe
                rw [hfe] at hpr
                have herr := formF_err2 _ _ _ hfe
                clear hfe hsp hev hv
                go_wp2_with fail
                go_fit (made_any true (dlu wh ++ dlu fr) (v - (fr).length) _ hDg.out hDl.out (by omega) (by omega))
                rw [HF.out]
                rintro e w9 ⟨rfl, hb9⟩
                have F9 := hide (F8.out.then hb9)
                simp only [retM]
                rcases herr with rfl | ⟨rfl, rfl, rfl, rfl⟩
                · obtain ⟨z0, z1, z2, y0, y1, y2⟩ := (F9.out.box.alloc (.cells #[.bool fb, .string fs, .int .i64 fx] 54)).cells
                  obtain ⟨t0, t1, t2, _, _, _⟩ := (box_new w9 fb fs fx).cells
                  obtain ⟨r0, r1, r2, _, _, _⟩ := ((F9.out.box.alloc (.cells #[.bool fb, .string fs, .int .i64 fx] 54)).set (n' := fb) (s' := fs) (x' := fx)).cells
                  go_wp2
                  refine bodyPost_ret (v := .tuple #[.agg #[.bool fb, .string fs, .int .i64 fx], .int .i64 0]) (by simp [results, Tryz.results45, go_sem, r0, r1, r2]) rfl ⟨by rw [hpr.out]; rfl, ?_⟩
                  iterate 3 refine Below.setCell ?_ (by show w.heap.size ≤ w.heap.size; omega) _
                  exact below_al F9.out.below
                · obtain ⟨z0, z1, z2, y0, y1, y2⟩ := (F9.out.box.alloc (.cells #[.bool false, .string ⟨#[]⟩, .int .i64 0] 54)).cells
                  obtain ⟨r0, r1, r2, _, _, _⟩ := ((F9.out.box.alloc (.cells #[.bool false, .string ⟨#[]⟩, .int .i64 0] 54)).set (n' := false) (s' := ⟨#[]⟩) (x' := 0)).cells
                  go_wp2
                  refine bodyPost_ret (v := .tuple #[.agg #[.bool false, .string ⟨#[]⟩, .int .i64 0], .int .i64 2]) (by simp [results, Tryz.results45, go_sem, r0, r1, r2]) rfl ⟨by rw [hpr.out]; rfl, ?_⟩
                  iterate 3 refine Below.setCell ?_ (by show w.heap.size ≤ w.heap.size; omega) _
                  exact below_al F9.out.below
          · have hpr := hide (show parseR L = (false, ⟨#[]⟩, 0, 10) by unfold parseR; rw [hSL3.out.trans (if_pos hfe)])
            rw [hfe] at mf
            clear hfe
            obtain ⟨z0, z1, z2, y0, y1, y2⟩ := F7.out.box.cells
            obtain ⟨r0, r1, r2, _, _, _⟩ := (F7.out.box.set (n' := false) (s' := ⟨#[]⟩) (x' := 0)).cells
            go_wp2
            refine bodyPost_ret (v := .tuple #[.agg #[.bool false, .string ⟨#[]⟩, .int .i64 0], .int .i64 10]) (by simp [results, Tryz.results45, go_sem, r0, r1, r2]) rfl ⟨by rw [hpr.out]; rfl, ?_⟩
            iterate 3 refine Below.setCell ?_ (by show w.heap.size ≤ w.heap.size; omega) _
            exact F7.out.below
  · have hpr := hide (show parseR L = (false, ⟨#[]⟩, 0, 10) by unfold parseR; rw [hSL.out.trans (if_pos hbad)])
    cases hne : wh.isEmpty
    · rw [hne] at me
      have hw0 : 0 < wh.length := by
        cases wh with
        | nil => cases hne
        | cons => simp
      have hb2 : 1 < wh.length ∧ wh.head? = some 48 := by
        unfold badW at hbad
        rw [hne] at hbad
        simpa using hbad
      have hq0 : ((mkB wh)[0]'(by omega)) = 48 := by
        cases wh with
        | nil => cases hne
        | cons c r =>
          have := get0_mkB c r (by omega)
          rw [this]
          have := hb2.2
          simpa using this
      have hw0i : (0 : Int) < (mkB wh).size := by omega
      have hw1i : (1 : Int) < (wh.length : Int) := by omega
      clear hbad
      obtain ⟨z0, z1, z2, y0, y1, y2⟩ := F5.out.box.cells
      obtain ⟨r0, r1, r2, _, _, _⟩ := (F5.out.box.set (n' := false) (s' := ⟨#[]⟩) (x' := 0)).cells
      go_wp2
      refine bodyPost_ret (v := .tuple #[.agg #[.bool false, .string ⟨#[]⟩, .int .i64 0], .int .i64 10]) (by simp [results, Tryz.results45, go_sem, r0, r1, r2]) rfl ⟨by rw [hpr.out]; rfl, ?_⟩
      iterate 3 refine Below.setCell ?_ (by show w.heap.size ≤ w.heap.size; omega) _
      exact F5.out.below
    · rw [hne] at me
      clear hbad hne
      obtain ⟨z0, z1, z2, y0, y1, y2⟩ := F5.out.box.cells
      obtain ⟨r0, r1, r2, _, _, _⟩ := (F5.out.box.set (n' := false) (s' := ⟨#[]⟩) (x' := 0)).cells
      go_wp2
      refine bodyPost_ret (v := .tuple #[.agg #[.bool false, .string ⟨#[]⟩, .int .i64 0], .int .i64 10]) (by simp [results, Tryz.results45, go_sem, r0, r1, r2]) rfl ⟨by rw [hpr.out]; rfl, ?_⟩
      iterate 3 refine Below.setCell ?_ (by show w.heap.size ≤ w.heap.size; omega) _
      exact F5.out.below
end Go.Proofs.YtjidnceccpmheaaGreatDoor
/- calamusref01's Parse: walked, texts with no sign. -/
namespace Go.Proofs.YtjidnceccpmheaaGreatDoor
open Go.RowKit
set_option linter.unusedSimpArgs false
set_option linter.unusedVariables false
set_option maxRecDepth 100000 in
set_option maxHeartbeats 4000000 in
theorem rparse_nil (w : World) :
    Calls Tryz.prog 45 #[.string (mkB [])] w fun e w' => e = retF (parseR []) ∧ Below w.heap.size w w' := by
  have he : mkB [] = ⟨#[]⟩ := rfl
  rw [he]
  have F0 := hide (fin_new w)
  have hpr := hide (show parseR [] = (false, ⟨#[]⟩, 0, 10) from rfl)
  go_enter Tryz.func45, Tryz.ntmps45
  go_wp2_with fail
  go_fit (rcut_any ⟨#[]⟩ _ (by show 0 ≤ _; omega))
  rintro e w5 ⟨rfl, hb5⟩
  have F5 := hide (F0.out.then hb5)
  clear hb5
  rw [show mkB ((bl ⟨#[]⟩).takeWhile isDig) = ⟨#[]⟩ from rfl, show mkB ((bl ⟨#[]⟩).dropWhile isDig) = ⟨#[]⟩ from rfl]
  obtain ⟨z0, z1, z2, y0, y1, y2⟩ := F5.out.box.cells
  obtain ⟨r0, r1, r2, _, _, _⟩ := (F5.out.box.set (n' := false) (s' := ⟨#[]⟩) (x' := 0)).cells
  go_wp2
  refine bodyPost_ret (v := .tuple #[.agg #[.bool false, .string ⟨#[]⟩, .int .i64 0], .int .i64 10]) (by simp [results, Tryz.results45, go_sem, r0, r1, r2]) rfl ⟨by rw [hpr.out]; rfl, ?_⟩
  iterate 3 refine Below.setCell ?_ (by show w.heap.size ≤ w.heap.size; omega) _
  exact F5.out.below
set_option maxRecDepth 100000 in
set_option maxHeartbeats 4000000 in
theorem rparse_cons (b : UInt8) (r : List UInt8) (w : World) (hl : (b :: r).length ≤ 80000) (hb : hdB 45 (b :: r) = false) :
    Calls Tryz.prog 45 #[.string (mkB (b :: r))] w fun e w' => e = retF (parseR (b :: r)) ∧ Below w.heap.size w w' := by
  have hsz : (mkB (b :: r)).size = (b :: r).length := mkB_size _
  have hbn : ((b.toNat : Int) == 45) = false := by
    cases hq : ((b.toNat : Int) == 45)
    · rfl
    · have q : b.toNat = 45 := by have := eq_of_beq hq; omega
      have : b = 45 := UInt8.toNat_inj.1 q
      subst this; cases hb
  have hpos : 0 < (b :: r).length := by rw [List.length_cons]; omega
  have htl : tlB 45 (b :: r) = b :: r := by unfold tlB; rw [hb]; rfl
  have hex : ∃ hs : 0 < (mkB (b :: r)).size, (mkB (b :: r))[0]'hs = b := ⟨by omega, get0_mkB b r _⟩
  obtain ⟨L, hL⟩ : ∃ L, b :: r = L := ⟨_, rfl⟩
  rw [hL] at hsz hb hpos htl hex hl ⊢
  clear hL
  obtain ⟨hs0, hg'⟩ := hex
  have hSL : Hid (splitL L = if badW (L.takeWhile isDig) then none
      else if hdB 46 (L.dropWhile isDig) then (if ((tlB 46 (L.dropWhile isDig)).takeWhile isDig).isEmpty then none else splitT false (L.takeWhile isDig) ((tlB 46 (L.dropWhile isDig)).takeWhile isDig) ((tlB 46 (L.dropWhile isDig)).dropWhile isDig))
      else splitT false (L.takeWhile isDig) [] (L.dropWhile isDig)) := by
    unfold Hid splitL
    rw [htl, hb]
  have h0 : (0 : Int) < (mkB L).size := by omega
  have h0' : (0 : Int) < L.length := by omega
  have F0 := hide (fin_new w)
  clear hb htl
  go_enter Tryz.func45, Tryz.ntmps45
  go_wp2_with fail
  go_fit (rcut_any (mkB L) _ (by rw [mkB_size]; omega))
  rw [bl_mkB]
  rintro e w5 ⟨rfl, hb5⟩
  have F5 := hide (F0.out.then hb5)
  clear hb5
  have lw := takeWhile_len L
  have lr := dropWhile_len L
  have hwd := hide (allD_tw L)
  obtain ⟨wh, hwh⟩ : ∃ wh, L.takeWhile isDig = wh := ⟨_, rfl⟩
  obtain ⟨R1, hR1⟩ : ∃ R1, L.dropWhile isDig = R1 := ⟨_, rfl⟩
  rw [hwh, hR1] at hSL
  rw [hwh] at lw hwd
  rw [hR1] at lr
  rw [hwh, hR1]
  have me := mkB_isEmpty wh
  have sw : (mkB wh).size = wh.length := mkB_size wh
  have s1 : (mkB R1).size = R1.length := mkB_size R1
  clear hwh hR1
  cases hbad : badW wh
  · -- the whole part is as it should be
    have hSL2 := hide (hSL.out.trans (if_neg (by rw [hbad]; simp)))
    have hne : wh.isEmpty = false := by
      cases hq : wh.isEmpty
      · rfl
      · unfold badW at hbad; rw [hq] at hbad; simp at hbad
    rw [hne] at me
    have hw0 : 0 < wh.length := by
      cases wh with
      | nil => cases hne
      | cons => simp
    have hlead : ¬ (1 < wh.length ∧ ((mkB wh)[0]'(by omega)).toNat = 48) := by
      rintro ⟨q1, q2⟩
      have hh : wh.head? = some 48 := by
        cases wh with
        | nil => cases hne
        | cons c r =>
          have := get0_mkB c r (by omega)
          rw [this] at q2
          have : c = 48 := UInt8.toNat_inj.1 q2
          rw [this]; rfl
      unfold badW at hbad
      rw [hh] at hbad
      simp [q1] at hbad
    have hw0i : (0 : Int) < (mkB wh).size := by omega
    obtain ⟨q0, hq0⟩ : ∃ q0 : Nat, ((mkB wh)[0]'(by omega)).toNat = q0 := ⟨_, rfl⟩
    rw [hq0] at hlead
    have hw1 : ((1 : Int) < (wh.length : Int) ∧ ((q0 : Int) == 48) = false) ∨ ¬ (1 : Int) < (wh.length : Int) := by
      by_cases q : 1 < wh.length
      · left
        refine ⟨by omega, ?_⟩
        have : q0 ≠ 48 := fun e => hlead ⟨q, e⟩
        simp; omega
      · right; omega
    clear hbad hlead
    cases hdot : hdB 46 R1
    · -- no point
      have hSplit := hide (hSL2.out.trans (if_neg (by rw [hdot]; simp)))
      obtain ⟨R2, hR2⟩ : ∃ R2, R1 = R2 := ⟨_, rfl⟩
      rw [hR2] at hSplit hdot s1 lr ⊢
      clear hR2
      have F7 := F5
      cases R2 with
      | nil =>
        have he : mkB [] = ⟨#[]⟩ := rfl
        rw [he]
        rcases hw1 with ⟨a1, a2⟩ | a1
        all_goals
          go_wp2_with fail
          go_fit (rexp_nil _)
          rintro e w8 ⟨rfl, hb8⟩
          have F8 := hide (F7.out.then hb8)
          clear hb8
          have hSp2 := hide (hSplit.out.trans (show splitT false wh [] [] = some (false, wh, [], false, []) from rfl))
          obtain ⟨v, hv⟩ : ∃ v : Int, powB false [] = v := ⟨_, rfl⟩
          have hv0 : (0 : Int) = v := hv
          rw [hv0]
          have hpb1 : -1000000 ≤ v := by omega
          have hpb2 : v ≤ 1000000 := by omega
          clear hv0
          by_cases hbig : 512 < L.length
          · have hpr := hide (show parseR L = (false, ⟨#[]⟩, 0, 2) by unfold parseR; rw [hSp2.out]; exact if_pos hbig)
            have hbig' : (512 : Int) < L.length := by omega
            skip
            obtain ⟨z0, z1, z2, y0, y1, y2⟩ := F8.out.box.cells
            obtain ⟨r0, r1, r2, _, _, _⟩ := (F8.out.box.set (n' := false) (s' := ⟨#[]⟩) (x' := 0)).cells
            go_wp2
            refine bodyPost_ret (v := .tuple #[.agg #[.bool false, .string ⟨#[]⟩, .int .i64 0], .int .i64 2]) (by simp [results, Tryz.results45, go_sem, r0, r1, r2]) rfl ⟨by rw [hpr.out]; rfl, ?_⟩
            iterate 3 refine Below.setCell ?_ (by show w.heap.size ≤ w.heap.size; omega) _
            exact F8.out.below
          · have hpr := hide (show parseR L = formF false (dlu wh) v by unfold parseR; rw [hSp2.out, ← hv]; refine (if_neg hbig).trans ?_; simp [dlu])
            have hbig' : ¬ (512 : Int) < L.length := by omega
            have hcat := hide (show mkB wh ++ ⟨#[]⟩ = mkS (dlu wh) by rw [mkB_dlu wh hwd.out, ← mkS_nil, mkS_app, List.append_nil])
            have hDg := hide (dlu_dgs _ hwd.out)
            have hDl := hide (show (dlu wh).length ≤ 100000 by rw [dlu_len]; omega)
            have hcr : ∀ w, (Op.stringOp .add (mkB wh) ⟨#[]⟩).run Tryz.prog w = .ok (.string (mkS (dlu wh))) w := fun w => by rw [← hcat.out]; exact run_string_add_sum w _ _ (by rw [mkB_size]; show _ + 0 ≤ _; omega)
            obtain ⟨fb, fs, fx, fe, hfe⟩ : ∃ fb fs fx fe, formF false (dlu wh) v = (fb, fs, fx, fe) := ⟨_, _, _, _, rfl⟩
            have HF := hide hfe
            rw [hfe] at hpr
            have herr := formF_err2 _ _ _ hfe
            clear hfe
            go_wp2_with fail
            go_fit (made_any false (dlu wh) v _ hDg.out hDl.out (by omega) (by omega))
            rw [HF.out]
            rintro e w9 ⟨rfl, hb9⟩
            have F9 := hide (F8.out.then hb9)
            simp only [retM]
            rcases herr with rfl | ⟨rfl, rfl, rfl, rfl⟩
            · obtain ⟨z0, z1, z2, y0, y1, y2⟩ := (F9.out.box.alloc (.cells #[.bool fb, .string fs, .int .i64 fx] 54)).cells
              obtain ⟨t0, t1, t2, _, _, _⟩ := (box_new w9 fb fs fx).cells
              obtain ⟨r0, r1, r2, _, _, _⟩ := ((F9.out.box.alloc (.cells #[.bool fb, .string fs, .int .i64 fx] 54)).set (n' := fb) (s' := fs) (x' := fx)).cells
              go_wp2
              refine bodyPost_ret (v := .tuple #[.agg #[.bool fb, .string fs, .int .i64 fx], .int .i64 0]) (by simp [results, Tryz.results45, go_sem, r0, r1, r2]) rfl ⟨by rw [hpr.out]; rfl, ?_⟩
              iterate 3 refine Below.setCell ?_ (by show w.heap.size ≤ w.heap.size; omega) _
              exact below_al F9.out.below
            · obtain ⟨z0, z1, z2, y0, y1, y2⟩ := (F9.out.box.alloc (.cells #[.bool false, .string ⟨#[]⟩, .int .i64 0] 54)).cells
              obtain ⟨r0, r1, r2, _, _, _⟩ := ((F9.out.box.alloc (.cells #[.bool false, .string ⟨#[]⟩, .int .i64 0] 54)).set (n' := false) (s' := ⟨#[]⟩) (x' := 0)).cells
              go_wp2
              refine bodyPost_ret (v := .tuple #[.agg #[.bool false, .string ⟨#[]⟩, .int .i64 0], .int .i64 2]) (by simp [results, Tryz.results45, go_sem, r0, r1, r2]) rfl ⟨by rw [hpr.out]; rfl, ?_⟩
              iterate 3 refine Below.setCell ?_ (by show w.heap.size ≤ w.heap.size; omega) _
              exact below_al F9.out.below
      | cons c r =>
        have hcn : c.toNat ≠ 46 := by
          intro q
          have : c = 46 := UInt8.toNat_inj.1 q
          subst this; cases hdot
        have hsr : 0 < (mkB (c :: r)).size := by rw [s1]; simp
        have hgr := get0_mkB c r hsr
        have hsri : (0 : Int) < ((c :: r).length : Int) := by rw [List.length_cons]; omega
        have hcn' : ((c.toNat : Int) == 46) = false := by simp; omega
        obtain ⟨R2, hR2⟩ : ∃ R2, c :: r = R2 := ⟨_, rfl⟩
        have hex : ∃ hs : 0 < (mkB (c :: r)).size, (mkB (c :: r))[0]'hs = c := ⟨hsr, hgr⟩
        clear hgr hdot hcn hsr
        rw [hR2] at hSplit s1 lr hsri hex ⊢
        clear hR2
        obtain ⟨hsr, hgr⟩ := hex
        rcases hw1 with ⟨a1, a2⟩ | a1
        all_goals
          go_wp2_with fail
          go_fit (rexp_any R2 _ (by omega))
          rintro e w8 ⟨rfl, hb8⟩
          have F8 := hide (F7.out.then hb8)
          clear hb8
          cases hok : (expV R2).2
          · obtain ⟨hsp, hev⟩ := expV_none false wh [] R2 hok
            have hpr := hide (show parseR L = (false, ⟨#[]⟩, 0, 10) by unfold parseR; rw [hSplit.out, hsp])
            rw [hev]
            obtain ⟨z0, z1, z2, y0, y1, y2⟩ := F8.out.box.cells
            obtain ⟨r0, r1, r2, _, _, _⟩ := (F8.out.box.set (n' := false) (s' := ⟨#[]⟩) (x' := 0)).cells
            go_wp2
            refine bodyPost_ret (v := .tuple #[.agg #[.bool false, .string ⟨#[]⟩, .int .i64 0], .int .i64 10]) (by simp [results, Tryz.results45, go_sem, r0, r1, r2]) rfl ⟨by rw [hpr.out]; rfl, ?_⟩
            iterate 3 refine Below.setCell ?_ (by show w.heap.size ≤ w.heap.size; omega) _
            exact F8.out.below
          · obtain ⟨pn, pw, hsp, hev, hpl⟩ := expV_some false wh [] R2 hok
            rw [hev]
            have hSp2 := hide (hSplit.out.trans hsp)
            have hpb : -1000000 ≤ powB pn pw ∧ powB pn pw ≤ 1000000 := by unfold powB; split <;> omega
            obtain ⟨v, hv⟩ : ∃ v, powB pn pw = v := ⟨_, rfl⟩
            rw [hv] at hpb ⊢
            obtain ⟨hpb1, hpb2⟩ := hpb
            by_cases hbig : 512 < L.length
            · have hpr := hide (show parseR L = (false, ⟨#[]⟩, 0, 2) by unfold parseR; rw [hSp2.out]; exact if_pos hbig)
              have hbig' : (512 : Int) < L.length := by omega
              clear hsp hev
              obtain ⟨z0, z1, z2, y0, y1, y2⟩ := F8.out.box.cells
              obtain ⟨r0, r1, r2, _, _, _⟩ := (F8.out.box.set (n' := false) (s' := ⟨#[]⟩) (x' := 0)).cells
              go_wp2
              refine bodyPost_ret (v := .tuple #[.agg #[.bool false, .string ⟨#[]⟩, .int .i64 0], .int .i64 2]) (by simp [results, Tryz.results45, go_sem, r0, r1, r2]) rfl ⟨by rw [hpr.out]; rfl, ?_⟩
              iterate 3 refine Below.setCell ?_ (by show w.heap.size ≤ w.heap.size; omega) _
              exact F8.out.below
            · have hpr := hide (show parseR L = formF false (dlu wh) v by unfold parseR; rw [hSp2.out, ← hv]; refine (if_neg hbig).trans ?_; simp [dlu])
              have hbig' : ¬ (512 : Int) < L.length := by omega
              have hcat := hide (show mkB wh ++ ⟨#[]⟩ = mkS (dlu wh) by rw [mkB_dlu wh hwd.out, ← mkS_nil, mkS_app, List.append_nil])
              have hDg := hide (dlu_dgs _ hwd.out)
              have hDl := hide (show (dlu wh).length ≤ 100000 by rw [dlu_len]; omega)
              have hcr : ∀ w, (Op.stringOp .add (mkB wh) ⟨#[]⟩).run Tryz.prog w = .ok (.string (mkS (dlu wh))) w := fun w => by rw [← hcat.out]; exact run_string_add_sum w _ _ (by rw [mkB_size]; show _ + 0 ≤ _; omega)
              obtain ⟨fb, fs, fx, fe, hfe⟩ : ∃ fb fs fx fe, formF false (dlu wh) v = (fb, fs, fx, fe) := ⟨_, _, _, _, rfl⟩
              have HF := hide hfe
              rw [hfe] at hpr
              have herr := formF_err2 _ _ _ hfe
              clear hfe hsp hev hv
              go_wp2_with fail
              go_fit (made_any false (dlu wh) v _ hDg.out hDl.out (by omega) (by omega))
              rw [HF.out]
              rintro e w9 ⟨rfl, hb9⟩
              have F9 := hide (F8.out.then hb9)
              simp only [retM]
              rcases herr with rfl | ⟨rfl, rfl, rfl, rfl⟩
              · obtain ⟨z0, z1, z2, y0, y1, y2⟩ := (F9.out.box.alloc (.cells #[.bool fb, .string fs, .int .i64 fx] 54)).cells
                obtain ⟨t0, t1, t2, _, _, _⟩ := (box_new w9 fb fs fx).cells
                obtain ⟨r0, r1, r2, _, _, _⟩ := ((F9.out.box.alloc (.cells #[.bool fb, .string fs, .int .i64 fx] 54)).set (n' := fb) (s' := fs) (x' := fx)).cells
                go_wp2
                refine bodyPost_ret (v := .tuple #[.agg #[.bool fb, .string fs, .int .i64 fx], .int .i64 0]) (by simp [results, Tryz.results45, go_sem, r0, r1, r2]) rfl ⟨by rw [hpr.out]; rfl, ?_⟩
                iterate 3 refine Below.setCell ?_ (by show w.heap.size ≤ w.heap.size; omega) _
                exact below_al F9.out.below
              · obtain ⟨z0, z1, z2, y0, y1, y2⟩ := (F9.out.box.alloc (.cells #[.bool false, .string ⟨#[]⟩, .int .i64 0] 54)).cells
                obtain ⟨r0, r1, r2, _, _, _⟩ := ((F9.out.box.alloc (.cells #[.bool false, .string ⟨#[]⟩, .int .i64 0] 54)).set (n' := false) (s' := ⟨#[]⟩) (x' := 0)).cells
                go_wp2
                refine bodyPost_ret (v := .tuple #[.agg #[.bool false, .string ⟨#[]⟩, .int .i64 0], .int .i64 2]) (by simp [results, Tryz.results45, go_sem, r0, r1, r2]) rfl ⟨by rw [hpr.out]; rfl, ?_⟩
                iterate 3 refine Below.setCell ?_ (by show w.heap.size ≤ w.heap.size; omega) _
                exact below_al F9.out.below
    · -- a point
      have hSL3 := hide (hSL2.out.trans (if_pos hdot))
      cases R1 with
      | nil => cases hdot
      | cons c Z =>
        have hc : c = 46 := by
          have := eq_of_beq hdot
          simpa using this
        subst hc
        have htl : tlB 46 (46 :: Z) = Z := rfl
        rw [htl] at hSL3
        have hsr : 0 < (mkB (46 :: Z)).size := by rw [s1, List.length_cons]; omega
        have hgr := get0_mkB 46 Z hsr
        have hextZ := mkB_ext 46 Z
        have hlz : (46 :: Z).length = Z.length + 1 := List.length_cons
        rw [hlz] at s1 lr
        obtain ⟨R1, hR1⟩ : ∃ R1, 46 :: Z = R1 := ⟨_, rfl⟩
        have hex : ∃ hs : 0 < (mkB (46 :: Z)).size, (mkB (46 :: Z))[0]'hs = 46 := ⟨hsr, hgr⟩
        clear hgr hdot hsr htl hlz hSL2 hSL
        rw [hR1] at s1 hex hextZ ⊢
        clear hR1
        obtain ⟨hsr, hgr⟩ := hex
        have hsri : (0 : Int) < (mkB R1).size := by omega
        have hsr1 : (1 : Int) ≤ (mkB R1).size := by omega
        rcases hw1 with ⟨a1, a2⟩ | a1
        all_goals
          go_wp2_with fail
          go_fit (rcut_any (mkB Z) _ (by rw [mkB_size]; omega))
          rw [bl_mkB]
          rintro e w6 ⟨rfl, hb6⟩
          have F7 := hide (F5.out.then hb6)
          clear hb6
          have lf := takeWhile_len Z
          have lg := dropWhile_len Z
          have hfd := hide (allD_tw Z)
          obtain ⟨fr, hfr⟩ : ∃ fr, Z.takeWhile isDig = fr := ⟨_, rfl⟩
          obtain ⟨R2, hR2⟩ : ∃ R2, Z.dropWhile isDig = R2 := ⟨_, rfl⟩
          rw [hfr, hR2] at hSL3
          rw [hfr] at lf hfd
          rw [hR2] at lg
          rw [hfr, hR2]
          have mf := mkB_isEmpty fr
          have sf : (mkB fr).size = fr.length := mkB_size fr
          have s2 : (mkB R2).size = R2.length := mkB_size R2
          clear hfr hR2
          cases hfe : fr.isEmpty
          · have hSplit := hide (hSL3.out.trans (if_neg (by rw [hfe]; simp)))
            rw [hfe] at mf
            clear hfe
            go_wp2_with fail
            go_fit (rexp_any R2 _ (by omega))
            rintro e w8 ⟨rfl, hb8⟩
            have F8 := hide (F7.out.then hb8)
            clear hb8
            cases hok : (expV R2).2
            · obtain ⟨hsp, hev⟩ := expV_none false wh fr R2 hok
              have hpr := hide (show parseR L = (false, ⟨#[]⟩, 0, 10) by unfold parseR; rw [hSplit.out, hsp])
              rw [hev]
              obtain ⟨z0, z1, z2, y0, y1, y2⟩ := F8.out.box.cells
              obtain ⟨r0, r1, r2, _, _, _⟩ := (F8.out.box.set (n' := false) (s' := ⟨#[]⟩) (x' := 0)).cells
              go_wp2
              refine bodyPost_ret (v := .tuple #[.agg #[.bool false, .string ⟨#[]⟩, .int .i64 0], .int .i64 10]) (by simp [results, Tryz.results45, go_sem, r0, r1, r2]) rfl ⟨by rw [hpr.out]; rfl, ?_⟩
              iterate 3 refine Below.setCell ?_ (by show w.heap.size ≤ w.heap.size; omega) _
              exact F8.out.below
            · obtain ⟨pn, pw, hsp, hev, hpl⟩ := expV_some false wh fr R2 hok
              rw [hev]
              have hSp2 := hide (hSplit.out.trans hsp)
              have hpb : -1000000 ≤ powB pn pw ∧ powB pn pw ≤ 1000000 := by unfold powB; split <;> omega
              obtain ⟨v, hv⟩ : ∃ v, powB pn pw = v := ⟨_, rfl⟩
              rw [hv] at hpb ⊢
              obtain ⟨hpb1, hpb2⟩ := hpb
              by_cases hbig : 512 < L.length
              · have hpr := hide (show parseR L = (false, ⟨#[]⟩, 0, 2) by unfold parseR; rw [hSp2.out]; exact if_pos hbig)
                have hbig' : (512 : Int) < L.length := by omega
                clear hsp hev
                obtain ⟨z0, z1, z2, y0, y1, y2⟩ := F8.out.box.cells
                obtain ⟨r0, r1, r2, _, _, _⟩ := (F8.out.box.set (n' := false) (s' := ⟨#[]⟩) (x' := 0)).cells
                go_wp2
                refine bodyPost_ret (v := .tuple #[.agg #[.bool false, .string ⟨#[]⟩, .int .i64 0], .int .i64 2]) (by simp [results, Tryz.results45, go_sem, r0, r1, r2]) rfl ⟨by rw [hpr.out]; rfl, ?_⟩
                iterate 3 refine Below.setCell ?_ (by show w.heap.size ≤ w.heap.size; omega) _
                exact F8.out.below
              · have hpr := hide (show parseR L = formF false (dlu wh ++ dlu fr) (v - (fr).length) by unfold parseR; rw [hSp2.out, ← hv]; exact if_neg hbig)
                have hbig' : ¬ (512 : Int) < L.length := by omega
                have hcat := hide (show mkB wh ++ mkB fr = mkS (dlu wh ++ dlu fr) by rw [mkB_dlu wh hwd.out, mkB_dlu fr hfd.out, mkS_app])
                have hDg := hide (show Dgs (dlu wh ++ dlu fr) from fun x hx => by
                  rcases List.mem_append.1 hx with q | q
                  · exact dlu_dgs _ hwd.out x q
                  · exact dlu_dgs _ hfd.out x q)
                have hDl := hide (show (dlu wh ++ dlu fr).length ≤ 100000 by rw [List.length_append, dlu_len, dlu_len]; omega)
                have hcr : ∀ w, (Op.stringOp .add (mkB wh) (mkB fr)).run Tryz.prog w = .ok (.string (mkS (dlu wh ++ dlu fr))) w := fun w => by rw [← hcat.out]; exact run_string_add_sum w _ _ (by rw [mkB_size, mkB_size]; omega)
                obtain ⟨fb, fs, fx, fe, hfe⟩ : ∃ fb fs fx fe, formF false (dlu wh ++ dlu fr) (v - (fr).length) = (fb, fs, fx, fe) := ⟨_, _, _, _, rfl⟩
                have HF := hide hfe
                rw [hfe] at hpr
                have herr := formF_err2 _ _ _ hfe
                clear hfe hsp hev hv
                go_wp2_with fail
                go_fit (made_any false (dlu wh ++ dlu fr) (v - (fr).length) _ hDg.out hDl.out (by omega) (by omega))
                rw [HF.out]
                rintro e w9 ⟨rfl, hb9⟩
                have F9 := hide (F8.out.then hb9)
                simp only [retM]
                rcases herr with rfl | ⟨rfl, rfl, rfl, rfl⟩
                · obtain ⟨z0, z1, z2, y0, y1, y2⟩ := (F9.out.box.alloc (.cells #[.bool fb, .string fs, .int .i64 fx] 54)).cells
                  obtain ⟨t0, t1, t2, _, _, _⟩ := (box_new w9 fb fs fx).cells
                  obtain ⟨r0, r1, r2, _, _, _⟩ := ((F9.out.box.alloc (.cells #[.bool fb, .string fs, .int .i64 fx] 54)).set (n' := fb) (s' := fs) (x' := fx)).cells
                  go_wp2
                  refine bodyPost_ret (v := .tuple #[.agg #[.bool fb, .string fs, .int .i64 fx], .int .i64 0]) (by simp [results, Tryz.results45, go_sem, r0, r1, r2]) rfl ⟨by rw [hpr.out]; rfl, ?_⟩
                  iterate 3 refine Below.setCell ?_ (by show w.heap.size ≤ w.heap.size; omega) _
                  exact below_al F9.out.below
                · obtain ⟨z0, z1, z2, y0, y1, y2⟩ := (F9.out.box.alloc (.cells #[.bool false, .string ⟨#[]⟩, .int .i64 0] 54)).cells
                  obtain ⟨r0, r1, r2, _, _, _⟩ := ((F9.out.box.alloc (.cells #[.bool false, .string ⟨#[]⟩, .int .i64 0] 54)).set (n' := false) (s' := ⟨#[]⟩) (x' := 0)).cells
                  go_wp2
                  refine bodyPost_ret (v := .tuple #[.agg #[.bool false, .string ⟨#[]⟩, .int .i64 0], .int .i64 2]) (by simp [results, Tryz.results45, go_sem, r0, r1, r2]) rfl ⟨by rw [hpr.out]; rfl, ?_⟩
                  iterate 3 refine Below.setCell ?_ (by show w.heap.size ≤ w.heap.size; omega) _
                  exact below_al F9.out.below
          · have hpr := hide (show parseR L = (false, ⟨#[]⟩, 0, 10) by unfold parseR; rw [hSL3.out.trans (if_pos hfe)])
            rw [hfe] at mf
            clear hfe
            obtain ⟨z0, z1, z2, y0, y1, y2⟩ := F7.out.box.cells
            obtain ⟨r0, r1, r2, _, _, _⟩ := (F7.out.box.set (n' := false) (s' := ⟨#[]⟩) (x' := 0)).cells
            go_wp2
            refine bodyPost_ret (v := .tuple #[.agg #[.bool false, .string ⟨#[]⟩, .int .i64 0], .int .i64 10]) (by simp [results, Tryz.results45, go_sem, r0, r1, r2]) rfl ⟨by rw [hpr.out]; rfl, ?_⟩
            iterate 3 refine Below.setCell ?_ (by show w.heap.size ≤ w.heap.size; omega) _
            exact F7.out.below
  · have hpr := hide (show parseR L = (false, ⟨#[]⟩, 0, 10) by unfold parseR; rw [hSL.out.trans (if_pos hbad)])
    cases hne : wh.isEmpty
    · rw [hne] at me
      have hw0 : 0 < wh.length := by
        cases wh with
        | nil => cases hne
        | cons => simp
      have hb2 : 1 < wh.length ∧ wh.head? = some 48 := by
        unfold badW at hbad
        rw [hne] at hbad
        simpa using hbad
      have hq0 : ((mkB wh)[0]'(by omega)) = 48 := by
        cases wh with
        | nil => cases hne
        | cons c r =>
          have := get0_mkB c r (by omega)
          rw [this]
          have := hb2.2
          simpa using this
      have hw0i : (0 : Int) < (mkB wh).size := by omega
      have hw1i : (1 : Int) < (wh.length : Int) := by omega
      clear hbad
      obtain ⟨z0, z1, z2, y0, y1, y2⟩ := F5.out.box.cells
      obtain ⟨r0, r1, r2, _, _, _⟩ := (F5.out.box.set (n' := false) (s' := ⟨#[]⟩) (x' := 0)).cells
      go_wp2
      refine bodyPost_ret (v := .tuple #[.agg #[.bool false, .string ⟨#[]⟩, .int .i64 0], .int .i64 10]) (by simp [results, Tryz.results45, go_sem, r0, r1, r2]) rfl ⟨by rw [hpr.out]; rfl, ?_⟩
      iterate 3 refine Below.setCell ?_ (by show w.heap.size ≤ w.heap.size; omega) _
      exact F5.out.below
    · rw [hne] at me
      clear hbad hne
      obtain ⟨z0, z1, z2, y0, y1, y2⟩ := F5.out.box.cells
      obtain ⟨r0, r1, r2, _, _, _⟩ := (F5.out.box.set (n' := false) (s' := ⟨#[]⟩) (x' := 0)).cells
      go_wp2
      refine bodyPost_ret (v := .tuple #[.agg #[.bool false, .string ⟨#[]⟩, .int .i64 0], .int .i64 10]) (by simp [results, Tryz.results45, go_sem, r0, r1, r2]) rfl ⟨by rw [hpr.out]; rfl, ?_⟩
      iterate 3 refine Below.setCell ?_ (by show w.heap.size ≤ w.heap.size; omega) _
      exact F5.out.below
/-- The reference's Parse, at every text. -/
theorem rparse_any (l : List UInt8) (w : World) (hl : l.length ≤ 80000) :
    Calls Tryz.prog 45 #[.string (mkB l)] w fun e w' => e = retF (parseR l) ∧ Below w.heap.size w w' := by
  cases l with
  | nil => exact rparse_nil w
  | cons b r =>
    cases hb : hdB 45 (b :: r)
    · exact rparse_cons b r w hl hb
    · have hc : b = 45 := by
        have := eq_of_beq hb
        simpa using this
      subst hc
      exact rparse_minus r w (by rw [List.length_cons] at hl; omega)
end Go.Proofs.YtjidnceccpmheaaGreatDoor
/- The two Parses make the same of every text. -/
namespace Go.Proofs.YtjidnceccpmheaaGreatDoor
open Go.RowKit
set_option linter.unusedSimpArgs false
set_option linter.unusedVariables false
theorem pwB_ge : ∀ (l : List UInt8) (acc : Nat), 913 ≤ acc → 913 ≤ pwB acc l
  | [], acc, h => h
  | c :: l, acc, h => by
    unfold pwB
    exact pwB_ge l _ (by omega)
theorem u8_sub (c : UInt8) : c.toNat - 48 ≤ 207 := by have := c.toNat_lt; omega
/-- The two powers: the same, or both far out. -/
theorem pw_same : ∀ (l : List UInt8) (acc : Nat), pwA acc l = pwB acc l ∨ (913 ≤ pwA acc l ∧ 913 ≤ pwB acc l)
  | [], acc => Or.inl rfl
  | c :: l, acc => by
    by_cases h : acc ≤ 912
    · have hc := u8_sub c
      have e1 : pwA acc (c :: l) = pwA (acc * 10 + (c.toNat - 48)) l := if_pos h
      have e2 : pwB acc (c :: l) = pwB (min (10 * acc + (c.toNat - 48)) 1000000) l := rfl
      have e3 : min (10 * acc + (c.toNat - 48)) 1000000 = acc * 10 + (c.toNat - 48) := by omega
      rw [e1, e2, e3]
      exact pw_same l _
    · right
      rw [pwA_far acc (c :: l) h]
      exact ⟨by omega, pwB_ge (c :: l) acc (by omega)⟩
theorem pow_same (pn : Bool) (l : List UInt8) : powB pn l = powF pn l ∨ (913 ≤ powB pn l ∧ 913 ≤ powF pn l) ∨ (powB pn l ≤ -913 ∧ powF pn l ≤ -913) := by
  unfold powB powF
  rcases pw_same l 0 with h | ⟨h1, h2⟩
  · left; rw [h]
  · right
    cases pn
    · left; simp; omega
    · right; simp; omega
theorem formF_far (n : Bool) (d : List Nat) (x y : Int) (h : (∀ t : Nat, t ≤ d.length → ¬ (-400 ≤ x + t ∧ x + t ≤ 400)) ∧ (∀ t : Nat, t ≤ d.length → ¬ (-400 ≤ y + t ∧ y + t ≤ 400))) : formF n d x = formF n d y := by
  have ht : tz (dz d) ≤ d.length := Nat.le_trans (tz_le _) (by unfold dz; rw [List.length_drop]; omega)
  unfold formF
  split
  · rfl
  · rw [if_neg (fun q => h.1 _ ht q.2), if_neg (fun q => h.2 _ ht q.2)]
theorem parse_same (l : List UInt8) : parseR l = parseF l := by
  unfold parseR parseF
  cases h : splitL l with
  | none => rfl
  | some r =>
    obtain ⟨n, wh, fr, pn, pw⟩ := r
    have hf := splitL_facts h
    show (if 512 < l.length then _ else _) = (if 512 < l.length then _ else _)
    split
    · rfl
    · rename_i hs
      have hl : wh.length + fr.length ≤ 512 := by omega
      have hdl : (dlu wh ++ dlu fr).length = wh.length + fr.length := by rw [List.length_append, dlu_len, dlu_len]
      rcases pow_same pn pw with e | ⟨e1, e2⟩ | ⟨e1, e2⟩
      · rw [e]
      · exact formF_far _ _ _ _ ⟨fun t ht => by omega, fun t ht => by omega⟩
      · exact formF_far _ _ _ _ ⟨fun t ht => by omega, fun t ht => by omega⟩
/-- The reference's Parse, at every text: what num.Parse makes of it. -/
theorem rparse_same (s : ByteArray) (w : World) (hs : s.size ≤ 80000) :
    Calls Tryz.prog 45 #[.string s] w fun e w' => e = retF (parseF (bl s)) ∧ Below w.heap.size w w' := by
  have h := rparse_any (bl s) w (by rw [bl_length]; exact hs)
  rw [mkB_bl, parse_same] at h
  exact h
end Go.Proofs.YtjidnceccpmheaaGreatDoor
