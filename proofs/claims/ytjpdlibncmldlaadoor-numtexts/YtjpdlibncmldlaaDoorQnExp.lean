/- calamusref01's exponent: walked. -/
import Derived.Test.YtjpdlibncmldlaaDoorQmExp
namespace Go.Proofs.YtjpdlibncmldlaaDoor
open Go.RowKit
set_option linter.unusedSimpArgs false
set_option linter.unusedVariables false
theorem take_snoc (d : List UInt8) (k : Nat) (h : k < d.length) : d.take (k + 1) = d.take k ++ [d[k]] := List.take_succ_eq_append_getElem h
theorem rexp_no (c : UInt8) (r : List UInt8) (w : World) (h : (c == 101 || c == 69) = false) (hl : r.length ≤ 90000) :
    Calls Tryd.prog 33 #[.string (mkB (c :: r))] w fun e w' => e = .returned (.tuple #[.int .i64 0, .bool false]) ∧ Below w.heap.size w w' := by
  have hsz : (mkB (c :: r)).size = r.length + 1 := by rw [mkB_size]; rfl
  have hemp : (mkB (c :: r)).toList.isEmpty = false := mkB_isEmpty _
  have hg : (mkB (c :: r))[0]'(by omega) = c := get0_mkB c r _
  obtain ⟨S, hS⟩ : ∃ S, mkB (c :: r) = S := ⟨_, rfl⟩
  rw [hS] at hsz hemp ⊢
  have hg' : (S[0]'(by omega)) = c := by subst hS; exact hg
  have c1 : c.toNat ≠ 101 := by intro q; have : c = 101 := UInt8.toNat_inj.1 q; subst this; simp at h
  have c2 : c.toNat ≠ 69 := by intro q; have : c = 69 := UInt8.toNat_inj.1 q; subst this; simp at h
  have d1 : ((c.toNat : Int) != 101) = true := by simp; omega
  have d2 : ((c.toNat : Int) != 69) = true := by simp; omega
  have h0 : (0 : Int) < S.size := by omega
  clear hS hg
  go_enter Tryd.func33, Tryd.ntmps33
  go_wp2
  go_ret2
  exact ⟨rfl, Below.refl _ _⟩
theorem rexp_nil (w : World) : Calls Tryd.prog 33 #[.string ⟨#[]⟩] w fun e w' => e = .returned (.tuple #[.int .i64 0, .bool true]) ∧ Below w.heap.size w w' := by
  go_enter Tryd.func33, Tryd.ntmps33
  go_wp2
  go_ret2
  exact ⟨rfl, Below.refl _ _⟩
set_option maxHeartbeats 4000000 in
theorem rexp_e (c : UInt8) (r : List UInt8) (w : World) (h : (c == 101 || c == 69) = true) (hl : r.length ≤ 90000) :
    Calls Tryd.prog 33 #[.string (mkB (c :: r))] w fun e w' => e = tailE (spPn r) (spL r) ∧ Below w.heap.size w w' := by
  have hsz : (mkB (c :: r)).size = r.length + 1 := by rw [mkB_size]; rfl
  have hemp : (mkB (c :: r)).toList.isEmpty = false := mkB_isEmpty _
  have hg : (mkB (c :: r))[0]'(by omega) = c := get0_mkB c r _
  have hext := mkB_ext c r
  obtain ⟨S, hS⟩ : ∃ S, mkB (c :: r) = S := ⟨_, rfl⟩
  rw [hS] at hsz hemp hext ⊢
  have hg' : (S[0]'(by omega)) = c := by subst hS; exact hg
  have c1 : c.toNat = 101 ∨ c.toNat = 69 := by
    simp only [Bool.or_eq_true, beq_iff_eq] at h
    rcases h with rfl | rfl
    · left; rfl
    · right; rfl
  have h0 : (0 : Int) < S.size := by omega
  have h1 : (1 : Int) ≤ S.size := by omega
  clear hS hg h
  cases r with
  | nil =>
    have hp : Hid (tailE (spPn []) (spL []) = .returned (.tuple #[.int .i64 0, .bool false])) := rfl
    have he : mkB [] = ⟨#[]⟩ := rfl
    rw [he] at hext
    have hbe : bl ByteArray.empty = [] := rfl
    rcases c1 with q | q
    all_goals
      go_enter Tryd.func33, Tryd.ntmps33
      go_wp2_with fail
      go_fit (rcut_any ByteArray.empty _ (by decide))
      rw [hbe]
      rintro e w1 ⟨rfl, hb1⟩
      have hme := mkB_isEmpty []
      go_wp2
      go_ret2
      exact ⟨hp.out.symm, hb1⟩
  | cons b t =>
    have hsz2 : (mkB (b :: t)).size = t.length + 1 := by rw [mkB_size]; rfl
    have hg2 : (mkB (b :: t))[0]'(by omega) = b := get0_mkB b t _
    have hext2 := mkB_ext b t
    have hll : t.length ≤ 90000 := by simp at hl; omega
    simp only [List.length_cons] at hsz hext hl
    obtain ⟨V, hV⟩ : ∃ V, mkB (b :: t) = V := ⟨_, rfl⟩
    have g0 : (0 : Int) < ((mkB (b :: t)).size : Int) := by omega
    by_cases p1 : b = 43
    · subst p1
      have hPn : spPn (43 :: t) = false := rfl
      have hL : spL (43 :: t) = t := rfl
      rw [hPn, hL]
      rw [hV] at hsz2 hext2 hext g0
      have hg3 : (V[0]'(by omega)) = 43 := by subst hV; exact hg2
      have g1 : (1 : Int) ≤ V.size := by omega
      clear hV hg2 hPn hL
      rcases c1 with q | q
      all_goals
        go_enter Tryd.func33, Tryd.ntmps33
        go_wp2_with fail
        go_fit (rcut_any (mkB t) _ (by rw [mkB_size]; omega))
        rw [bl_mkB]
        rintro e w1 ⟨rfl, hb1⟩
        have hD := hide (show ∀ c ∈ t.takeWhile isDig, isDig c = true from fun c hc => List.all_eq_true.1 (List.all_takeWhile (p := isDig) (l := t)) c hc)
        have hDl : (t.takeWhile isDig).length ≤ 90001 := by have := takeWhile_len t; omega
        have eT := hide (show tailE false t = if !(t.takeWhile isDig).isEmpty && (t.dropWhile isDig).isEmpty then .returned (.tuple #[.int .i64 (if false then -(pwB 0 (t.takeWhile isDig) : Int) else (pwB 0 (t.takeWhile isDig) : Int)), .bool true]) else .returned (.tuple #[.int .i64 0, .bool false]) from rfl)
        obtain ⟨D, hDD⟩ : ∃ D, t.takeWhile isDig = D := ⟨_, rfl⟩
        obtain ⟨R, hRR⟩ : ∃ R, t.dropWhile isDig = R := ⟨_, rfl⟩
        rw [hDD, hRR] at eT
        rw [hDD] at hD hDl
        rw [hDD, hRR]
        have m1 := mkB_isEmpty D
        have m2 := mkB_isEmpty R
        have sD : (mkB D).size = D.length := mkB_size D
        cases hD0 : D.isEmpty
        · cases hR0 : R.isEmpty
          · rw [hD0] at m1
            rw [hR0] at m2
            rw [hD0, hR0] at eT
            go_wp2
            go_ret2
            exact ⟨eT.out.symm, hb1⟩
          · rw [hD0] at m1
            rw [hR0] at m2
            rw [hD0, hR0] at eT
            go_wp2
            clear m1 m2
            go_loop [7, 8] (fun x i => ∃ k : Nat, k ≤ D.length ∧ i = .int .i64 k ∧ x = .int .i64 (pwB 0 (D.take k) : Nat)) (fun x i => D.length - (intOf i).toNat)
            case atStart => exact ⟨0, Nat.zero_le _, rfl, rfl⟩
            case round =>
              obtain ⟨k, hk, rfl, rfl⟩ := hrel
              have hx6 := pwB_le (D.take k) 0 (by omega)
              by_cases hlt : k < D.length
              · obtain ⟨u, hu⟩ : ∃ u, D[k]'hlt = u := ⟨_, rfl⟩
                have hmem : u ∈ D := by rw [← hu]; exact List.getElem_mem _
                have hdig := (isDig_iff u).1 (hD.out u hmem)
                have hst := hide (show pwB 0 (D.take (k + 1)) = min (10 * pwB 0 (D.take k) + (u.toNat - 48)) 1000000 by rw [take_snoc D k hlt, pwB_snoc, hu])
                have hks : k < (mkB D).size := by omega
                have hget : (mkB D)[k] = u := by
                  have q := bl_get (mkB D) k hks
                  rw [← q, ← hu]
                  simp only [bl_mkB]
                  try rfl
                obtain ⟨q, hq⟩ : ∃ q : Nat, u.toNat = q := ⟨_, rfl⟩
                have hg2 : ((mkB D)[k]).toNat = q := by rw [hget, hq]
                rw [hq] at hdig hst
                have q1 : 48 ≤ q := by omega
                have q2 : q ≤ 57 := by omega
                have hki : (k : Int) < (mkB D).size := by omega
                obtain ⟨x, hxx⟩ : ∃ x, pwB 0 (D.take k) = x := ⟨_, rfl⟩
                rw [hxx] at hst hx6 ⊢
                clear hget hq hdig hxx hmem hu
                by_cases hbig : 10 * x + (q - 48) ≤ 1000000
                · rw [Nat.min_eq_left hbig] at hst
                  have b1 : 10 * (x : Int) + ((q : Int) - 48) ≤ 1000000 := by omega
                  have b2 : ¬ (1000000 : Int) < 10 * (x : Int) + ((q : Int) - 48) := by omega
                  go_wp2
                  all_goals
                    refine ⟨⟨k + 1, hlt, by go_num, ?_⟩, ?_⟩
                    · rw [hst.out]; exact congrArg (Value.int IntKind.i64) (by omega)
                    · simp [intOf]; omega
                · rw [Nat.min_eq_right (by omega)] at hst
                  have b1 : ¬ 10 * (x : Int) + ((q : Int) - 48) ≤ 1000000 := by omega
                  have b2 : (1000000 : Int) < 10 * (x : Int) + ((q : Int) - 48) := by omega
                  go_wp2
                  all_goals
                    refine ⟨⟨k + 1, hlt, by go_num, ?_⟩, ?_⟩
                    · rw [hst.out]; exact congrArg (Value.int IntKind.i64) (by omega)
                    · simp [intOf]; omega
              · have hke : k = D.length := by omega
                subst hke
                have htk : D.take D.length = D := List.take_of_length_le (Nat.le_refl _)
                rw [htk] at hx6 ⊢
                obtain ⟨x, hxx⟩ : ∃ x, pwB 0 D = x := ⟨_, rfl⟩
                rw [hxx] at eT hx6 ⊢
                clear hxx htk
                go_wp2
                go_ret2
                refine ⟨?_, hb1⟩
                rw [eT.out]
                rfl
        · rw [hD0] at m1
          rw [hD0] at eT
          go_wp2
          go_ret2
          exact ⟨eT.out.symm, hb1⟩
    · by_cases p2 : b = 45
      · subst p2
        have hPn : spPn (45 :: t) = true := rfl
        have hL : spL (45 :: t) = t := rfl
        rw [hPn, hL]
        rw [hV] at hsz2 hext2 hext g0
        have hg3 : (V[0]'(by omega)) = 45 := by subst hV; exact hg2
        have g1 : (1 : Int) ≤ V.size := by omega
        clear hV hg2 hPn hL
        rcases c1 with q | q
        all_goals
          go_enter Tryd.func33, Tryd.ntmps33
          go_wp2_with fail
          go_fit (rcut_any (mkB t) _ (by rw [mkB_size]; omega))
          rw [bl_mkB]
          rintro e w1 ⟨rfl, hb1⟩
          have hD := hide (show ∀ c ∈ t.takeWhile isDig, isDig c = true from fun c hc => List.all_eq_true.1 (List.all_takeWhile (p := isDig) (l := t)) c hc)
          have hDl : (t.takeWhile isDig).length ≤ 90001 := by have := takeWhile_len t; omega
          have eT := hide (show tailE true t = if !(t.takeWhile isDig).isEmpty && (t.dropWhile isDig).isEmpty then .returned (.tuple #[.int .i64 (if true then -(pwB 0 (t.takeWhile isDig) : Int) else (pwB 0 (t.takeWhile isDig) : Int)), .bool true]) else .returned (.tuple #[.int .i64 0, .bool false]) from rfl)
          obtain ⟨D, hDD⟩ : ∃ D, t.takeWhile isDig = D := ⟨_, rfl⟩
          obtain ⟨R, hRR⟩ : ∃ R, t.dropWhile isDig = R := ⟨_, rfl⟩
          rw [hDD, hRR] at eT
          rw [hDD] at hD hDl
          rw [hDD, hRR]
          have m1 := mkB_isEmpty D
          have m2 := mkB_isEmpty R
          have sD : (mkB D).size = D.length := mkB_size D
          cases hD0 : D.isEmpty
          · cases hR0 : R.isEmpty
            · rw [hD0] at m1
              rw [hR0] at m2
              rw [hD0, hR0] at eT
              go_wp2
              go_ret2
              exact ⟨eT.out.symm, hb1⟩
            · rw [hD0] at m1
              rw [hR0] at m2
              rw [hD0, hR0] at eT
              go_wp2
              clear m1 m2
              go_loop [7, 8] (fun x i => ∃ k : Nat, k ≤ D.length ∧ i = .int .i64 k ∧ x = .int .i64 (pwB 0 (D.take k) : Nat)) (fun x i => D.length - (intOf i).toNat)
              case atStart => exact ⟨0, Nat.zero_le _, rfl, rfl⟩
              case round =>
                obtain ⟨k, hk, rfl, rfl⟩ := hrel
                have hx6 := pwB_le (D.take k) 0 (by omega)
                by_cases hlt : k < D.length
                · obtain ⟨u, hu⟩ : ∃ u, D[k]'hlt = u := ⟨_, rfl⟩
                  have hmem : u ∈ D := by rw [← hu]; exact List.getElem_mem _
                  have hdig := (isDig_iff u).1 (hD.out u hmem)
                  have hst := hide (show pwB 0 (D.take (k + 1)) = min (10 * pwB 0 (D.take k) + (u.toNat - 48)) 1000000 by rw [take_snoc D k hlt, pwB_snoc, hu])
                  have hks : k < (mkB D).size := by omega
                  have hget : (mkB D)[k] = u := by
                    have q := bl_get (mkB D) k hks
                    rw [← q, ← hu]
                    simp only [bl_mkB]
                    try rfl
                  obtain ⟨q, hq⟩ : ∃ q : Nat, u.toNat = q := ⟨_, rfl⟩
                  have hg2 : ((mkB D)[k]).toNat = q := by rw [hget, hq]
                  rw [hq] at hdig hst
                  have q1 : 48 ≤ q := by omega
                  have q2 : q ≤ 57 := by omega
                  have hki : (k : Int) < (mkB D).size := by omega
                  obtain ⟨x, hxx⟩ : ∃ x, pwB 0 (D.take k) = x := ⟨_, rfl⟩
                  rw [hxx] at hst hx6 ⊢
                  clear hget hq hdig hxx hmem hu
                  by_cases hbig : 10 * x + (q - 48) ≤ 1000000
                  · rw [Nat.min_eq_left hbig] at hst
                    have b1 : 10 * (x : Int) + ((q : Int) - 48) ≤ 1000000 := by omega
                    have b2 : ¬ (1000000 : Int) < 10 * (x : Int) + ((q : Int) - 48) := by omega
                    go_wp2
                    all_goals
                      refine ⟨⟨k + 1, hlt, by go_num, ?_⟩, ?_⟩
                      · rw [hst.out]; exact congrArg (Value.int IntKind.i64) (by omega)
                      · simp [intOf]; omega
                  · rw [Nat.min_eq_right (by omega)] at hst
                    have b1 : ¬ 10 * (x : Int) + ((q : Int) - 48) ≤ 1000000 := by omega
                    have b2 : (1000000 : Int) < 10 * (x : Int) + ((q : Int) - 48) := by omega
                    go_wp2
                    all_goals
                      refine ⟨⟨k + 1, hlt, by go_num, ?_⟩, ?_⟩
                      · rw [hst.out]; exact congrArg (Value.int IntKind.i64) (by omega)
                      · simp [intOf]; omega
                · have hke : k = D.length := by omega
                  subst hke
                  have htk : D.take D.length = D := List.take_of_length_le (Nat.le_refl _)
                  rw [htk] at hx6 ⊢
                  obtain ⟨x, hxx⟩ : ∃ x, pwB 0 D = x := ⟨_, rfl⟩
                  rw [hxx] at eT hx6 ⊢
                  clear hxx htk
                  go_wp2
                  go_ret2
                  refine ⟨?_, hb1⟩
                  rw [eT.out]
                  simp
          · rw [hD0] at m1
            rw [hD0] at eT
            go_wp2
            go_ret2
            exact ⟨eT.out.symm, hb1⟩
      · have n1 : b.toNat ≠ 43 := fun q => p1 (UInt8.toNat_inj.1 q)
        have n2 : b.toNat ≠ 45 := fun q => p2 (UInt8.toNat_inj.1 q)
        have hd1 : hdB 43 (b :: t) = false := by simp [hdB, p1]
        have hd2 : hdB 45 (b :: t) = false := by simp [hdB, p2]
        have hPn : spPn (b :: t) = false := by unfold spPn; rw [hd1, hd2]; rfl
        have hL : spL (b :: t) = b :: t := by unfold spL; rw [hd1, tlB_no hd2]; rfl
        rw [hPn, hL]
        have m1 : ((b.toNat : Int) == 43) = false := by simp; omega
        have m2 : ((b.toNat : Int) == 45) = false := by simp; omega
        have hll2 : (b :: t).length ≤ 90001 := by simp; omega
        obtain ⟨l, hl'⟩ : ∃ l, b :: t = l := ⟨_, rfl⟩
        rw [hl'] at hsz2 hext g0 hll2 ⊢
        have hg3 : ((mkB l)[0]'(by omega)) = b := by subst hl'; exact hg2
        clear hV hg2 hl' hPn hL hext2 p1 p2 hd1 hd2 n1 n2
        rcases c1 with q | q
        all_goals
          go_enter Tryd.func33, Tryd.ntmps33
          go_wp2_with fail
          go_fit (rcut_any (mkB l) _ (by rw [mkB_size]; omega))
          rw [bl_mkB]
          rintro e w1 ⟨rfl, hb1⟩
          have hD := hide (show ∀ c ∈ l.takeWhile isDig, isDig c = true from fun c hc => List.all_eq_true.1 (List.all_takeWhile (p := isDig) (l := l)) c hc)
          have hDl : (l.takeWhile isDig).length ≤ 90001 := by have := takeWhile_len l; omega
          have eT := hide (show tailE false l = if !(l.takeWhile isDig).isEmpty && (l.dropWhile isDig).isEmpty then .returned (.tuple #[.int .i64 (if false then -(pwB 0 (l.takeWhile isDig) : Int) else (pwB 0 (l.takeWhile isDig) : Int)), .bool true]) else .returned (.tuple #[.int .i64 0, .bool false]) from rfl)
          obtain ⟨D, hDD⟩ : ∃ D, l.takeWhile isDig = D := ⟨_, rfl⟩
          obtain ⟨R, hRR⟩ : ∃ R, l.dropWhile isDig = R := ⟨_, rfl⟩
          rw [hDD, hRR] at eT
          rw [hDD] at hD hDl
          rw [hDD, hRR]
          have m1 := mkB_isEmpty D
          have m2 := mkB_isEmpty R
          have sD : (mkB D).size = D.length := mkB_size D
          cases hD0 : D.isEmpty
          · cases hR0 : R.isEmpty
            · rw [hD0] at m1
              rw [hR0] at m2
              rw [hD0, hR0] at eT
              go_wp2
              go_ret2
              exact ⟨eT.out.symm, hb1⟩
            · rw [hD0] at m1
              rw [hR0] at m2
              rw [hD0, hR0] at eT
              go_wp2
              clear m1 m2
              go_loop [7, 8] (fun x i => ∃ k : Nat, k ≤ D.length ∧ i = .int .i64 k ∧ x = .int .i64 (pwB 0 (D.take k) : Nat)) (fun x i => D.length - (intOf i).toNat)
              case atStart => exact ⟨0, Nat.zero_le _, rfl, rfl⟩
              case round =>
                obtain ⟨k, hk, rfl, rfl⟩ := hrel
                have hx6 := pwB_le (D.take k) 0 (by omega)
                by_cases hlt : k < D.length
                · obtain ⟨u, hu⟩ : ∃ u, D[k]'hlt = u := ⟨_, rfl⟩
                  have hmem : u ∈ D := by rw [← hu]; exact List.getElem_mem _
                  have hdig := (isDig_iff u).1 (hD.out u hmem)
                  have hst := hide (show pwB 0 (D.take (k + 1)) = min (10 * pwB 0 (D.take k) + (u.toNat - 48)) 1000000 by rw [take_snoc D k hlt, pwB_snoc, hu])
                  have hks : k < (mkB D).size := by omega
                  have hget : (mkB D)[k] = u := by
                    have q := bl_get (mkB D) k hks
                    rw [← q, ← hu]
                    simp only [bl_mkB]
                    try rfl
                  obtain ⟨q, hq⟩ : ∃ q : Nat, u.toNat = q := ⟨_, rfl⟩
                  have hg2 : ((mkB D)[k]).toNat = q := by rw [hget, hq]
                  rw [hq] at hdig hst
                  have q1 : 48 ≤ q := by omega
                  have q2 : q ≤ 57 := by omega
                  have hki : (k : Int) < (mkB D).size := by omega
                  obtain ⟨x, hxx⟩ : ∃ x, pwB 0 (D.take k) = x := ⟨_, rfl⟩
                  rw [hxx] at hst hx6 ⊢
                  clear hget hq hdig hxx hmem hu
                  by_cases hbig : 10 * x + (q - 48) ≤ 1000000
                  · rw [Nat.min_eq_left hbig] at hst
                    have b1 : 10 * (x : Int) + ((q : Int) - 48) ≤ 1000000 := by omega
                    have b2 : ¬ (1000000 : Int) < 10 * (x : Int) + ((q : Int) - 48) := by omega
                    go_wp2
                    all_goals
                      refine ⟨⟨k + 1, hlt, by go_num, ?_⟩, ?_⟩
                      · rw [hst.out]; exact congrArg (Value.int IntKind.i64) (by omega)
                      · simp [intOf]; omega
                  · rw [Nat.min_eq_right (by omega)] at hst
                    have b1 : ¬ 10 * (x : Int) + ((q : Int) - 48) ≤ 1000000 := by omega
                    have b2 : (1000000 : Int) < 10 * (x : Int) + ((q : Int) - 48) := by omega
                    go_wp2
                    all_goals
                      refine ⟨⟨k + 1, hlt, by go_num, ?_⟩, ?_⟩
                      · rw [hst.out]; exact congrArg (Value.int IntKind.i64) (by omega)
                      · simp [intOf]; omega
                · have hke : k = D.length := by omega
                  subst hke
                  have htk : D.take D.length = D := List.take_of_length_le (Nat.le_refl _)
                  rw [htk] at hx6 ⊢
                  obtain ⟨x, hxx⟩ : ∃ x, pwB 0 D = x := ⟨_, rfl⟩
                  rw [hxx] at eT hx6 ⊢
                  clear hxx htk
                  go_wp2
                  go_ret2
                  refine ⟨?_, hb1⟩
                  rw [eT.out]
                  rfl
          · rw [hD0] at m1
            rw [hD0] at eT
            go_wp2
            go_ret2
            exact ⟨eT.out.symm, hb1⟩
end Go.Proofs.YtjpdlibncmldlaaDoor
