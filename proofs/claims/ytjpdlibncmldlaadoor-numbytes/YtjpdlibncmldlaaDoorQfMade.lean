/- calamusref01's Made: walked. -/
import Derived.Test.YtjpdlibncmldlaaDoorQePlus
namespace Go.Proofs.YtjpdlibncmldlaaDoor
open Go.RowKit
set_option linter.unusedSimpArgs false
set_option linter.unusedVariables false
theorem mkS_drop (l : List Nat) : (mkS l).extract 1 (mkS l).size = mkS (l.drop 1) := by
  rw [drop_mkB, mkS_bl, mkS_mkB, List.map_drop]
theorem mkS_take (l : List Nat) (k : Nat) : (mkS l).extract 0 k = mkS (l.take k) := by
  rw [extract_mkB, List.drop_zero, Nat.sub_zero, mkS_bl, mkS_mkB, List.map_take]
theorem lz_zero (d : List Nat) (j : Nat) (h : j < lz d) (h' : j < d.length) : d[j] = 0 := by
  have e := take_lz d
  have h1 : (d.take (lz d))[j]'(by simp; omega) = d[j] := List.getElem_take
  rw [← h1]
  simp only [e]
  exact List.getElem_replicate ..
theorem tz_zero (d : List Nat) (k : Nat) (h : k < tz d) (h' : d.length - 1 - k < d.length) : d[d.length - 1 - k] = 0 := by
  have h0 := lz_zero d.reverse k h (by have := tz_le d; simp; omega)
  rw [List.getElem_reverse] at h0
  exact h0
theorem tz_ne (d : List Nat) (h : tz d < d.length) : d[d.length - 1 - tz d]'(by omega) ≠ 0 := by
  have h0 := lz_ne d.reverse (by simpa [tz] using h)
  rw [List.getElem_reverse] at h0
  exact h0
/-- Made's answer. -/
def retM (r : Bool × ByteArray × Int × Int) : Ending := .returned (.tuple #[.agg #[.bool r.1, .string r.2.1, .int .i64 r.2.2.1], .bool (r.2.2.2 == 0)])
theorem core_isN (neg : Bool) (d : List Nat) (x : Int) (h : lz d < d.length) (hd : Dgs d) : isN neg (mkS (core d)) x = decide ((core d).length ≤ 40 ∧ -400 ≤ x ∧ x ≤ 400) := by
  obtain ⟨hc, hne⟩ := core_can d h hd
  by_cases hf : (core d).length ≤ 40 ∧ -400 ≤ x ∧ x ≤ 400
  · rw [decide_eq_true hf]
    have := mkS_isO (core d) x hc hne hf.1 hf.2.1 hf.2.2
    simp [isN, this]
  · rw [decide_eq_false hf]
    cases hn : isN neg (mkS (core d)) x
    · rfl
    · exfalso
      apply hf
      simp only [isN, Bool.or_eq_true] at hn
      rcases hn with hz | ho
      · have h1 := (isZ_mag hz).1
        rw [mkS_dg _ hc.dgs] at h1
        exact absurd rfl (hc.first 0 (by rw [h1]; rfl))
      · obtain ⟨b1, b2, b3, b4, _⟩ := isO_facts ho
        rw [mkS_size] at b2
        exact ⟨b2, b3, b4⟩
set_option maxHeartbeats 2000000 in
theorem made_any (neg : Bool) (d : List Nat) (x : Int) (w : World) (hd : Dgs d) (hl : d.length ≤ 100000) (hx : -2000000 ≤ x) (hx' : x ≤ 1000000) :
    Calls Tryd.prog 34 #[.bool neg, .string (mkS d), .int .i64 x] w fun e w' => e = retM (formF neg d x) ∧ Below w.heap.size w w' := by
  have Hd := hide hd
  obtain ⟨n, hn⟩ : ∃ n, d.length = n := ⟨_, rfl⟩
  obtain ⟨z, hz⟩ : ∃ z, lz d = z := ⟨_, rfl⟩
  have hzn : z ≤ n := by rw [← hz, ← hn]; exact lz_le d
  have hnl : n ≤ 100000 := by omega
  have Hn := hide hn
  have Hz := hide hz
  clear hd hl hn hz
  go_enter Tryd.func34, Tryd.ntmps34
  go_wp2
  go_loop [1] (fun s => ∃ j : Nat, j ≤ z ∧ s = .string (mkS (d.drop j))) (fun s => lenS s)
  case atStart => exact ⟨0, Nat.zero_le _, rfl⟩
  case round =>
    obtain ⟨j, hj, rfl⟩ := hrel
    have hsz : (mkS (d.drop j)).size = n - j := by rw [mkS_size, List.length_drop, Hn.out]
    by_cases hjz : j < z
    · have hc : (mkS (d.drop j))[0]'(by omega) = 48 := by
        apply UInt8.toNat_inj.1
        rw [mkS_get (d.drop j) (fun x hx => Hd.out x (List.mem_of_mem_drop hx)) 0 (by rw [List.length_drop, Hn.out]; omega) (by omega)]
        simp only [List.getElem_drop]
        rw [show d[j + 0]'(by rw [Hn.out]; omega) = 0 from lz_zero d j (by rw [Hz.out]; exact hjz) (by rw [Hn.out]; omega)]
        rfl
      have hdr := hide (mkS_drop (d.drop j))
      obtain ⟨S, hS⟩ : ∃ S, mkS (d.drop j) = S := ⟨_, rfl⟩
      rw [hS] at hsz hdr ⊢
      have hc' : S[0]'(by omega) = 48 := by subst hS; exact hc
      have h0 : 0 < S.size := by omega
      have h0' : (0 : Int) < S.size := by omega
      have h1' : (1 : Int) ≤ S.size := by omega
      clear hS hc
      go_wp2
      have hes : S.extract 1 (n - j) = mkS (d.drop (j + 1)) := by rw [← hsz, hdr.out, List.drop_drop]
      refine ⟨⟨j + 1, hjz, congrArg Value.string hes⟩, ?_⟩
      rw [hes]
      show (mkS _).size < S.size
      rw [mkS_size, List.length_drop, Hn.out, hsz]
      omega
    · have hje : j = z := by omega
      subst hje
      by_cases hall : j = n
      · have hE : mkS (d.drop j) = ⟨#[]⟩ := by rw [List.drop_of_length_le (by rw [Hn.out]; omega)]; rfl
        have hr := hide (show formF neg d x = (false, ⟨#[48]⟩, 0, 0) by unfold formF; rw [if_pos (by rw [Hz.out, Hn.out]; exact hall)])
        rw [hE]
        go_wp2
        exact bodyPost_ret (v := .tuple #[.agg #[.bool false, .string ⟨#[48]⟩, .int .i64 0], .bool true]) (by simp [results, Tryd.results34, go_sem]) rfl ⟨by rw [hr.out]; rfl, below_al (Below.refl _ _)⟩
      · have hlt : Hid (lz d < d.length) := by show lz d < d.length; rw [Hz.out, Hn.out]; omega
        obtain ⟨m, hm⟩ : ∃ m, n - j = m := ⟨_, rfl⟩
        have hm0 : 0 < m := by omega
        have hdz : Hid (d.drop j = dz d) := by show _ = _; rw [dz, Hz.out]
        have hdl : Hid ((dz d).length = m) := by show _ = _; rw [dz, List.length_drop, Hz.out, Hn.out]; exact hm
        have hdd : Hid (Dgs (dz d)) := fun x hx => Hd.out x (List.mem_of_mem_drop hx)
        obtain ⟨T, hT⟩ : ∃ T, tz (dz d) = T := ⟨_, rfl⟩
        have hTm : T < m := by rw [← hT, ← hdl.out]; exact tz_lt d hlt.out
        have HT := hide hT
        have hc : (mkS (d.drop j))[0]'(by omega) ≠ 48 := by
          intro e
          have e' := congrArg UInt8.toNat e
          rw [mkS_get (d.drop j) (fun x hx => Hd.out x (List.mem_of_mem_drop hx)) 0 (by rw [List.length_drop, Hn.out]; omega) (by omega)] at e'
          simp only [List.getElem_drop] at e'
          have h5 : d[j + 0]'(by rw [Hn.out]; omega) ≠ 0 := by
            have := lz_ne d hlt.out
            simp only [Hz.out] at this
            exact this
          have : (48 : UInt8).toNat = 48 := rfl
          omega
        have hSz := hide (show mkS (d.drop j) = mkS ((dz d).take (m - 0)) by rw [hdz.out, List.take_of_length_le (by rw [hdl.out]; omega)])
        obtain ⟨S, hS⟩ : ∃ S, mkS (d.drop j) = S := ⟨_, rfl⟩
        rw [hS] at hsz hSz ⊢
        have hc' : (S[0]'(by omega)).toNat ≠ 48 := by subst hS; intro e; exact hc (UInt8.toNat_inj.1 (by rw [e]; rfl))
        have h0 : 0 < S.size := by omega
        have h0' : (0 : Int) < S.size := by omega
        have hc2 : (((S[0]'(by omega)).toNat : Int) == 48) = false := by simp; omega
        have hne : S.toList.isEmpty = false := by
          rw [bl_toList]
          cases hb : bl S with
          | nil => have := bl_length S; rw [hb] at this; simp at this; omega
          | cons => rfl
        rw [hm] at hsz
        clear hS hc hT hc'
        go_wp2
        clear hsz h0 h0' hc2 hne
        go_loop [1, 2] (fun s e => ∃ k : Nat, k ≤ T ∧ s = .string (mkS ((dz d).take (m - k))) ∧ e = .int .i64 (x + k)) (fun s e => lenS s)
        case atStart => exact ⟨0, Nat.zero_le _, congrArg Value.string hSz.out, by simp⟩
        case round =>
          obtain ⟨k, hk, rfl, rfl⟩ := hrel
          have hsz : (mkS ((dz d).take (m - k))).size = m - k := by rw [mkS_size, List.length_take, hdl.out]; omega
          have hdg2 : Dgs ((dz d).take (m - k)) := fun x hx => hdd.out x (List.mem_of_mem_take hx)
          obtain ⟨c, hcd⟩ : ∃ c, (dz d)[m - 1 - k]'(by rw [hdl.out]; omega) = c := ⟨_, rfl⟩
          have hgt : ((mkS ((dz d).take (m - k)))[m - k - 1]'(by omega)).toNat = c + 48 := by
            rw [mkS_get _ hdg2 (m - k - 1) (by rw [List.length_take, hdl.out]; omega) (by omega)]
            simp only [List.getElem_take]
            rw [← hcd]
            congr 2
            omega
          have htk := hide (mkS_take ((dz d).take (m - k)) (m - k - 1))
          have hc9 : c ≤ 9 := by rw [← hcd]; exact hdd.out _ (List.getElem_mem _)
          obtain ⟨i, hi⟩ : ∃ i, m - k - 1 = i := ⟨_, rfl⟩
          have hi2 : ((m - k : Nat) : Int) - 1 = i := by omega
          by_cases hkT : k < T
          · have hc0 : c = 0 := by
              rw [← hcd]
              have := tz_zero (dz d) k (by rw [HT.out]; exact hkT) (by rw [hdl.out]; omega)
              simp only [hdl.out] at this
              exact this
            obtain ⟨S, hS⟩ : ∃ S, mkS ((dz d).take (m - k)) = S := ⟨_, rfl⟩
            rw [hi] at htk
            rw [hS] at hsz htk ⊢
            have his : i < S.size := by omega
            have his' : (i : Int) < S.size := by omega
            have hmk : i < m - k := by omega
            have hmk' : (i : Int) < ((m - k : Nat) : Int) := by omega
            have hg : S[i].toNat = 48 := by subst hS; simp only [← hi]; rw [hgt]; omega
            have hg2 : ((S[i].toNat : Int) == 48) = true := by simp; omega
            clear hS hgt hcd
            go_wp2
            have hes : S.extract 0 i = mkS ((dz d).take (m - (k + 1))) := by
              rw [htk.out, List.take_take]
              congr 2
              omega
            refine ⟨⟨k + 1, hkT, congrArg Value.string hes, congrArg (Value.int IntKind.i64) (by omega)⟩, ?_⟩
            rw [hes]
            show (mkS _).size < S.size
            rw [mkS_size, List.length_take, hdl.out, hsz]
            omega
          · have hke : k = T := by omega
            subst hke
            have hc0 : c ≠ 0 := by
              rw [← hcd]
              have := tz_ne (dz d) (by rw [HT.out, hdl.out]; exact hTm)
              simp only [hdl.out, HT.out] at this
              exact this
            have hcore : Hid (mkS ((dz d).take (m - k)) = mkS (core d)) := by show _ = _; rw [core, hdl.out, HT.out]
            have hclen : Hid ((core d).length = m - k) := by show _ = _; rw [core_len, hdl.out, HT.out]
            obtain ⟨fit, hfit⟩ : ∃ fit, decide ((core d).length ≤ 40 ∧ -400 ≤ x + k ∧ x + k ≤ 400) = fit := ⟨_, rfl⟩
            have hisN := hide (core_isN neg d (x + k) hlt.out Hd.out)
            rw [← hcore.out, hfit] at hisN
            have hform : Hid (formF neg d x = if fit then (neg, mkS ((dz d).take (m - k)), x + k, 0) else (false, ⟨#[]⟩, 0, 2)) := by
              show formF neg d x = _
              unfold formF
              rw [if_neg (by have := hlt.out; omega), HT.out, hcore.out]
              by_cases q : (core d).length ≤ 40 ∧ -400 ≤ x + (k : Int) ∧ x + (k : Int) ≤ 400
              · rw [if_pos q]; rw [decide_eq_true q] at hfit; rw [← hfit]; rfl
              · rw [if_neg q]; rw [decide_eq_false q] at hfit; rw [← hfit]; rfl
            obtain ⟨S, hS⟩ : ∃ S, mkS ((dz d).take (m - k)) = S := ⟨_, rfl⟩
            rw [hS] at hsz hisN hform ⊢
            have his : i < S.size := by omega
            have his' : (i : Int) < S.size := by omega
            have hmk : i < m - k := by omega
            have hmk' : (i : Int) < ((m - k : Nat) : Int) := by omega
            have hg : S[i].toNat = c + 48 := by subst hS; simp only [← hi]; exact hgt
            have hg2 : ((S[i].toNat : Int) == 48) = false := by simp; omega
            have hSl := hide (show S.size ≤ maxLen by unfold maxLen; omega)
            clear hS hgt hcd hfit
            cases fit
            · go_wp2_with fail
              go_fit (ris_any neg S (x + k) _ hSl.out)
              rw [hisN.out]
              rintro e w1 ⟨rfl, hB1⟩
              obtain ⟨q1, q2⟩ := bcell hB1
              have f0 := q2 w.heap.size 0 (by simp <;> omega)
              have f1 := q2 w.heap.size 1 (by simp <;> omega)
              have f2 := q2 w.heap.size 2 (by simp <;> omega)
              have c0 := q1 w.heap.size 0 (by simp <;> omega)
              have c1 := q1 w.heap.size 1 (by simp <;> omega)
              have c2 := q1 w.heap.size 2 (by simp <;> omega)
              simp [go_sem] at f0 f1 f2 c0 c1 c2
              clear q1 q2
              go_wp2
              refine bodyPost_ret (v := .tuple #[.agg #[.bool false, .string ⟨#[]⟩, .int .i64 0], .bool false]) (by simp [results, Tryd.results34, go_sem, c0, c1, c2]) rfl ⟨by rw [hform.out]; rfl, ?_⟩
              exact (((below_alloc (below_alloc hB1)).setCell (Nat.le_refl _) _).setCell (Nat.le_refl _) _).setCell (Nat.le_refl _) _
            · go_wp2_with fail
              go_fit (ris_any neg S (x + k) _ hSl.out)
              rw [hisN.out]
              rintro e w1 ⟨rfl, hB1⟩
              obtain ⟨q1, q2⟩ := bcell hB1
              have f0 := q2 w.heap.size 0 (by simp <;> omega)
              have f1 := q2 w.heap.size 1 (by simp <;> omega)
              have f2 := q2 w.heap.size 2 (by simp <;> omega)
              have c0 := q1 w.heap.size 0 (by simp <;> omega)
              have c1 := q1 w.heap.size 1 (by simp <;> omega)
              have c2 := q1 w.heap.size 2 (by simp <;> omega)
              have c3 := q1 (w.heap.size + 1) 0 (by simp <;> omega)
              have c4 := q1 (w.heap.size + 1) 1 (by simp <;> omega)
              have c5 := q1 (w.heap.size + 1) 2 (by simp <;> omega)
              simp [go_sem] at f0 f1 f2 c0 c1 c2 c3 c4 c5
              clear q1 q2
              go_wp2
              refine bodyPost_ret (v := .tuple #[.agg #[.bool neg, .string S, .int .i64 (x + k)], .bool true]) (by simp [results, Tryd.results34, go_sem, c0, c1, c2]) rfl ⟨by rw [hform.out]; rfl, ?_⟩
              exact (((below_alloc (below_alloc hB1)).setCell (Nat.le_refl _) _).setCell (Nat.le_refl _) _).setCell (Nat.le_refl _) _
end Go.Proofs.YtjpdlibncmldlaaDoor
