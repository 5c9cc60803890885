/- calamusref01's aligned: walked. -/
import Derived.Test.YtemlpjnophijfaaDoorQfMade
import Derived.Deep.RegionHeld3
namespace Go.Proofs.YtemlpjnophijfaaDoor
open Go.RowKit
set_option linter.unusedSimpArgs false
set_option linter.unusedVariables false
/-- What a number's digits and power come to. -/
theorem isN_digits {n : Bool} {s : ByteArray} {x : Int} (h : isN n s x = true) : ∃ l : List Nat, s = mkS l ∧ Dgs l ∧ l.length ≤ 40 ∧ -400 ≤ x ∧ x ≤ 400 ∧ mag s x = val l * 10 ^ (x + 400).toNat := by
  have key : allD (bl s) = true ∧ s.size ≤ 40 ∧ -400 ≤ x ∧ x ≤ 400 := by
    simp only [isN, Bool.or_eq_true] at h
    rcases h with h | h
    · obtain ⟨_, h2, h3⟩ := isZ_facts h
      have h4 := (isZ_mag h).2.1
      exact ⟨by rw [h2]; rfl, by omega, by omega, by omega⟩
    · obtain ⟨b1, b2, b3, b4, b5, _⟩ := isO_facts h
      exact ⟨b5, b2, b3, b4⟩
  exact ⟨dg s, (mkS_of s key.1).symm, dg_dgs s key.1, by rw [dg_length]; exact key.2.1, key.2.2.1, key.2.2.2, rfl⟩
theorem Dgs.zeros (n : Nat) : Dgs (List.replicate n 0) := fun d hd => by rw [List.eq_of_mem_replicate hd]; omega
theorem Dgs.both {a b : List Nat} (ha : Dgs a) (hb : Dgs b) : Dgs (a ++ b) := fun x hx => by
  rcases List.mem_append.1 hx with h | h
  · exact ha x h
  · exact hb x h
theorem zeros_0 (w : World) : Calls Tryd.prog 74 #[.int .i64 0] w fun e w' => e = .returned (.string ⟨#[]⟩) ∧ w' = w := zeros_any 0 w (by omega)
theorem cat_run (a b c : ByteArray) (w : World) (h : a ++ b = c) (hs : a.size + b.size ≤ 100000) : (Op.stringOp .add a b).run Tryd.prog w = .ok (.string c) w := by
  rw [← h]; exact run_string_add_sum w a b (by omega)
set_option maxHeartbeats 2000000 in
theorem aligned_any (na nb : Bool) (da db : List Nat) (xa xb : Int) (w : World) (hda : Dgs da) (hdb : Dgs db) (hla : da.length ≤ 40) (hlb : db.length ≤ 40) (h1 : -400 ≤ xa) (h2 : xa ≤ 400) (h3 : -400 ≤ xb) (h4 : xb ≤ 400) :
    Calls Tryd.prog 67 #[.agg #[.bool na, .string (mkS da), .int .i64 xa], .agg #[.bool nb, .string (mkS db), .int .i64 xb]] w fun e w' =>
      (∃ (P Q : List Nat) (x : Int) (m : Nat), e = .returned (.tuple #[.string (mkS P), .string (mkS Q), .int .i64 x]) ∧ Dgs P ∧ Dgs Q ∧ P.length = m ∧ Q.length = m ∧ m ≤ 2000 ∧ -400 ≤ x ∧ x ≤ 400 ∧ val P * 10 ^ (x + 400).toNat = val da * 10 ^ (xa + 400).toNat ∧ val Q * 10 ^ (x + 400).toNat = val db * 10 ^ (xb + 400).toNat) ∧ Below w.heap.size w w' := by
  obtain ⟨x, hx⟩ : ∃ x, min xa xb = x := ⟨_, rfl⟩
  obtain ⟨ga, hga⟩ : ∃ ga : Nat, xa - x = ga := ⟨(xa - x).toNat, by omega⟩
  obtain ⟨gb, hgb⟩ : ∃ gb : Nat, xb - x = gb := ⟨(xb - x).toNat, by omega⟩
  have hx1 : -400 ≤ x := by omega
  have hx2 : x ≤ 400 := by omega
  have hga' : ga ≤ 800 := by omega
  have hgb' : gb ≤ 800 := by omega
  obtain ⟨la, hLa⟩ : ∃ la, da.length = la := ⟨_, rfl⟩
  obtain ⟨lb, hLb⟩ : ∃ lb, db.length = lb := ⟨_, rfl⟩
  have sa : (mkS da).size = la := by rw [mkS_size]; exact hLa
  have sb : (mkS db).size = lb := by rw [mkS_size]; exact hLb
  have za : (mkS (List.replicate ga 0)).size = ga := by rw [mkS_size, List.length_replicate]
  have zb : (mkS (List.replicate gb 0)).size = gb := by rw [mkS_size, List.length_replicate]
  obtain ⟨P0, hP0⟩ : ∃ P0, P0 = da ++ List.replicate ga 0 := ⟨_, rfl⟩
  obtain ⟨Q0, hQ0⟩ : ∃ Q0, Q0 = db ++ List.replicate gb 0 := ⟨_, rfl⟩
  have aP : mkS da ++ mkS (List.replicate ga 0) = mkS P0 := by rw [mkS_app, hP0]
  have aQ : mkS db ++ mkS (List.replicate gb 0) = mkS Q0 := by rw [mkS_app, hQ0]
  have lP : (mkS P0).size = la + ga := by rw [mkS_size, hP0, List.length_append, List.length_replicate, hLa]
  have lQ : (mkS Q0).size = lb + gb := by rw [mkS_size, hQ0, List.length_append, List.length_replicate, hLb]
  obtain ⟨m, hm⟩ : ∃ m, max (la + ga) (lb + gb) = m := ⟨_, rfl⟩
  obtain ⟨ya, hya⟩ : ∃ ya : Nat, (m : Int) - ((la + ga : Nat) : Int) = ya := ⟨m - (la + ga), by omega⟩
  obtain ⟨yb, hyb⟩ : ∃ yb : Nat, (m : Int) - ((lb + gb : Nat) : Int) = yb := ⟨m - (lb + gb), by omega⟩
  have hm' : max (((la + ga : Nat)) : Int) ((lb + gb : Nat) : Int) = m := by omega
  have hml : m ≤ 2000 := by omega
  have ua : IntKind.i64.wrap (xa - x) = ga := by rw [hga, IntKind.wrap_i64]; omega
  have ub : IntKind.i64.wrap (xb - x) = gb := by rw [hgb, IntKind.wrap_i64]; omega
  have uga : IntKind.i64.wrap (ga : Int) = ga := by rw [IntKind.wrap_i64]; omega
  have ugb : IntKind.i64.wrap (gb : Int) = gb := by rw [IntKind.wrap_i64]; omega
  have vP := hide (show val (List.replicate ya 0 ++ P0) * 10 ^ (x + 400).toNat = val da * 10 ^ (xa + 400).toNat by
    rw [val_zero_left, hP0, val_zero_right, Nat.mul_assoc, ← Nat.pow_add]; congr 2; omega)
  have vQ := hide (show val (List.replicate yb 0 ++ Q0) * 10 ^ (x + 400).toNat = val db * 10 ^ (xb + 400).toNat by
    rw [val_zero_left, hQ0, val_zero_right, Nat.mul_assoc, ← Nat.pow_add]; congr 2; omega)
  have dP := hide (show Dgs (List.replicate ya 0 ++ P0) by rw [hP0]; exact (Dgs.zeros ya).both (hda.both (Dgs.zeros ga)))
  have dQ := hide (show Dgs (List.replicate yb 0 ++ Q0) by rw [hQ0]; exact (Dgs.zeros yb).both (hdb.both (Dgs.zeros gb)))
  have eP := hide (show (List.replicate ya 0 ++ P0).length = m by rw [List.length_append, List.length_replicate, ← mkS_size P0, lP]; omega)
  have eQ := hide (show (List.replicate yb 0 ++ Q0).length = m by rw [List.length_append, List.length_replicate, ← mkS_size Q0, lQ]; omega)
  have sya : (mkS (List.replicate ya 0)).size = ya := by rw [mkS_size, List.length_replicate]
  have syb : (mkS (List.replicate yb 0)).size = yb := by rw [mkS_size, List.length_replicate]
  have hya' : ya ≤ 2000 := by omega
  have hyb' : yb ≤ 2000 := by omega
  have cP := hide (mkS_app (List.replicate ya 0) P0)
  have cQ := hide (mkS_app (List.replicate yb 0) Q0)
  have hgai : Hid (la + ga ≤ 840 ∧ lb + gb ≤ 840) := ⟨by omega, by omega⟩
  have hlpa : la + ga ≤ 840 := hgai.out.1
  have hlqb : lb + gb ≤ 840 := hgai.out.2
  obtain ⟨lp, hlp⟩ : ∃ lp, la + ga = lp := ⟨_, rfl⟩
  obtain ⟨lq, hlq⟩ : ∃ lq, lb + gb = lq := ⟨_, rfl⟩
  rw [hlp] at lP hya hm' hlpa
  rw [hlq] at lQ hyb hm' hlqb
  have hla' : la ≤ 40 := by omega
  have hlb' : lb ≤ 40 := by omega
  clear hda hdb hLa hLb hP0 hQ0 hm hlp hlq hla hlb
  have u0 : IntKind.i64.wrap 0 = 0 := by decide
  by_cases hle : xa ≤ xb
  · have hxx : xa = x := by omega
    subst hxx
    have hg0 : 0 = ga := by omega
    subst hg0
    by_cases heq : lp = lq
    · subst heq
      have hmm : lp = m := by omega
      subst hmm
      have hy0 : 0 = ya := by omega
      subst hy0
      have hy1 : 0 = yb := by omega
      subst hy1
      have r1 : ∀ w, (Op.stringOp .add (mkS da) ⟨#[]⟩).run Tryd.prog w = .ok (.string (mkS P0)) w := fun w => cat_run _ _ _ w aP (by rw [sa]; show la + 0 ≤ _; omega)
      have r2 : ∀ w, (Op.stringOp .add (mkS db) (mkS (List.replicate gb 0))).run Tryd.prog w = .ok (.string (mkS Q0)) w := fun w => cat_run _ _ _ w aQ (by rw [sb]; rw [zb]; omega)
      have r3 : ∀ w, (Op.stringOp .add ⟨#[]⟩ (mkS P0)).run Tryd.prog w = .ok (.string (mkS (List.replicate 0 0 ++ P0))) w := fun w => cat_run _ _ _ w cP.out (by rw [lP]; show 0 + lp ≤ _; omega)
      have r4 : ∀ w, (Op.stringOp .add ⟨#[]⟩ (mkS Q0)).run Tryd.prog w = .ok (.string (mkS (List.replicate 0 0 ++ Q0))) w := fun w => cat_run _ _ _ w cQ.out (by rw [lQ]; show 0 + lp ≤ _; omega)
      obtain ⟨P, hP⟩ : ∃ P, List.replicate 0 0 ++ P0 = P := ⟨_, rfl⟩
      obtain ⟨Q, hQ⟩ : ∃ Q, List.replicate 0 0 ++ Q0 = Q := ⟨_, rfl⟩
      rw [hP] at r3 vP dP eP
      rw [hQ] at r4 vQ dQ eQ
      clear hm' hx aP aQ cP cQ hP hQ hga ua uga
      go_enter Tryd.func67, Tryd.ntmps67
      go_wp2
      go_region_held3 (fun w' => w'.cell? ⟨w.heap.size, 1, none⟩ = some (.string (mkS da)) ∧ w'.cell? ⟨w.heap.size, 2, none⟩ = some (.int .i64 xa) ∧ w'.cell? ⟨w.heap.size + 1, 1, none⟩ = some (.string (mkS db)) ∧ w'.cell? ⟨w.heap.size + 1, 2, none⟩ = some (.int .i64 xb)) (first | (simp [go_sem]; done) | go_keep) (first | (go_at_call 74; go_fit (zeros_0 _); rintro e w' ⟨rfl, rfl⟩))
      all_goals
        go_wp2
        go_region_held3 (fun w' => w'.cell? ⟨w.heap.size, 1, none⟩ = some (.string (mkS da)) ∧ w'.cell? ⟨w.heap.size, 2, none⟩ = some (.int .i64 xa) ∧ w'.cell? ⟨w.heap.size + 1, 1, none⟩ = some (.string (mkS db)) ∧ w'.cell? ⟨w.heap.size + 1, 2, none⟩ = some (.int .i64 xb)) (first | (simp [go_sem]; done) | go_keep) (first | (go_at_call 74; go_fit (zeros_any gb _ (by omega)); rintro e w' ⟨rfl, rfl⟩))
        all_goals
          go_wp2_with (first | (go_at_call 74; go_fit (zeros_0 _); rintro e w' ⟨rfl, rfl⟩))
          refine bodyPost_ret (v := .tuple #[.string (mkS P), .string (mkS Q), .int .i64 xa]) (by simp [results, Tryd.results67, go_sem]) rfl ⟨⟨P, Q, _, _, rfl, dP.out, dQ.out, eP.out, eQ.out, by omega, by omega, by omega, vP.out, vQ.out⟩, ?_⟩
          repeat (first | exact Below.refl _ _ | refine below_al ?_ | refine Below.drew ?_)
    by_cases hlm : lp < lq
    · have hmm : lq = m := by omega
      subst hmm
      have hy1 : 0 = yb := by omega
      subst hy1
      have i1 : (lp : Int) < lq := by omega
      have i2 : ¬ (lq : Int) ≤ lp := by omega
      have i3 : (lp : Int) ≤ lq := by omega
      have i4 : ¬ (lq : Int) < lp := by omega
      have r1 : ∀ w, (Op.stringOp .add (mkS da) ⟨#[]⟩).run Tryd.prog w = .ok (.string (mkS P0)) w := fun w => cat_run _ _ _ w aP (by rw [sa]; show la + 0 ≤ _; omega)
      have r2 : ∀ w, (Op.stringOp .add (mkS db) (mkS (List.replicate gb 0))).run Tryd.prog w = .ok (.string (mkS Q0)) w := fun w => cat_run _ _ _ w aQ (by rw [sb]; rw [zb]; omega)
      have r3 : ∀ w, (Op.stringOp .add (mkS (List.replicate ya 0)) (mkS P0)).run Tryd.prog w = .ok (.string (mkS (List.replicate ya 0 ++ P0))) w := fun w => cat_run _ _ _ w cP.out (by rw [lP]; rw [sya]; omega)
      have r4 : ∀ w, (Op.stringOp .add ⟨#[]⟩ (mkS Q0)).run Tryd.prog w = .ok (.string (mkS (List.replicate 0 0 ++ Q0))) w := fun w => cat_run _ _ _ w cQ.out (by rw [lQ]; show 0 + lq ≤ _; omega)
      obtain ⟨P, hP⟩ : ∃ P, List.replicate ya 0 ++ P0 = P := ⟨_, rfl⟩
      obtain ⟨Q, hQ⟩ : ∃ Q, List.replicate 0 0 ++ Q0 = Q := ⟨_, rfl⟩
      rw [hP] at r3 vP dP eP
      rw [hQ] at r4 vQ dQ eQ
      clear hm' hx aP aQ cP cQ hP hQ hga ua uga
      go_enter Tryd.func67, Tryd.ntmps67
      go_wp2
      go_region_held3 (fun w' => w'.cell? ⟨w.heap.size, 1, none⟩ = some (.string (mkS da)) ∧ w'.cell? ⟨w.heap.size, 2, none⟩ = some (.int .i64 xa) ∧ w'.cell? ⟨w.heap.size + 1, 1, none⟩ = some (.string (mkS db)) ∧ w'.cell? ⟨w.heap.size + 1, 2, none⟩ = some (.int .i64 xb)) (first | (simp [go_sem]; done) | go_keep) (first | (go_at_call 74; go_fit (zeros_0 _); rintro e w' ⟨rfl, rfl⟩))
      all_goals
        go_wp2
        go_region_held3 (fun w' => w'.cell? ⟨w.heap.size, 1, none⟩ = some (.string (mkS da)) ∧ w'.cell? ⟨w.heap.size, 2, none⟩ = some (.int .i64 xa) ∧ w'.cell? ⟨w.heap.size + 1, 1, none⟩ = some (.string (mkS db)) ∧ w'.cell? ⟨w.heap.size + 1, 2, none⟩ = some (.int .i64 xb)) (first | (simp [go_sem]; done) | go_keep) (first | (go_at_call 74; go_fit (zeros_any gb _ (by omega)); rintro e w' ⟨rfl, rfl⟩))
        all_goals
          go_wp2_with (first | (go_at_call 74; go_fit (zeros_0 _); rintro e w' ⟨rfl, rfl⟩) | (go_at_call 74; go_fit (zeros_any ya _ (by omega)); rintro e w' ⟨rfl, rfl⟩))
          refine bodyPost_ret (v := .tuple #[.string (mkS P), .string (mkS Q), .int .i64 xa]) (by simp [results, Tryd.results67, go_sem]) rfl ⟨⟨P, Q, _, _, rfl, dP.out, dQ.out, eP.out, eQ.out, by omega, by omega, by omega, vP.out, vQ.out⟩, ?_⟩
          repeat (first | exact Below.refl _ _ | refine below_al ?_ | refine Below.drew ?_)
    · have hmm : lp = m := by omega
      subst hmm
      have hy0 : 0 = ya := by omega
      subst hy0
      have i1 : (lq : Int) < lp := by omega
      have i2 : ¬ (lp : Int) ≤ lq := by omega
      have i3 : (lq : Int) ≤ lp := by omega
      have i4 : ¬ (lp : Int) < lq := by omega
      have r1 : ∀ w, (Op.stringOp .add (mkS da) ⟨#[]⟩).run Tryd.prog w = .ok (.string (mkS P0)) w := fun w => cat_run _ _ _ w aP (by rw [sa]; show la + 0 ≤ _; omega)
      have r2 : ∀ w, (Op.stringOp .add (mkS db) (mkS (List.replicate gb 0))).run Tryd.prog w = .ok (.string (mkS Q0)) w := fun w => cat_run _ _ _ w aQ (by rw [sb]; rw [zb]; omega)
      have r3 : ∀ w, (Op.stringOp .add ⟨#[]⟩ (mkS P0)).run Tryd.prog w = .ok (.string (mkS (List.replicate 0 0 ++ P0))) w := fun w => cat_run _ _ _ w cP.out (by rw [lP]; show 0 + lp ≤ _; omega)
      have r4 : ∀ w, (Op.stringOp .add (mkS (List.replicate yb 0)) (mkS Q0)).run Tryd.prog w = .ok (.string (mkS (List.replicate yb 0 ++ Q0))) w := fun w => cat_run _ _ _ w cQ.out (by rw [lQ]; rw [syb]; omega)
      obtain ⟨P, hP⟩ : ∃ P, List.replicate 0 0 ++ P0 = P := ⟨_, rfl⟩
      obtain ⟨Q, hQ⟩ : ∃ Q, List.replicate yb 0 ++ Q0 = Q := ⟨_, rfl⟩
      rw [hP] at r3 vP dP eP
      rw [hQ] at r4 vQ dQ eQ
      clear hm' hx aP aQ cP cQ hP hQ hga ua uga
      go_enter Tryd.func67, Tryd.ntmps67
      go_wp2
      go_region_held3 (fun w' => w'.cell? ⟨w.heap.size, 1, none⟩ = some (.string (mkS da)) ∧ w'.cell? ⟨w.heap.size, 2, none⟩ = some (.int .i64 xa) ∧ w'.cell? ⟨w.heap.size + 1, 1, none⟩ = some (.string (mkS db)) ∧ w'.cell? ⟨w.heap.size + 1, 2, none⟩ = some (.int .i64 xb)) (first | (simp [go_sem]; done) | go_keep) (first | (go_at_call 74; go_fit (zeros_0 _); rintro e w' ⟨rfl, rfl⟩))
      all_goals
        go_wp2
        go_region_held3 (fun w' => w'.cell? ⟨w.heap.size, 1, none⟩ = some (.string (mkS da)) ∧ w'.cell? ⟨w.heap.size, 2, none⟩ = some (.int .i64 xa) ∧ w'.cell? ⟨w.heap.size + 1, 1, none⟩ = some (.string (mkS db)) ∧ w'.cell? ⟨w.heap.size + 1, 2, none⟩ = some (.int .i64 xb)) (first | (simp [go_sem]; done) | go_keep) (first | (go_at_call 74; go_fit (zeros_any gb _ (by omega)); rintro e w' ⟨rfl, rfl⟩))
        all_goals
          go_wp2_with (first | (go_at_call 74; go_fit (zeros_0 _); rintro e w' ⟨rfl, rfl⟩) | (go_at_call 74; go_fit (zeros_any yb _ (by omega)); rintro e w' ⟨rfl, rfl⟩))
          refine bodyPost_ret (v := .tuple #[.string (mkS P), .string (mkS Q), .int .i64 xa]) (by simp [results, Tryd.results67, go_sem]) rfl ⟨⟨P, Q, _, _, rfl, dP.out, dQ.out, eP.out, eQ.out, by omega, by omega, by omega, vP.out, vQ.out⟩, ?_⟩
          repeat (first | exact Below.refl _ _ | refine below_al ?_ | refine Below.drew ?_)
  · have hxx : xb = x := by omega
    subst hxx
    have hg0 : 0 = gb := by omega
    subst hg0
    by_cases heq : lp = lq
    · subst heq
      have hmm : lp = m := by omega
      subst hmm
      have hy0 : 0 = ya := by omega
      subst hy0
      have hy1 : 0 = yb := by omega
      subst hy1
      have r1 : ∀ w, (Op.stringOp .add (mkS da) (mkS (List.replicate ga 0))).run Tryd.prog w = .ok (.string (mkS P0)) w := fun w => cat_run _ _ _ w aP (by rw [sa]; rw [za]; omega)
      have r2 : ∀ w, (Op.stringOp .add (mkS db) ⟨#[]⟩).run Tryd.prog w = .ok (.string (mkS Q0)) w := fun w => cat_run _ _ _ w aQ (by rw [sb]; show lb + 0 ≤ _; omega)
      have r3 : ∀ w, (Op.stringOp .add ⟨#[]⟩ (mkS P0)).run Tryd.prog w = .ok (.string (mkS (List.replicate 0 0 ++ P0))) w := fun w => cat_run _ _ _ w cP.out (by rw [lP]; show 0 + lp ≤ _; omega)
      have r4 : ∀ w, (Op.stringOp .add ⟨#[]⟩ (mkS Q0)).run Tryd.prog w = .ok (.string (mkS (List.replicate 0 0 ++ Q0))) w := fun w => cat_run _ _ _ w cQ.out (by rw [lQ]; show 0 + lp ≤ _; omega)
      obtain ⟨P, hP⟩ : ∃ P, List.replicate 0 0 ++ P0 = P := ⟨_, rfl⟩
      obtain ⟨Q, hQ⟩ : ∃ Q, List.replicate 0 0 ++ Q0 = Q := ⟨_, rfl⟩
      rw [hP] at r3 vP dP eP
      rw [hQ] at r4 vQ dQ eQ
      clear hm' hx aP aQ cP cQ hP hQ hgb ub ugb
      go_enter Tryd.func67, Tryd.ntmps67
      go_wp2
      go_region_held3 (fun w' => w'.cell? ⟨w.heap.size, 1, none⟩ = some (.string (mkS da)) ∧ w'.cell? ⟨w.heap.size, 2, none⟩ = some (.int .i64 xa) ∧ w'.cell? ⟨w.heap.size + 1, 1, none⟩ = some (.string (mkS db)) ∧ w'.cell? ⟨w.heap.size + 1, 2, none⟩ = some (.int .i64 xb)) (first | (simp [go_sem]; done) | go_keep) (first | (go_at_call 74; go_fit (zeros_any ga _ (by omega)); rintro e w' ⟨rfl, rfl⟩))
      all_goals
        go_wp2
        go_region_held3 (fun w' => w'.cell? ⟨w.heap.size, 1, none⟩ = some (.string (mkS da)) ∧ w'.cell? ⟨w.heap.size, 2, none⟩ = some (.int .i64 xa) ∧ w'.cell? ⟨w.heap.size + 1, 1, none⟩ = some (.string (mkS db)) ∧ w'.cell? ⟨w.heap.size + 1, 2, none⟩ = some (.int .i64 xb)) (first | (simp [go_sem]; done) | go_keep) (first | (go_at_call 74; go_fit (zeros_0 _); rintro e w' ⟨rfl, rfl⟩))
        all_goals
          go_wp2_with (first | (go_at_call 74; go_fit (zeros_0 _); rintro e w' ⟨rfl, rfl⟩))
          refine bodyPost_ret (v := .tuple #[.string (mkS P), .string (mkS Q), .int .i64 xb]) (by simp [results, Tryd.results67, go_sem]) rfl ⟨⟨P, Q, _, _, rfl, dP.out, dQ.out, eP.out, eQ.out, by omega, by omega, by omega, vP.out, vQ.out⟩, ?_⟩
          repeat (first | exact Below.refl _ _ | refine below_al ?_ | refine Below.drew ?_)
    by_cases hlm : lp < lq
    · have hmm : lq = m := by omega
      subst hmm
      have hy1 : 0 = yb := by omega
      subst hy1
      have i1 : (lp : Int) < lq := by omega
      have i2 : ¬ (lq : Int) ≤ lp := by omega
      have i3 : (lp : Int) ≤ lq := by omega
      have i4 : ¬ (lq : Int) < lp := by omega
      have r1 : ∀ w, (Op.stringOp .add (mkS da) (mkS (List.replicate ga 0))).run Tryd.prog w = .ok (.string (mkS P0)) w := fun w => cat_run _ _ _ w aP (by rw [sa]; rw [za]; omega)
      have r2 : ∀ w, (Op.stringOp .add (mkS db) ⟨#[]⟩).run Tryd.prog w = .ok (.string (mkS Q0)) w := fun w => cat_run _ _ _ w aQ (by rw [sb]; show lb + 0 ≤ _; omega)
      have r3 : ∀ w, (Op.stringOp .add (mkS (List.replicate ya 0)) (mkS P0)).run Tryd.prog w = .ok (.string (mkS (List.replicate ya 0 ++ P0))) w := fun w => cat_run _ _ _ w cP.out (by rw [lP]; rw [sya]; omega)
      have r4 : ∀ w, (Op.stringOp .add ⟨#[]⟩ (mkS Q0)).run Tryd.prog w = .ok (.string (mkS (List.replicate 0 0 ++ Q0))) w := fun w => cat_run _ _ _ w cQ.out (by rw [lQ]; show 0 + lq ≤ _; omega)
      obtain ⟨P, hP⟩ : ∃ P, List.replicate ya 0 ++ P0 = P := ⟨_, rfl⟩
      obtain ⟨Q, hQ⟩ : ∃ Q, List.replicate 0 0 ++ Q0 = Q := ⟨_, rfl⟩
      rw [hP] at r3 vP dP eP
      rw [hQ] at r4 vQ dQ eQ
      clear hm' hx aP aQ cP cQ hP hQ hgb ub ugb
      go_enter Tryd.func67, Tryd.ntmps67
      go_wp2
      go_region_held3 (fun w' => w'.cell? ⟨w.heap.size, 1, none⟩ = some (.string (mkS da)) ∧ w'.cell? ⟨w.heap.size, 2, none⟩ = some (.int .i64 xa) ∧ w'.cell? ⟨w.heap.size + 1, 1, none⟩ = some (.string (mkS db)) ∧ w'.cell? ⟨w.heap.size + 1, 2, none⟩ = some (.int .i64 xb)) (first | (simp [go_sem]; done) | go_keep) (first | (go_at_call 74; go_fit (zeros_any ga _ (by omega)); rintro e w' ⟨rfl, rfl⟩))
      all_goals
        go_wp2
        go_region_held3 (fun w' => w'.cell? ⟨w.heap.size, 1, none⟩ = some (.string (mkS da)) ∧ w'.cell? ⟨w.heap.size, 2, none⟩ = some (.int .i64 xa) ∧ w'.cell? ⟨w.heap.size + 1, 1, none⟩ = some (.string (mkS db)) ∧ w'.cell? ⟨w.heap.size + 1, 2, none⟩ = some (.int .i64 xb)) (first | (simp [go_sem]; done) | go_keep) (first | (go_at_call 74; go_fit (zeros_0 _); rintro e w' ⟨rfl, rfl⟩))
        all_goals
          go_wp2_with (first | (go_at_call 74; go_fit (zeros_0 _); rintro e w' ⟨rfl, rfl⟩) | (go_at_call 74; go_fit (zeros_any ya _ (by omega)); rintro e w' ⟨rfl, rfl⟩))
          refine bodyPost_ret (v := .tuple #[.string (mkS P), .string (mkS Q), .int .i64 xb]) (by simp [results, Tryd.results67, go_sem]) rfl ⟨⟨P, Q, _, _, rfl, dP.out, dQ.out, eP.out, eQ.out, by omega, by omega, by omega, vP.out, vQ.out⟩, ?_⟩
          repeat (first | exact Below.refl _ _ | refine below_al ?_ | refine Below.drew ?_)
    · have hmm : lp = m := by omega
      subst hmm
      have hy0 : 0 = ya := by omega
      subst hy0
      have i1 : (lq : Int) < lp := by omega
      have i2 : ¬ (lp : Int) ≤ lq := by omega
      have i3 : (lq : Int) ≤ lp := by omega
      have i4 : ¬ (lp : Int) < lq := by omega
      have r1 : ∀ w, (Op.stringOp .add (mkS da) (mkS (List.replicate ga 0))).run Tryd.prog w = .ok (.string (mkS P0)) w := fun w => cat_run _ _ _ w aP (by rw [sa]; rw [za]; omega)
      have r2 : ∀ w, (Op.stringOp .add (mkS db) ⟨#[]⟩).run Tryd.prog w = .ok (.string (mkS Q0)) w := fun w => cat_run _ _ _ w aQ (by rw [sb]; show lb + 0 ≤ _; omega)
      have r3 : ∀ w, (Op.stringOp .add ⟨#[]⟩ (mkS P0)).run Tryd.prog w = .ok (.string (mkS (List.replicate 0 0 ++ P0))) w := fun w => cat_run _ _ _ w cP.out (by rw [lP]; show 0 + lp ≤ _; omega)
      have r4 : ∀ w, (Op.stringOp .add (mkS (List.replicate yb 0)) (mkS Q0)).run Tryd.prog w = .ok (.string (mkS (List.replicate yb 0 ++ Q0))) w := fun w => cat_run _ _ _ w cQ.out (by rw [lQ]; rw [syb]; omega)
      obtain ⟨P, hP⟩ : ∃ P, List.replicate 0 0 ++ P0 = P := ⟨_, rfl⟩
      obtain ⟨Q, hQ⟩ : ∃ Q, List.replicate yb 0 ++ Q0 = Q := ⟨_, rfl⟩
      rw [hP] at r3 vP dP eP
      rw [hQ] at r4 vQ dQ eQ
      clear hm' hx aP aQ cP cQ hP hQ hgb ub ugb
      go_enter Tryd.func67, Tryd.ntmps67
      go_wp2
      go_region_held3 (fun w' => w'.cell? ⟨w.heap.size, 1, none⟩ = some (.string (mkS da)) ∧ w'.cell? ⟨w.heap.size, 2, none⟩ = some (.int .i64 xa) ∧ w'.cell? ⟨w.heap.size + 1, 1, none⟩ = some (.string (mkS db)) ∧ w'.cell? ⟨w.heap.size + 1, 2, none⟩ = some (.int .i64 xb)) (first | (simp [go_sem]; done) | go_keep) (first | (go_at_call 74; go_fit (zeros_any ga _ (by omega)); rintro e w' ⟨rfl, rfl⟩))
      all_goals
        go_wp2
        go_region_held3 (fun w' => w'.cell? ⟨w.heap.size, 1, none⟩ = some (.string (mkS da)) ∧ w'.cell? ⟨w.heap.size, 2, none⟩ = some (.int .i64 xa) ∧ w'.cell? ⟨w.heap.size + 1, 1, none⟩ = some (.string (mkS db)) ∧ w'.cell? ⟨w.heap.size + 1, 2, none⟩ = some (.int .i64 xb)) (first | (simp [go_sem]; done) | go_keep) (first | (go_at_call 74; go_fit (zeros_0 _); rintro e w' ⟨rfl, rfl⟩))
        all_goals
          go_wp2_with (first | (go_at_call 74; go_fit (zeros_0 _); rintro e w' ⟨rfl, rfl⟩) | (go_at_call 74; go_fit (zeros_any yb _ (by omega)); rintro e w' ⟨rfl, rfl⟩))
          refine bodyPost_ret (v := .tuple #[.string (mkS P), .string (mkS Q), .int .i64 xb]) (by simp [results, Tryd.results67, go_sem]) rfl ⟨⟨P, Q, _, _, rfl, dP.out, dQ.out, eP.out, eQ.out, by omega, by omega, by omega, vP.out, vQ.out⟩, ?_⟩
          repeat (first | exact Below.refl _ _ | refine below_al ?_ | refine Below.drew ?_)
end Go.Proofs.YtemlpjnophijfaaDoor
