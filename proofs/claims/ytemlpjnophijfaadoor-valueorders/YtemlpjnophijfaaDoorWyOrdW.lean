/- The order of values is one: for every depth. -/
import Derived.Test.YtemlpjnophijfaaDoorWyOrdV
namespace Go.Proofs.YtemlpjnophijfaaDoor
set_option linter.unusedVariables false
set_option linter.unusedSimpArgs false
theorem zip_inj {α β : Type} {a c : List α} {b d : List β} (h1 : a.length = b.length) (h2 : c.length = d.length) (h : a.zip b = c.zip d) : a = c ∧ b = d := by
  have e1 := congrArg (List.map Prod.fst) h
  have e2 := congrArg (List.map Prod.snd) h
  rw [List.map_fst_zip (by omega), List.map_fst_zip (by omega)] at e1
  rw [List.map_snd_zip (by omega), List.map_snd_zip (by omega)] at e2
  exact ⟨e1, e2⟩
theorem ord_v : ∀ n, Ord3 (IsV n) (cmpV n)
  | 0 => ⟨fun _ _ => Or.inr (Or.inl rfl), fun a => Empty.elim a, fun a => Empty.elim a, fun a => Empty.elim a⟩
  | n + 1 => by
    have o := ord_v n
    have op := ord_pair o ord_b
    have dv := dV_val o.val
    refine ord_first (fun x : VT (n + 1) => x.1.kind) (dV n) (fun k => ?_)
    by_cases hk : 1 ≤ k ∧ k ≤ 9
    · rcases (show k = 1 ∨ k = 2 ∨ k = 3 ∨ k = 4 ∨ k = 5 ∨ k = 6 ∨ k = 7 ∨ k = 8 ∨ k = 9 by omega) with rfl | rfl | rfl | rfl | rfl | rfl | rfl | rfl | rfl
      · refine ord_map (P := fun a : VT (n + 1) => IsV (n + 1) a ∧ a.1.kind = 1) (Q := fun _ => True) ord_unit (fun _ => ()) (fun _ _ => trivial) (fun a b ha hb h => ?_) (dV n) (fun a b ha hb => ?_) dv
        · obtain ⟨⟨ak, af, an, ad, ae, ab, at', am⟩, al⟩ := a
          obtain ⟨⟨bk, bf, bn, bd, be, bb, bt, bm⟩, bl'⟩ := b
          obtain rfl : ak = 1 := ha.2
          obtain rfl : bk = 1 := hb.2
          have e := bare_eq ha.1.1 hb.1.1 rfl
          have la : (7 : Int) ≤ 1 ∨ al = [] := ha.1.1.2.2.2
          have lb : (7 : Int) ≤ 1 ∨ bl' = [] := hb.1.1.2.2.2
          simp [strip] at e h la lb
          first | (simp_all; done) | (simp_all; rfl)
        · unfold dV
          have hk1 : a.1.kind = 1 := ha.2
          rw [hk1]
          rw [if_neg (by decide), if_neg (by decide), if_neg (by decide), if_neg (by decide), if_neg (by decide), if_neg (by decide), if_neg (by decide)]
      · refine ord_map (P := fun a : VT (n + 1) => IsV (n + 1) a ∧ a.1.kind = 2) (Q := fun _ => True) ord_flag (fun x => x.1.flag) (fun _ _ => trivial) (fun a b ha hb h => ?_) (dV n) (fun a b ha hb => ?_) dv
        · obtain ⟨⟨ak, af, an, ad, ae, ab, at', am⟩, al⟩ := a
          obtain ⟨⟨bk, bf, bn, bd, be, bb, bt, bm⟩, bl'⟩ := b
          obtain rfl : ak = 2 := ha.2
          obtain rfl : bk = 2 := hb.2
          have e := bare_eq ha.1.1 hb.1.1 rfl
          have la : (7 : Int) ≤ 2 ∨ al = [] := ha.1.1.2.2.2
          have lb : (7 : Int) ≤ 2 ∨ bl' = [] := hb.1.1.2.2.2
          simp [strip] at e h la lb
          first | (simp_all; done) | (simp_all; rfl)
        · unfold dV
          have hk1 : a.1.kind = 2 := ha.2
          rw [hk1]
          rw [if_pos (by decide)]
      · refine ord_map (P := fun a : VT (n + 1) => IsV (n + 1) a ∧ a.1.kind = 3) (Q := fun t => isN t.1 t.2.1 t.2.2 = true) ord_num (fun x => (x.1.neg, x.1.dig, x.1.exp)) (fun a ha => ha.1.2.1.1 ha.2) (fun a b ha hb h => ?_) (dV n) (fun a b ha hb => ?_) dv
        · obtain ⟨⟨ak, af, an, ad, ae, ab, at', am⟩, al⟩ := a
          obtain ⟨⟨bk, bf, bn, bd, be, bb, bt, bm⟩, bl'⟩ := b
          obtain rfl : ak = 3 := ha.2
          obtain rfl : bk = 3 := hb.2
          have e := bare_eq ha.1.1 hb.1.1 rfl
          have la : (7 : Int) ≤ 3 ∨ al = [] := ha.1.1.2.2.2
          have lb : (7 : Int) ≤ 3 ∨ bl' = [] := hb.1.1.2.2.2
          simp [strip] at e h la lb
          first | (simp_all; done) | (simp_all; rfl)
        · unfold dV
          have hk1 : a.1.kind = 3 := ha.2
          rw [hk1]
          rw [if_neg (by decide), if_pos (by decide)]
          rfl
      · refine ord_map (P := fun a : VT (n + 1) => IsV (n + 1) a ∧ a.1.kind = 4) (Q := fun _ => True) ord_int (fun x => x.1.bits) (fun _ _ => trivial) (fun a b ha hb h => ?_) (dV n) (fun a b ha hb => ?_) dv
        · obtain ⟨⟨ak, af, an, ad, ae, ab, at', am⟩, al⟩ := a
          obtain ⟨⟨bk, bf, bn, bd, be, bb, bt, bm⟩, bl'⟩ := b
          obtain rfl : ak = 4 := ha.2
          obtain rfl : bk = 4 := hb.2
          have e := bare_eq ha.1.1 hb.1.1 rfl
          have la : (7 : Int) ≤ 4 ∨ al = [] := ha.1.1.2.2.2
          have lb : (7 : Int) ≤ 4 ∨ bl' = [] := hb.1.1.2.2.2
          simp [strip] at e h la lb
          first | (simp_all; done) | (simp_all; rfl)
        · unfold dV
          have hk1 : a.1.kind = 4 := ha.2
          rw [hk1]
          rw [if_neg (by decide), if_neg (by decide), if_pos (by decide)]
      · refine ord_map (P := fun a : VT (n + 1) => IsV (n + 1) a ∧ a.1.kind = 5) (Q := fun _ => True) ord_b (fun x => x.1.text) (fun _ _ => trivial) (fun a b ha hb h => ?_) (dV n) (fun a b ha hb => ?_) dv
        · obtain ⟨⟨ak, af, an, ad, ae, ab, at', am⟩, al⟩ := a
          obtain ⟨⟨bk, bf, bn, bd, be, bb, bt, bm⟩, bl'⟩ := b
          obtain rfl : ak = 5 := ha.2
          obtain rfl : bk = 5 := hb.2
          have e := bare_eq ha.1.1 hb.1.1 rfl
          have la : (7 : Int) ≤ 5 ∨ al = [] := ha.1.1.2.2.2
          have lb : (7 : Int) ≤ 5 ∨ bl' = [] := hb.1.1.2.2.2
          simp [strip] at e h la lb
          first | (simp_all; done) | (simp_all; rfl)
        · unfold dV
          have hk1 : a.1.kind = 5 := ha.2
          rw [hk1]
          rw [if_neg (by decide), if_neg (by decide), if_neg (by decide), if_pos (by decide)]
      · refine ord_map (P := fun a : VT (n + 1) => IsV (n + 1) a ∧ a.1.kind = 6) (Q := fun _ => True) ord_b (fun x => x.1.text) (fun _ _ => trivial) (fun a b ha hb h => ?_) (dV n) (fun a b ha hb => ?_) dv
        · obtain ⟨⟨ak, af, an, ad, ae, ab, at', am⟩, al⟩ := a
          obtain ⟨⟨bk, bf, bn, bd, be, bb, bt, bm⟩, bl'⟩ := b
          obtain rfl : ak = 6 := ha.2
          obtain rfl : bk = 6 := hb.2
          have e := bare_eq ha.1.1 hb.1.1 rfl
          have la : (7 : Int) ≤ 6 ∨ al = [] := ha.1.1.2.2.2
          have lb : (7 : Int) ≤ 6 ∨ bl' = [] := hb.1.1.2.2.2
          simp [strip] at e h la lb
          first | (simp_all; done) | (simp_all; rfl)
        · unfold dV
          have hk1 : a.1.kind = 6 := ha.2
          rw [hk1]
          rw [if_neg (by decide), if_neg (by decide), if_neg (by decide), if_pos (by decide)]
      · refine ord_map (P := fun a : VT (n + 1) => IsV (n + 1) a ∧ a.1.kind = 7) (Q := fun l => ∀ a ∈ l, IsV n a) (ord_lex o) (fun x => x.2) (fun a ha => ha.1.2.2) (fun a b ha hb h => ?_) (dV n) (fun a b ha hb => ?_) dv
        · obtain ⟨⟨ak, af, an, ad, ae, ab, at', am⟩, al⟩ := a
          obtain ⟨⟨bk, bf, bn, bd, be, bb, bt, bm⟩, bl'⟩ := b
          obtain rfl : ak = 7 := ha.2
          obtain rfl : bk = 7 := hb.2
          have e := bare_eq ha.1.1 hb.1.1 rfl
          have la : (7 : Int) ≤ 7 ∨ al = [] := ha.1.1.2.2.2
          have lb : (7 : Int) ≤ 7 ∨ bl' = [] := hb.1.1.2.2.2
          simp [strip] at e h la lb
          first | (simp_all; done) | (simp_all; rfl)
        · unfold dV
          have hk1 : a.1.kind = 7 := ha.2
          rw [hk1]
          rw [if_neg (by decide), if_neg (by decide), if_neg (by decide), if_neg (by decide), if_pos (by decide)]
      · refine ord_map (P := fun a : VT (n + 1) => IsV (n + 1) a ∧ a.1.kind = 8) (Q := fun l => ∀ a ∈ l, IsV n a.2) (ord_lex op) (fun x => x.1.names.zip x.2) (fun a ha p hp => ha.1.2.2 _ (List.of_mem_zip hp).2) (fun a b ha hb h => ?_) (dV n) (fun a b ha hb => ?_) dv
        · obtain ⟨⟨ak, af, an, ad, ae, ab, at', am⟩, al⟩ := a
          obtain ⟨⟨bk, bf, bn, bd, be, bb, bt, bm⟩, bl'⟩ := b
          obtain rfl : ak = 8 := ha.2
          obtain rfl : bk = 8 := hb.2
          have e := bare_eq ha.1.1 hb.1.1 rfl
          have la : (7 : Int) ≤ 8 ∨ al = [] := ha.1.1.2.2.2
          have lb : (7 : Int) ≤ 8 ∨ bl' = [] := hb.1.1.2.2.2
          have na : am.length = al.length := (ha.1.2.1.2.2.1 rfl).1
          have nb : bm.length = bl'.length := (hb.1.2.1.2.2.1 rfl).1
          obtain ⟨rfl, rfl⟩ := zip_inj na nb h
          simp [strip] at e h la lb
          first | (simp_all; done) | (simp_all; rfl)
        · unfold dV
          have hk1 : a.1.kind = 8 := ha.2
          rw [hk1]
          rw [if_neg (by decide), if_neg (by decide), if_neg (by decide), if_neg (by decide), if_neg (by decide), if_pos (by decide)]
      · refine ord_map (P := fun a : VT (n + 1) => IsV (n + 1) a ∧ a.1.kind = 9) (Q := fun l => ∀ a ∈ l, IsV n a.2) (ord_lex op) (fun x => x.2.map fun a => (x.1.text, a)) (fun a ha p hp => by obtain ⟨q, hq, rfl⟩ := List.mem_map.1 hp; exact ha.1.2.2 q hq) (fun a b ha hb h => ?_) (dV n) (fun a b ha hb => ?_) dv
        · obtain ⟨⟨ak, af, an, ad, ae, ab, at', am⟩, al⟩ := a
          obtain ⟨⟨bk, bf, bn, bd, be, bb, bt, bm⟩, bl'⟩ := b
          obtain rfl : ak = 9 := ha.2
          obtain rfl : bk = 9 := hb.2
          have e := bare_eq ha.1.1 hb.1.1 rfl
          have la : (7 : Int) ≤ 9 ∨ al = [] := ha.1.1.2.2.2
          have lb : (7 : Int) ≤ 9 ∨ bl' = [] := hb.1.1.2.2.2
          have na : al.length = 1 := (ha.1.2.1.2.2.2 rfl).2
          have nb : bl'.length = 1 := (hb.1.2.1.2.2.2 rfl).2
          obtain ⟨p, rfl⟩ := List.length_eq_one_iff.1 na
          obtain ⟨q, rfl⟩ := List.length_eq_one_iff.1 nb
          simp [strip] at e h la lb
          first | (simp_all; done) | (simp_all; rfl)
        · unfold dV
          have hk1 : a.1.kind = 9 := ha.2
          rw [hk1]
          rw [if_neg (by decide), if_neg (by decide), if_neg (by decide), if_neg (by decide), if_neg (by decide), if_neg (by decide), if_pos (by decide)]
    · refine ⟨dv, fun a b ha hb => ?_, fun a b ha hb => ?_, fun a b d ha hb hd _ _ => ?_⟩
      all_goals
        exfalso
        apply hk
        have h1 := ha.1.1.1
        have h2 := ha.1.1.2.1
        have h3 : a.1.kind = k := ha.2
        exact ⟨by omega, by omega⟩
end Go.Proofs.YtemlpjnophijfaaDoor
