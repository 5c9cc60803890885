/- form as a function on digits, and what it is worth: no program in sight, but for form's own contract at the end. -/
import Derived.Test.YtjidnceccpmheaaDoorNnSem
namespace Go.Proofs.YtjidnceccpmheaaDoor
open Go.RowKit
set_option linter.unusedSimpArgs false
set_option linter.unusedVariables false
/-- Without the noughts in front. -/
def dz (d : List Nat) : List Nat := d.drop (lz d)
/-- Without the noughts in front and behind. -/
def core (d : List Nat) : List Nat := (dz d).take ((dz d).length - tz (dz d))
/-- What form makes of digits: a number (or 0, 0, 0) and an error. -/
def formF (neg : Bool) (d : List Nat) (x : Int) : Bool × ByteArray × Int × Int :=
  if lz d = d.length then (false, ⟨#[48]⟩, 0, 0)
  else if (core d).length ≤ 40 ∧ -400 ≤ x + tz (dz d) ∧ x + tz (dz d) ≤ 400 then (neg, mkS (core d), x + tz (dz d), 0) else (false, ⟨#[]⟩, 0, 2)
/-- An answer of a number and an error. -/
def retF (r : Bool × ByteArray × Int × Int) : Ending := .returned (.tuple #[.agg #[.bool r.1, .string r.2.1, .int .i64 r.2.2.1], .int .i64 r.2.2.2])
theorem lz_le (d : List Nat) : lz d ≤ d.length := (List.takeWhile_prefix _).length_le
theorem tz_le (d : List Nat) : tz d ≤ d.length := by have := lz_le d.reverse; simpa [tz] using this
theorem form_any (neg : Bool) (b o n c : Nat) (d : List Nat) (x : Int) (w : World) (hd : d.length = n) (hn0 : 0 < n) (hn : n ≤ 100000) (hc : n ≤ c) (hc' : c ≤ 100000) (hb : b < w.heap.size)
    (hcell : ∀ i (h : i < d.length), w.cell? ⟨b, o + i, none⟩ = some (.int .u8 (d[i] : Nat))) (hx : -1000000 ≤ x) (hx' : x ≤ 1000000) (hdg : Dgs d) :
    Calls Tryd.prog 41 #[.bool neg, .slice (some ⟨b, o, none⟩) n c, .int .i64 x] w fun e w' => e = retF (formF neg d x) ∧ Below w.heap.size w w' := by
  by_cases hz : lz d = n
  · refine (form_zero neg b o n c d x w hd hn0 hn hc hc' hb hcell hz).mono ?_
    rintro e w' ⟨rfl, hB⟩
    refine ⟨?_, hB⟩
    unfold formF; rw [if_pos (by rw [hd]; exact hz)]; rfl
  · have := lz_le d
    have hl : (dz d).length = n - lz d := by rw [dz, List.length_drop, hd]
    refine (form_some neg b o n c d (dz d) (core d) (n - lz d) (tz (dz d)) x w hd hn hc hc' hb hcell (by omega) hx hx' rfl rfl rfl (by rw [core, hl]) hdg _ rfl).mono ?_
    rintro e w' ⟨rfl, hB⟩
    refine ⟨?_, hB⟩
    have e1 : formF neg d x = if (core d).length ≤ 40 ∧ -400 ≤ x + tz (dz d) ∧ x + tz (dz d) ≤ 400 then (neg, mkS (core d), x + tz (dz d), 0) else (false, ⟨#[]⟩, 0, 2) := by
      unfold formF; rw [if_neg (by rw [hd]; exact hz)]
    rw [e1]
    by_cases h : (core d).length ≤ 40 ∧ -400 ≤ x + tz (dz d) ∧ x + tz (dz d) ≤ 400
    · rw [if_pos h, decide_eq_true h]; rfl
    · rw [if_neg h, decide_eq_false h]; rfl
theorem take_lz (d : List Nat) : d.take (lz d) = List.replicate (lz d) 0 := by
  induction d with
  | nil => rfl
  | cons a d ih =>
    by_cases h : a = 0
    · subst h
      have : lz (0 :: d) = lz d + 1 := by simp [lz]
      rw [this, List.take_succ_cons, ih, List.replicate_succ]
    · have : lz (a :: d) = 0 := by simp [lz, h]
      rw [this]; rfl
theorem lz_split (d : List Nat) : d = List.replicate (lz d) 0 ++ dz d := by
  rw [← take_lz, dz, List.take_append_drop]
theorem tz_split (d : List Nat) : d = d.take (d.length - tz d) ++ List.replicate (tz d) 0 := by
  have h := take_lz d.reverse
  have := congrArg List.reverse h
  rw [List.reverse_take, List.reverse_reverse, List.length_reverse, List.reverse_replicate] at this
  conv => lhs; rw [← List.take_append_drop (d.length - tz d) d]
  rw [show d.drop (d.length - tz d) = List.replicate (tz d) 0 from this]
theorem core_split (d : List Nat) : d = List.replicate (lz d) 0 ++ (core d ++ List.replicate (tz (dz d)) 0) := by
  conv => lhs; rw [lz_split d]
  congr 1
  exact tz_split (dz d)
theorem core_val (d : List Nat) : val d = val (core d) * 10 ^ tz (dz d) := by
  conv => lhs; rw [core_split d]
  rw [val_zero_left, val_zero_right]
theorem lz_head (d : List Nat) (h : lz d < d.length) : ∀ c, (dz d).head? = some c → c ≠ 0 := by
  intro c hc
  have := lz_ne d h
  rw [dz, List.head?_drop, List.getElem?_eq_getElem h] at hc
  rw [← Option.some.inj hc]; exact this
theorem tz_lt (d : List Nat) (h : lz d < d.length) : tz (dz d) < (dz d).length := by
  have h1 := tz_le (dz d)
  have hl : 0 < (dz d).length := by rw [dz, List.length_drop]; omega
  by_cases e : tz (dz d) < (dz d).length
  · exact e
  · have h2 := tz_split (dz d)
    rw [show (dz d).length - tz (dz d) = 0 by omega, List.take_zero, List.nil_append] at h2
    have h3 : (dz d).head? = some 0 := by
      rw [h2, List.head?_replicate, if_neg (by omega)]
    exact absurd rfl (lz_head d h 0 h3)
theorem core_len (d : List Nat) : (core d).length = (dz d).length - tz (dz d) := by rw [core, List.length_take]; omega
theorem core_can (d : List Nat) (h : lz d < d.length) (hd : Dgs d) : Can (core d) ∧ core d ≠ [] := by
  have h1 := tz_lt d h
  have hl := core_len d
  have hne : core d ≠ [] := by intro e; rw [e] at hl; simp at hl; omega
  refine ⟨⟨?_, ?_, ?_⟩, hne⟩
  · intro x hx
    exact hd x (List.mem_of_mem_drop (List.mem_of_mem_take hx))
  · intro c hc
    refine lz_head d h c ?_
    rw [core, List.head?_take, if_neg (by omega)] at hc
    exact hc
  · intro c hc
    have h2 := lz_ne (dz d).reverse (by simpa [tz] using h1)
    rw [List.getElem_reverse] at h2
    rw [core, List.getLast?_take, if_neg (by omega)] at hc
    rw [List.getElem?_eq_getElem (by omega)] at hc
    simp only [Option.some_or] at hc
    have e : (dz d).length - tz (dz d) - 1 = (dz d).length - 1 - lz (dz d).reverse := by unfold tz; omega
    simp only [e] at hc
    rw [← Option.some.inj hc]; exact h2
theorem mkS_size (l : List Nat) : (mkS l).size = l.length := by simp [mkS, strOfNums_size]
theorem mkS_bl (l : List Nat) : bl (mkS l) = l.map fun v => UInt8.ofNat (v + 48) := by
  unfold bl mkS
  rw [strOfNums_data, List.map_map]
  apply List.map_congr_left
  intro v _
  show UInt8.ofNat ((v : Int) + 48).toNat = _
  congr 1
theorem ofNat_toNat (v : Nat) (h : v ≤ 9) : (UInt8.ofNat (v + 48)).toNat = v + 48 := by
  rw [UInt8.toNat_ofNat']; omega
theorem mkS_dg (l : List Nat) (h : Dgs l) : dg (mkS l) = l := by
  unfold dg
  rw [mkS_bl, List.map_map]
  conv => rhs; rw [← List.map_id l]
  apply List.map_congr_left
  intro v hv
  show (UInt8.ofNat (v + 48)).toNat - 48 = v
  rw [ofNat_toNat v (h v hv)]; omega
theorem mkS_all (l : List Nat) (h : Dgs l) : allD (bl (mkS l)) = true := by
  rw [mkS_bl]
  unfold allD
  rw [List.all_eq_true]
  intro c hc
  rw [List.mem_map] at hc
  obtain ⟨v, hv, rfl⟩ := hc
  rw [isDig_iff, ofNat_toNat v (h v hv)]
  have := h v hv
  omega
theorem mkS_isO (l : List Nat) (x : Int) (h : Can l) (hne : l ≠ []) (h40 : l.length ≤ 40) (hx : -400 ≤ x) (hx' : x ≤ 400) : isO (bl (mkS l)) x = true := by
  have hl : 1 ≤ l.length := List.length_pos_iff.2 hne
  simp only [isO, Bool.and_eq_true, decide_eq_true_eq, bne_iff_ne, ne_eq]
  refine ⟨⟨⟨⟨⟨?_, ?_⟩, hx, hx'⟩, mkS_all l h.dgs⟩, ?_⟩, ?_⟩
  · rw [bl_length, mkS_size]; exact hl
  · rw [bl_length, mkS_size]; exact h40
  · rw [mkS_bl, List.head?_map]
    intro e
    cases hh : l.head? with
    | none => rw [hh] at e; cases e
    | some v =>
      rw [hh] at e
      have e1 := Option.some.inj e
      have e2 := congrArg UInt8.toNat e1
      have hm : v ∈ l := List.mem_of_head? hh
      have h9 := h.dgs v hm
      rw [ofNat_toNat v h9] at e2
      have := h.first v hh
      have : (48 : UInt8).toNat = 48 := rfl
      omega
  · rw [mkS_bl, List.getLast?_map]
    intro e
    cases hh : l.getLast? with
    | none => rw [hh] at e; cases e
    | some v =>
      rw [hh] at e
      have e1 := Option.some.inj e
      have e2 := congrArg UInt8.toNat e1
      have hm : v ∈ l := List.mem_of_getLast? hh
      have h9 := h.dgs v hm
      rw [ofNat_toNat v h9] at e2
      have := h.last v hh
      have : (48 : UInt8).toNat = 48 := rfl
      omega
/-- r is the number that is worth Z, or there is none. -/
def IsSum (Z : Int) (r : Bool × ByteArray × Int × Int) : Prop :=
  (r.2.2.2 = 0 ∧ isN r.1 r.2.1 r.2.2.1 = true ∧ Zv r.1 r.2.1 r.2.2.1 = Z) ∨ (r = (false, ⟨#[]⟩, 0, 2) ∧ ∀ n s x, isN n s x = true → Zv n s x ≠ Z)
theorem isN_zero : isN false ⟨#[48]⟩ 0 = true := rfl
/-- What form makes is the number, or there is none. -/
theorem formF_sum (neg : Bool) (d : List Nat) (x : Int) (hd : Dgs d) (hx : -400 ≤ x) : IsSum (if neg then -((val d * 10 ^ (x + 400).toNat : Nat) : Int) else (val d * 10 ^ (x + 400).toNat : Nat)) (formF neg d x) := by
  unfold formF
  by_cases hz : lz d = d.length
  · rw [if_pos hz]
    left
    refine ⟨rfl, rfl, ?_⟩
    have h0 : val d = 0 := by
      rw [lz_split d, dz, hz, List.drop_length, List.append_nil, val_zeros]
    rw [h0]
    have := (isZ_mag (n := false) (s := ⟨#[48]⟩) (x := 0) rfl).2.2.2
    rw [this]
    simp
  · have hlt : lz d < d.length := by have := lz_le d; omega
    rw [if_neg hz]
    obtain ⟨hc, hne⟩ := core_can d hlt hd
    have hv := core_val d
    have hmag : val d * 10 ^ (x + 400).toNat = val (core d) * 10 ^ (x + tz (dz d) + 400).toNat := by
      rw [hv, Nat.mul_assoc, ← Nat.pow_add]
      congr 2
      omega
    by_cases hf : (core d).length ≤ 40 ∧ -400 ≤ x + tz (dz d) ∧ x + tz (dz d) ≤ 400
    · rw [if_pos hf]
      left
      have ho := mkS_isO (core d) (x + tz (dz d)) hc hne hf.1 hf.2.1 hf.2.2
      refine ⟨rfl, by simp [isN, ho], ?_⟩
      show Zv neg (mkS (core d)) (x + tz (dz d)) = _
      rw [hmag]
      unfold Zv mag
      rw [mkS_dg _ hc.dgs]
    · rw [if_neg hf]
      right
      refine ⟨rfl, fun n s y h e => hf ?_⟩
      have hp : 0 < val d * 10 ^ (x + 400).toNat := by
        rw [hmag]
        exact Nat.mul_pos (val_pos_of_last _ hne hc.last) (Nat.pow_pos (by decide))
      simp only [isN, Bool.or_eq_true] at h
      rcases h with h | h
      · have := (isZ_mag h).2.2.2
        rw [this] at e
        split at e <;> omega
      · obtain ⟨b1, b2, b3, b4, b5, b6, b7⟩ := isO_facts h
        have hm : mag s y = val d * 10 ^ (x + 400).toNat := by
          have := isO_pos h
          unfold Zv at e
          split at e <;> split at e <;> omega
        rw [hmag] at hm
        obtain ⟨e1, e2⟩ := can_inj b6 hc b7 hne hm
        rw [← e1, dg_length]
        refine ⟨b2, ?_⟩
        omega
theorem isSum_unique {Z : Int} {r r' : Bool × ByteArray × Int × Int} (h : IsSum Z r) (h' : IsSum Z r') : r = r' := by
  obtain ⟨n, s, x, e⟩ := r
  obtain ⟨n', s', x', e'⟩ := r'
  rcases h with ⟨h1, h2, h3⟩ | ⟨h1, h2⟩ <;> rcases h' with ⟨g1, g2, g3⟩ | ⟨g1, g2⟩
  · obtain ⟨r1, r2, r3⟩ := num_inj h2 g2 (h3.trans g3.symm)
    simp only at h1 g1 r1 r2 r3
    subst h1 g1 r1 r2 r3
    rfl
  · exact absurd h3 (g2 _ _ _ h2)
  · exact absurd g3 (h2 _ _ _ g2)
  · rw [h1, g1]
end Go.Proofs.YtjidnceccpmheaaDoor
