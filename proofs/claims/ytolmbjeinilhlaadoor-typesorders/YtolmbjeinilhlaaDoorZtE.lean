/- Merged by program: NaPlain, NbCount, NcComp, NdCmp. -/
import Derived.WalkKit
import Derived.Test.YtolmbjeinilhlaaDoorRows
import Derived.WalkSpells
import Derived.WalkLawsBesides
import Derived.Deep.RegionWith
import Derived.Deep.RegionHeld3
/- Plain facts on bytes, digits and numbers: no program in sight. -/
namespace Go.Proofs.YtolmbjeinilhlaaDoor
open Go.RowKit
theorem ret_int {k : IntKind} {a b : Int} (h : a = b) : Ending.returned (.int k a) = .returned (.int k b) := by rw [h]
theorem hide {p : Prop} (h : p) : Hid p := h
theorem below_alloc {w w1 : World} {o : Obj} (h : Below (w.alloc o).heap.size (w.alloc o) w1) : Below w.heap.size w w1 :=
  ((Below.refl _ w).alloc (Nat.le_refl _) o).trans (h.mono (by simp))
theorem below_then {w w1 w2 : World} (h : Below w.heap.size w w1) (h2 : Below w1.heap.size w1 w2) : Below w.heap.size w w2 := h.trans (h2.mono h.size)
theorem below_al {w w1 : World} {o : Obj} (h : Below w.heap.size w w1) : Below w.heap.size w (w1.alloc o) := h.alloc h.size o
theorem below_via {w w1 w2 : World} (h2 : Below w1.heap.size w1 w2) (h : Below w.heap.size w w1) : Below w.heap.size w w2 := below_then h h2
theorem size_drew (w : World) : w.drew.heap.size = w.heap.size := rfl
theorem size_al2 (w : World) (o o' : Obj) : w.heap.size < ((w.alloc o).alloc o').drew.heap.size ∧ w.heap.size + 1 < ((w.alloc o).alloc o').drew.heap.size := by
  show w.heap.size < ((w.heap.push o).push o').size ∧ w.heap.size + 1 < ((w.heap.push o).push o').size
  simp; omega
theorem bcell {W w1 : World} (hb : Below W.heap.size W w1) : (∀ b o, b < W.heap.size → w1.cell? ⟨b, o, none⟩ = W.cell? ⟨b, o, none⟩) ∧ (∀ b o, b < W.heap.size → w1.frozen? ⟨b, o, none⟩ = W.frozen? ⟨b, o, none⟩) :=
  ⟨fun b o h => hb.cell (p := ⟨b, o, none⟩) h, fun b o h => hb.frozen (p := ⟨b, o, none⟩) h⟩
theorem ret_bool {a b : Bool} (h : a = b) : Ending.returned (.bool a) = .returned (.bool b) := by rw [h]
/-- A text's bytes. -/
def bl (s : ByteArray) : List UInt8 := s.data.toList
theorem bl_length (s : ByteArray) : (bl s).length = s.size := by show s.data.toList.length = s.data.size; simp
theorem bl_get (s : ByteArray) (k : Nat) (h : k < s.size) : (bl s)[k]'(by rw [bl_length]; exact h) = s[k] := by
  simp [bl]; rfl
/-- A digit's byte. -/
def isDig (c : UInt8) : Bool := 48 ≤ c && c ≤ 57
theorem isDig_iff (c : UInt8) : isDig c = true ↔ 48 ≤ (c.toNat : Int) ∧ (c.toNat : Int) ≤ 57 := by
  simp [isDig, UInt8.le_iff_toNat_le]; omega
/-- How many digits a row of bytes begins with. -/
def cntD (l : List UInt8) : Nat := (l.takeWhile isDig).length
theorem cntD_le (l : List UInt8) : cntD l ≤ l.length := by
  unfold cntD
  induction l with
  | nil => simp
  | cons a l ih => by_cases h : isDig a = true <;> simp [h] <;> omega
theorem takeWhile_of {α : Type} (p : α → Bool) : ∀ (l : List α) (k : Nat), k ≤ l.length → (∀ j (h : j < l.length), j < k → p l[j] = true) → (∀ h : k < l.length, p l[k] = false) → (l.takeWhile p).length = k
  | [], k, hk, _, _ => by simp at hk; simp [hk]
  | a :: l, 0, _, _, h => by have := h (by simp); simp at this; simp [this]
  | a :: l, k + 1, hk, h1, h2 => by
    have ha := h1 0 (by simp) (by omega)
    simp at ha
    simp only [List.takeWhile_cons, ha, if_true, List.length_cons]
    rw [takeWhile_of p l k (by simpa using hk) (fun j h hj => by have := h1 (j + 1) (by simpa using h) (by omega); simpa using this) (fun h => by have := h2 (by simpa using h); simpa using this)]
theorem cntD_of (s : ByteArray) (k : Nat) (hk : k ≤ s.size) (h1 : ∀ j (_ : j < k) (h : j < s.size), isDig s[j] = true) (h2 : ∀ h : k < s.size, isDig s[k] = false) : cntD (bl s) = k := by
  refine takeWhile_of isDig (bl s) k (by rw [bl_length]; exact hk) (fun j h hj => ?_) (fun h => ?_)
  · rw [bl_length] at h; rw [bl_get s j h]; exact h1 j hj h
  · rw [bl_length] at h; rw [bl_get s k h]; exact h2 h
/-- Are all bytes digits? -/
def allD (l : List UInt8) : Bool := l.all isDig
theorem cntD_all (l : List UInt8) : (cntD l = l.length) ↔ allD l = true := by
  unfold cntD allD
  induction l with
  | nil => simp
  | cons a l ih =>
    have hle := cntD_le l
    unfold cntD at hle
    by_cases h : isDig a = true
    · simp [h] ; simpa using ih
    · simp [h]
/-- Is it the number 0? -/
def isZ (neg : Bool) (s : ByteArray) (x : Int) : Bool := !neg && bl s == [48] && x == 0
/-- Is it a number other than 0? -/
def isO (l : List UInt8) (x : Int) : Bool := decide (1 ≤ l.length) && decide (l.length ≤ 40) && decide (-400 ≤ x ∧ x ≤ 400) && allD l && l.head? != some 48 && l.getLast? != some 48
/-- Is it a number? -/
def isN (neg : Bool) (s : ByteArray) (x : Int) : Bool := isZ neg s x || isO (bl s) x
theorem head_bl (s : ByteArray) (h : 0 < s.size) : (bl s).head? = some s[0] := by
  rw [List.head?_eq_getElem?, List.getElem?_eq_getElem (by rw [bl_length]; exact h), bl_get s 0 h]
theorem last_bl (s : ByteArray) (h : 0 < s.size) : (bl s).getLast? = some s[s.size - 1] := by
  rw [List.getLast?_eq_getElem?, bl_length, List.getElem?_eq_getElem (by rw [bl_length]; omega), bl_get s _ (by omega)]
theorem u8_eq (c d : UInt8) : (c.toNat : Int) = (d.toNat : Int) ↔ c = d := by
  constructor
  · intro h; exact UInt8.toNat_inj.1 (by omega)
  · intro h; rw [h]
theorem bl_toList (s : ByteArray) : s.toList = bl s := ByteArray.toList_eq s
theorem bne48 (c : UInt8) : ((c.toNat : Int) != 48) = (c != 48) := by
  rw [Bool.eq_iff_iff]; simp only [bne_iff_ne, ne_eq]
  exact not_congr (u8_eq c 48)
theorem isO_at (s : ByteArray) (x : Int) (h : 0 < s.size) : isO (bl s) x = (decide (s.size ≤ 40) && decide (-400 ≤ x ∧ x ≤ 400) && allD (bl s) && s[0] != 48 && s[s.size - 1] != 48) := by
  unfold isO
  rw [head_bl s h, last_bl s h, bl_length]
  have : decide (1 ≤ s.size) = true := decide_eq_true h
  rw [this, Bool.true_and]
  rfl
end Go.Proofs.YtolmbjeinilhlaaDoor
/- num.countDigits, areDigits, expFits: walked. -/
namespace Go.Proofs.YtolmbjeinilhlaaDoor
open Go.RowKit
set_option linter.unusedSimpArgs false
set_option linter.unusedVariables false
set_option maxHeartbeats 400000 in
theorem countDigits_any (s : ByteArray) (w : World) (hs : s.size ≤ maxLen) :
    Calls Tryd.prog 104 #[.string s] w fun e w' => e = .returned (.int .i64 (cntD (bl s))) ∧ w' = w := by
  unfold maxLen at hs
  go_enter Tryd.func104, Tryd.ntmps104
  go_wp2
  go_loop [3] (fun i => ∃ k : Nat, k ≤ s.size ∧ i = .int .i64 k ∧ ∀ j (hj : j < k) (h : j < s.size), isDig s[j] = true) (fun i => s.size - (intOf i).toNat)
  case atStart => exact ⟨0, Nat.zero_le _, rfl, by omega⟩
  case round =>
    obtain ⟨k, hk, rfl, hall⟩ := hrel
    by_cases hlt : k < s.size
    · by_cases hd : isDig s[k] = true
      · have hd' := (isDig_iff _).1 hd
        have h1 := hd'.1
        have h2 := hd'.2
        have HH : Hid (isDig s[k] = true) := hd
        clear hd hd'
        go_wp2
        go_round
        case rel => exact ⟨k + 1, by omega, by go_num, fun j hj h => by
          by_cases e : j = k
          · subst e; exact HH.out
          · exact hall j (by omega) h⟩
        case measure => simp [intOf]; omega
      · have HH : Hid (isDig s[k] = false) := (Bool.not_eq_true _).mp hd
        have hd' : ¬ (48 ≤ (s[k].toNat : Int) ∧ (s[k].toNat : Int) ≤ 57) := fun h => hd ((isDig_iff _).2 h)
        clear hd
        go_wp2
        all_goals
          go_ret
          exact ⟨ret_int (by rw [cntD_of s k hk hall (fun _ => HH.out)]), rfl⟩
    · go_wp2
      go_ret
      exact ⟨ret_int (by rw [cntD_of s k hk hall (fun h => absurd h hlt)]), rfl⟩

theorem areDigits_any (s : ByteArray) (w : World) (hs : s.size ≤ maxLen) :
    Calls Tryd.prog 96 #[.string s] w fun e w' => e = .returned (.bool (allD (bl s))) ∧ w' = w := by
  have hc : ((cntD (bl s) : Int) == (s.size : Int)) = allD (bl s) := by
    rw [Bool.eq_iff_iff, ← cntD_all, bl_length]; simp; omega
  go_enter Tryd.func96, Tryd.ntmps96
  go_wp2_with (go_at_call 104; refine (countDigits_any _ _ hs).mono ?_; rintro e w' ⟨rfl, rfl⟩)
  go_ret
  exact ⟨rfl, rfl⟩

theorem expFits_any (x : Int) (w : World) :
    Calls Tryd.prog 95 #[.int .i64 x] w fun e w' => e = .returned (.bool (decide (-400 ≤ x ∧ x ≤ 400))) ∧ w' = w := by
  by_cases h : -400 ≤ x
  · go_enter Tryd.func95, Tryd.ntmps95
    go_wp2
    go_ret
    exact ⟨ret_bool (by simp [h]), rfl⟩
  · go_enter Tryd.func95, Tryd.ntmps95
    go_wp2
    go_ret
    exact ⟨ret_bool (by simp; omega), rfl⟩

theorem isZero_any (neg : Bool) (s : ByteArray) (x : Int) (w : World) :
    Calls Tryd.prog 89 #[.agg #[.bool neg, .string s, .int .i64 x]] w fun e w' => e = .returned (.bool (isZ neg s x)) ∧ Below w.heap.size w w' := by
  go_enter Tryd.func89, Tryd.ntmps89
  go_wp2
  all_goals
    go_ret
    refine ⟨ret_bool ?_, (Below.refl _ _).alloc (Nat.le_refl _) _⟩
    simp_all [isZ, bl_toList]

set_option maxHeartbeats 1000000 in
theorem isOther_any (neg : Bool) (s : ByteArray) (x : Int) (w : World) (hs : s.size ≤ maxLen) :
    Calls Tryd.prog 90 #[.agg #[.bool neg, .string s, .int .i64 x]] w fun e w' => e = .returned (.bool (isO (bl s) x)) ∧ Below w.heap.size w w' := by
  by_cases h1 : s.size < 1
  · go_enter Tryd.func90, Tryd.ntmps90
    go_wp2
    go_ret
    exact ⟨ret_bool (by simp [isO, bl_length]; omega), (Below.refl _ _).alloc (Nat.le_refl _) _⟩
  have HO := hide (isO_at s x (by omega))
  by_cases h2 : 40 < s.size
  · go_enter Tryd.func90, Tryd.ntmps90
    go_wp2
    go_ret
    exact ⟨ret_bool (by rw [HO.out]; simp; omega), (Below.refl _ _).alloc (Nat.le_refl _) _⟩
  by_cases h3 : -400 ≤ x ∧ x ≤ 400
  · have e3 : decide (-400 ≤ x ∧ x ≤ 400) = true := decide_eq_true h3
    cases h4 : allD (bl s)
    all_goals
      go_enter Tryd.func90, Tryd.ntmps90
      go_wp2_with (first | (go_at_call 95; refine (expFits_any _ _).mono ?_; rintro e w' ⟨rfl, rfl⟩) | (go_at_call 96; refine (areDigits_any _ _ hs).mono ?_; rintro e w' ⟨rfl, rfl⟩))
    all_goals
      go_ret
      refine ⟨ret_bool ?_, (Below.refl _ _).alloc (Nat.le_refl _) _⟩
      have h2' : s.size ≤ 40 := by omega
      rw [HO.out, h4, e3]
      simp only [← bne48]
      simp [h2', *]
  · have e3 : decide (-400 ≤ x ∧ x ≤ 400) = false := decide_eq_false h3
    go_enter Tryd.func90, Tryd.ntmps90
    go_wp2_with (go_at_call 95; refine (expFits_any _ _).mono ?_; rintro e w' ⟨rfl, rfl⟩)
    go_ret
    exact ⟨ret_bool (by rw [HO.out, e3]; simp), (Below.refl _ _).alloc (Nat.le_refl _) _⟩

set_option maxHeartbeats 1000000 in
theorem check_ok (neg : Bool) (s : ByteArray) (x : Int) (w : World) (hs : s.size ≤ maxLen) (h : isN neg s x = true) :
    Calls Tryd.prog 82 #[.agg #[.bool neg, .string s, .int .i64 x]] w fun e w' => e = .returned (.int .i64 0) ∧ Below w.heap.size w w' := by
  cases hz : isZ neg s x
  · have ho : isO (bl s) x = true := by simpa [isN, hz] using h
    go_enter Tryd.func82, Tryd.ntmps82
    go_wp2_with fail
    refine (isZero_any neg s x _).mono ?_
    rw [hz]
    rintro e w1 ⟨rfl, hb⟩
    obtain ⟨hc, hf⟩ := bcell hb
    go_wp2_with fail
    refine (isOther_any neg s x _ hs).mono ?_
    rw [ho]
    rintro e w2 ⟨rfl, hb2⟩
    go_wp2
    go_ret
    exact ⟨rfl, below_then (below_alloc hb) hb2⟩
  · go_enter Tryd.func82, Tryd.ntmps82
    go_wp2_with fail
    refine (isZero_any neg s x _).mono ?_
    rw [hz]
    rintro e w1 ⟨rfl, hb⟩
    go_wp2_with fail
    go_ret
    exact ⟨rfl, below_alloc hb⟩

set_option maxHeartbeats 1000000 in
theorem check_no (neg : Bool) (s : ByteArray) (x : Int) (w : World) (hs : s.size ≤ maxLen) (h : isN neg s x = false) :
    Calls Tryd.prog 82 #[.agg #[.bool neg, .string s, .int .i64 x]] w fun e w' => e = .returned (.int .i64 10) ∧ Below w.heap.size w w' := by
  have hz : isZ neg s x = false := by simp [isN] at h; exact h.1
  have ho : isO (bl s) x = false := by simp [isN] at h; exact h.2
  go_enter Tryd.func82, Tryd.ntmps82
  go_wp2_with fail
  refine (isZero_any neg s x _).mono ?_
  rw [hz]
  rintro e w1 ⟨rfl, hb⟩
  obtain ⟨hc, hf⟩ := bcell hb
  go_wp2_with fail
  refine (isOther_any neg s x _ hs).mono ?_
  rw [ho]
  rintro e w2 ⟨rfl, hb2⟩
  go_wp2
  go_ret
  exact ⟨rfl, below_then (below_alloc hb) hb2⟩

set_option maxHeartbeats 1000000 in
theorem isInt_any (neg : Bool) (s : ByteArray) (x : Int) (w : World) (hs : s.size ≤ maxLen) :
    Calls Tryd.prog 69 #[.agg #[.bool neg, .string s, .int .i64 x]] w fun e w' => e = .returned (.bool (isN neg s x && decide (0 ≤ x))) ∧ Below w.heap.size w w' := by
  cases hn : isN neg s x
  · go_enter Tryd.func69, Tryd.ntmps69
    go_wp2_with fail
    refine (check_no neg s x _ hs hn).mono ?_
    rintro e w1 ⟨rfl, hb⟩
    go_wp2_with fail
    go_ret
    exact ⟨ret_bool (by simp), below_alloc hb⟩
  · go_enter Tryd.func69, Tryd.ntmps69
    go_wp2_with fail
    refine (check_ok neg s x _ hs hn).mono ?_
    rintro e w1 ⟨rfl, hb⟩
    obtain ⟨hc, hf⟩ := bcell hb
    go_wp2_with fail
    go_ret
    exact ⟨ret_bool (by simp), below_alloc hb⟩

/-- The power of ten that is just above a number's size. -/
def topN (neg : Bool) (s : ByteArray) (x : Int) : Int := if isZ neg s x then -400 else x + s.size

/-- -1, 0, 1. -/
def cmpI (x y : Int) : Int := if x < y then -1 else if y < x then 1 else 0
/-- The order of texts. -/
def cmpB (a b : ByteArray) : Int := if Op.bytesLess a.toList b.toList then -1 else if a.toList == b.toList then 0 else 1

end Go.Proofs.YtolmbjeinilhlaaDoor
/- num.compareSizes and Cmp: walked. -/
namespace Go.Proofs.YtolmbjeinilhlaaDoor
open Go.RowKit
set_option linter.unusedSimpArgs false
set_option linter.unusedVariables false
/-- compareSizes. -/
def cmpSz (na : Bool) (a : ByteArray) (xa : Int) (nb : Bool) (b : ByteArray) (xb : Int) : Int :=
  if cmpI (topN na a xa) (topN nb b xb) == 0 then cmpB a b else cmpI (topN na a xa) (topN nb b xb)

end Go.Proofs.YtolmbjeinilhlaaDoor
/- num.compareSizes and Cmp: walked. -/
namespace Go.Proofs.YtolmbjeinilhlaaDoor
open Go.RowKit
set_option linter.unusedSimpArgs false
set_option linter.unusedVariables false
/-- Cmp. -/
def cmpN (na : Bool) (a : ByteArray) (xa : Int) (nb : Bool) (b : ByteArray) (xb : Int) : Int :=
  if na == nb && bl a == bl b && xa == xb then 0 else if na && nb then cmpSz nb b xb na a xa else if na then -1 else if nb then 1 else cmpSz na a xa nb b xb

theorem ret_two {k k' : IntKind} {a b : Int} {c : Int} (h : a = b) : Ending.returned (.tuple #[.int k a, .int k' c]) = .returned (.tuple #[.int k b, .int k' c]) := by rw [h]
theorem isN_len {n : Bool} {s : ByteArray} {x : Int} (h : isN n s x = true) : s.size ≤ 40 ∧ -400 ≤ x ∧ x ≤ 400 := by
  simp [isN, isZ, isO] at h
  rcases h with ⟨⟨_, h1⟩, h2⟩ | h
  · have := bl_length s; rw [h1] at this; simp at this; omega
  · rw [bl_length] at h; omega

end Go.Proofs.YtolmbjeinilhlaaDoor
