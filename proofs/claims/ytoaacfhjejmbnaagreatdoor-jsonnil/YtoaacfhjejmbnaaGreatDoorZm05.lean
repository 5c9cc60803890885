/- Merged by program: NqAdd, NrSum, OgPrint, JbHex, JcHex. -/
import Derived.Test.YtoaacfhjejmbnaaGreatDoorZm04
import Derived.WalkKit
import Derived.WalkSpells
import Derived.WalkLawsBesides
import Derived.Deep.RegionWith
import Derived.Outline
import Derived.Test.YtoaacfhjejmbnaaGreatDoorZm03
import Derived.Laws.BitsAllLaws
import Derived.Deep.RegionLaw
/- num.Add: walked. -/
namespace Go.Proofs.YtoaacfhjejmbnaaGreatDoor
open Go.RowKit
set_option linter.unusedSimpArgs false
set_option linter.unusedVariables false
/-- Block i holds a number's struct. -/
def Box (W : World) (i : Nat) (n : Bool) (s : ByteArray) (x : Int) : Prop := W.heap[i]? = some (.cells #[.bool n, .string s, .int .i64 x] 24 (0, 0))
theorem Box.cells {W : World} {i : Nat} {n : Bool} {s : ByteArray} {x : Int} (h : Box W i n s x) :
    W.cell? ⟨i, 0, none⟩ = some (.bool n) ∧ W.cell? ⟨i, 1, none⟩ = some (.string s) ∧ W.cell? ⟨i, 2, none⟩ = some (.int .i64 x) ∧ W.frozen? ⟨i, 0, none⟩ = false ∧ W.frozen? ⟨i, 1, none⟩ = false ∧ W.frozen? ⟨i, 2, none⟩ = false := by
  unfold Box at h
  simp [World.cell?, World.frozen?, h]
theorem Box.lt {W : World} {i : Nat} {n : Bool} {s : ByteArray} {x : Int} (h : Box W i n s x) : i < W.heap.size := by
  unfold Box at h
  by_cases hlt : i < W.heap.size
  · exact hlt
  · have hn : W.heap[i]? = none := by simp; omega
    rw [hn] at h; cases h
theorem Box.below {W W1 : World} {i B : Nat} {n : Bool} {s : ByteArray} {x : Int} (h : Box W i n s x) (hb : Below B W W1) (hi : i < B) : Box W1 i n s x := by
  unfold Box at h ⊢; rw [hb.block i hi]; exact h
theorem Box.only {W W1 : World} {i b : Nat} {n : Bool} {s : ByteArray} {x : Int} (h : Box W i n s x) (hb : Only b W W1) (hi : i ≠ b) : Box W1 i n s x := by
  unfold Box at h ⊢; rw [hb.block i hi]; exact h
theorem Box.other {W : World} {i j o : Nat} {n : Bool} {s : ByteArray} {x : Int} {v : Value} (h : Box W i n s x) (hij : i ≠ j) : Box (W.setCell ⟨j, o, none⟩ v) i n s x := by
  unfold Box at h ⊢; rw [Below.heap_setCell _ _ _ _ hij]; exact h
theorem Box.set {W : World} {i : Nat} {n n' : Bool} {s s' : ByteArray} {x x' : Int} (h : Box W i n s x) :
    Box (((W.setCell ⟨i, 0, none⟩ (.bool n')).setCell ⟨i, 1, none⟩ (.string s')).setCell ⟨i, 2, none⟩ (.int .i64 x')) i n' s' x' := by
  unfold Box at h ⊢
  simp only [World.setCell, Array.getElem?_modify, if_true, h, Option.map_some]
  simp
theorem Box.set2 {W : World} {i : Nat} {n : Bool} {s : ByteArray} {x x' : Int} (h : Box W i n s x) : Box (W.setCell ⟨i, 2, none⟩ (.int .i64 x')) i n s x' := by
  unfold Box at h ⊢
  simp only [World.setCell, Array.getElem?_modify, if_true, h, Option.map_some]
  simp
theorem box_new (w : World) (n : Bool) (s : ByteArray) (x : Int) : Box (w.alloc (.cells #[.bool n, .string s, .int .i64 x] 24)) w.heap.size n s x := by
  unfold Box
  show (w.heap.push _)[w.heap.size]? = _
  simp
theorem Box.alloc {W : World} {i : Nat} {n : Bool} {s : ByteArray} {x : Int} (h : Box W i n s x) (o : Obj) : Box (W.alloc o) i n s x := by
  have hl := h.lt
  unfold Box at h ⊢
  rw [← h]
  exact Below.heap_alloc W o i hl
/-- Three boxes: two numbers and a struct of noughts. -/
structure Boxes (w W : World) (na : Bool) (a : ByteArray) (xa : Int) (nb : Bool) (b : ByteArray) (xb : Int) : Prop where
  below : Below w.heap.size w W
  b0 : Box W w.heap.size na a xa
  b1 : Box W (w.heap.size + 1) nb b xb
  b2 : Box W (w.heap.size + 1 + 1) false ⟨#[]⟩ 0
theorem Boxes.then {w W W1 : World} {na nb : Bool} {a b : ByteArray} {xa xb : Int} (h : Boxes w W na a xa nb b xb) (hb : Below W.heap.size W W1) : Boxes w W1 na a xa nb b xb :=
  ⟨below_then h.below hb, h.b0.below hb h.b0.lt, h.b1.below hb h.b1.lt, h.b2.below hb h.b2.lt⟩
theorem Boxes.exp {w W : World} {na nb : Bool} {a b : ByteArray} {xa xb y : Int} (h : Boxes w W na a xa nb b xb) : Boxes w (W.setCell ⟨w.heap.size + 1, 2, none⟩ (.int .i64 y)) na a xa nb b y :=
  ⟨h.below.setCell (Nat.le_succ _) _, h.b0.other (by omega), h.b1.set2, h.b2.other (by omega)⟩
theorem Boxes.drew {w W : World} {na nb : Bool} {a b : ByteArray} {xa xb : Int} (h : Boxes w W na a xa nb b xb) : Boxes w W.drew na a xa nb b xb := ⟨h.below.drew, h.b0, h.b1, h.b2⟩
end Go.Proofs.YtoaacfhjejmbnaaGreatDoor
/- What Add's steps are worth: no program in sight. -/
namespace Go.Proofs.YtoaacfhjejmbnaaGreatDoor
open Go.RowKit
set_option linter.unusedSimpArgs false
set_option linter.unusedVariables false
theorem isN_all {n : Bool} {s : ByteArray} {x : Int} (h : isN n s x = true) : allD (bl s) = true ∧ 1 ≤ s.size ∧ s.size ≤ 40 ∧ -400 ≤ x ∧ x ≤ 400 ∧ Dgs (dg s) := by
  cases hz : isZ n s x
  · have ho : isO (bl s) x = true := by simpa [isN, hz] using h
    obtain ⟨a1, a2, a3, a4, a5, a6, a7⟩ := isO_facts ho
    exact ⟨a5, a1, a2, a3, a4, a6.dgs⟩
  · obtain ⟨_, h2, h3⟩ := isZ_facts hz
    have h4 := (isZ_mag hz).2.1
    have h5 : allD (bl s) = true := by rw [h2]; rfl
    exact ⟨h5, by omega, by omega, by omega, by omega, dg_dgs s h5⟩
/-- Two numbers, the second not greater in size; y the second's power (the first's, if the second is 0), low the lower one of both. -/
structure Two (na : Bool) (a : ByteArray) (xa : Int) (nb : Bool) (b : ByteArray) (xb y low : Int) : Prop where
  n1 : isN na a xa = true
  n2 : isN nb b xb = true
  le : mag b xb ≤ mag a xa
  y0 : isZ nb b xb = true → y = xa
  y1 : isZ nb b xb = false → y = xb
  l0 : low = min xa y
theorem mag_at (s : ByteArray) (x low : Int) (h : low ≤ x) (hl : -400 ≤ low) : mag s x = val (dg s) * 10 ^ (x - low).toNat * 10 ^ (low + 400).toNat := by
  unfold mag
  rw [Nat.mul_assoc, ← Nat.pow_add]
  congr 2
  omega
theorem Two.low_bounds {na nb : Bool} {a b : ByteArray} {xa xb y low : Int} (h : Two na a xa nb b xb y low) : -400 ≤ low ∧ low ≤ 400 ∧ low ≤ xa ∧ low ≤ y := by
  obtain ⟨_, _, _, a4, a5, _⟩ := isN_all h.n1
  obtain ⟨_, _, _, b4, b5, _⟩ := isN_all h.n2
  have := h.l0
  cases hz : isZ nb b xb
  · have := h.y1 hz; omega
  · have := h.y0 hz; omega
theorem Two.magb {na nb : Bool} {a b : ByteArray} {xa xb y low : Int} (h : Two na a xa nb b xb y low) : mag b xb = val (dg b) * 10 ^ (y - low).toNat * 10 ^ (low + 400).toNat := by
  obtain ⟨l1, l2, l3, l4⟩ := h.low_bounds
  cases hz : isZ nb b xb
  · rw [← h.y1 hz]; exact mag_at b y low l4 l1
  · rw [(isZ_mag hz).2.2.1, (isZ_mag hz).1, show val [0] = 0 from rfl, Nat.zero_mul, Nat.zero_mul]
/-- The sum, of like signs or not. -/
theorem Two.sum {na nb : Bool} {a b : ByteArray} {xa xb y low : Int} (h : Two na a xa nb b xb y low) (P : List Nat) (hP : Dgs P)
    (e1 : (na != nb) = false → val P = val (dg a) * 10 ^ (xa - low).toNat + val (dg b) * 10 ^ (y - low).toNat)
    (e2 : (na != nb) = true → val P + val (dg b) * 10 ^ (y - low).toNat = val (dg a) * 10 ^ (xa - low).toNat) :
    IsSum (Zv na a xa + Zv nb b xb) (formF na P low) := by
  obtain ⟨l1, l2, l3, l4⟩ := h.low_bounds
  have hf := formF_sum na P low hP l1
  have ma := mag_at a xa low l3 l1
  have mb := h.magb
  have key : (if na then -((val P * 10 ^ (low + 400).toNat : Nat) : Int) else (val P * 10 ^ (low + 400).toNat : Nat)) = Zv na a xa + Zv nb b xb := by
    unfold Zv
    rw [ma, mb]
    cases hn : (na != nb)
    · have e := congrArg (· * 10 ^ (low + 400).toNat) (e1 hn)
      simp only [Nat.add_mul] at e
      cases na <;> cases nb <;> simp at hn <;> simp only [if_true, Bool.false_eq_true, if_false] <;> omega
    · have e := congrArg (· * 10 ^ (low + 400).toNat) (e2 hn)
      simp only [Nat.add_mul] at e
      cases na <;> cases nb <;> simp at hn <;> simp only [if_true, Bool.false_eq_true, if_false] <;> omega
  rw [key] at hf
  exact hf
/-- Beyond maxSpan there is no sum. -/
theorem Two.none {na nb : Bool} {a b : ByteArray} {xa xb y low : Int} (h : Two na a xa nb b xb y low) (hs : 41 < topN na a xa - low) : IsSum (Zv na a xa + Zv nb b xb) (false, ⟨#[]⟩, 0, 2) := by
  right
  refine ⟨rfl, ?_⟩
  obtain ⟨l1, l2, l3, l4⟩ := h.low_bounds
  obtain ⟨a1, a2, a3, a4, a5, a6⟩ := isN_all h.n1
  have h0 := h.l0
  cases za : isZ na a xa
  · have oa : isO (bl a) xa = true := by have := h.n1; simpa [isN, za] using this
    have ta : topN na a xa = xa + a.size := by simp [topN, za]
    rw [ta] at hs
    cases zb : isZ nb b xb
    · have ob : isO (bl b) xb = true := by have := h.n2; simpa [isN, zb] using this
      have hy := h.y1 zb
      obtain ⟨b1, b2, b3, b4, b5, b6, b7⟩ := isO_facts ob
      have hlow : low = xb := by omega
      have ma := mag_at a xa low l3 l1
      have mb := h.magb
      have ba := mag_bounds oa
      have bb := mag_bounds ob
      rw [hy, hlow, Int.sub_self] at mb
      rw [hlow] at ma
      simp only [Int.toNat_zero, Nat.pow_zero, Nat.mul_one] at mb
      -- the sum's last digit stands at b's place
      intro n s x hn e
      have hmod := val_mod (dg b) b6.dgs ((dg b).getLast b7) (List.getLast?_eq_some_getLast b7)
      have hlast := b6.last _ (List.getLast?_eq_some_getLast b7)
      have h9 := b6.dgs _ (List.getLast_mem b7)
      obtain ⟨p, hp⟩ : ∃ p, (xa - xb).toNat = p + 1 := ⟨(xa - xb).toNat - 1, by omega⟩
      obtain ⟨q, hq⟩ : ∃ q, q = (xb + 400).toNat := ⟨_, rfl⟩
      rw [hp, Nat.pow_succ, ← hq] at ma
      rw [← hq] at mb
      -- S: the sum's size in units of b's place
      obtain ⟨S, hS, hS1⟩ : ∃ S : Nat, mag s x = S * 10 ^ q ∧ (S = val (dg a) * 10 ^ p * 10 + val (dg b) ∨ S + val (dg b) = val (dg a) * 10 ^ p * 10) := by
        have hle := h.le
        rw [mb, ma, show val (dg a) * (10 ^ p * 10) = val (dg a) * 10 ^ p * 10 by rw [Nat.mul_assoc]] at hle
        have hle' := Nat.le_of_mul_le_mul_right hle (Nat.pow_pos (by decide))
        rw [show val (dg a) * (10 ^ p * 10) = val (dg a) * 10 ^ p * 10 by rw [Nat.mul_assoc]] at ma
        have pz := Nat.zero_le (mag s x)
        have hpos1 := isO_pos oa
        have hpos2 := isO_pos ob
        cases hnn : (na != nb)
        · refine ⟨val (dg a) * 10 ^ p * 10 + val (dg b), ?_, Or.inl rfl⟩
          rw [Nat.add_mul, ← ma, ← mb]
          unfold Zv at e
          cases na <;> cases nb <;> simp at hnn <;> cases n <;> simp only [if_true, Bool.false_eq_true, if_false] at e <;> omega
        · refine ⟨val (dg a) * 10 ^ p * 10 - val (dg b), ?_, Or.inr (by omega)⟩
          rw [Nat.sub_mul, ← ma, ← mb]
          unfold Zv at e
          have := h.le
          cases na <;> cases nb <;> simp at hnn <;> cases n <;> simp only [if_true, Bool.false_eq_true, if_false] at e <;> omega
      have hSm : S % 10 ≠ 0 := by
        rcases hS1 with h | h <;> omega
      -- S is at least 10 to the power of 40
      have hSg : 10 ^ 40 ≤ S := by
        have va := val_ge (dg a) (isO_facts oa).2.2.2.2.2.2 (isO_facts oa).2.2.2.2.2.1.first
        rw [dg_length] at va
        have v1 : 10 ^ 41 ≤ val (dg a) * 10 ^ p * 10 := by
          rw [Nat.mul_assoc, ← Nat.pow_succ]
          refine Nat.le_trans ?_ (Nat.mul_le_mul_right _ va)
          rw [← Nat.pow_add]
          exact Nat.pow_le_pow_right (by decide) (by omega)
        have v2 := val_lt (dg b) b6.dgs
        rw [dg_length] at v2
        have v3 : 10 ^ b.size ≤ 10 ^ 40 := Nat.pow_le_pow_right (by decide) b2
        have v4 : (10 : Nat) ^ 41 = 10 * 10 ^ 40 := by rw [Nat.pow_succ, Nat.mul_comm]
        rcases hS1 with h | h <;> omega
      have hno : isZ n s x = false := by
        cases hz : isZ n s x
        · rfl
        · have := (isZ_mag hz).2.2.1
          rw [this] at hS
          have : 0 < S * 10 ^ q := Nat.mul_pos (by omega) (Nat.pow_pos (by decide))
          omega
      have os : isO (bl s) x = true := by simpa [isN, hno] using hn
      obtain ⟨c1, c2, c3, c4, c5, c6, c7⟩ := isO_facts os
      have hx : (x + 400).toNat ≤ q := by
        rcases Nat.lt_or_ge q (x + 400).toNat with hlt | hge
        · exfalso
          unfold mag at hS
          have e1 : S = val (dg s) * 10 ^ ((x + 400).toNat - q) := by
            apply Nat.eq_of_mul_eq_mul_right (Nat.pow_pos (by decide) : 0 < 10 ^ q)
            rw [← hS, Nat.mul_assoc, ← Nat.pow_add]; congr 2; omega
          rw [show (x + 400).toNat - q = ((x + 400).toNat - q - 1) + 1 by omega, Nat.pow_succ, ← Nat.mul_assoc] at e1
          omega
        · exact hge
      have hv := val_lt (dg s) c6.dgs
      rw [dg_length] at hv
      have hv2 : 10 ^ s.size ≤ 10 ^ 40 := Nat.pow_le_pow_right (by decide) c2
      have hv3 : val (dg s) * 10 ^ (x + 400).toNat ≤ val (dg s) * 10 ^ q := Nat.mul_le_mul_left _ (Nat.pow_le_pow_right (by decide) hx)
      unfold mag at hS
      rw [hS] at hv3
      have := Nat.le_of_mul_le_mul_right hv3 (Nat.pow_pos (by decide))
      omega
    · have hy := h.y0 zb
      omega
  · have hx := (isZ_facts za).2.2
    have : topN na a xa = -400 := by simp [topN, za]
    omega
end Go.Proofs.YtoaacfhjejmbnaaGreatDoor
/- num.Print: walked, as far as the powers of ten below 100 go. -/
namespace Go.Proofs.YtoaacfhjejmbnaaGreatDoor
open Go.RowKit
set_option linter.unusedSimpArgs false
set_option linter.unusedVariables false
theorem own_conv {W : World} {B : Nat} {v : Value} {l : List UInt8} (h : Own W B v l) : (convert 32 9 v).run Tryz.prog W = .ok (.string (mkB l)) W := by
  have hc := h
  obtain ⟨h0, h⟩ := h
  rcases h with ⟨rfl, hn⟩ | ⟨g, cap, cur, rfl, hg, hh, h1, h2, h3, h4⟩
  · have : l = [] := List.eq_nil_of_length_eq_zero hn
    subst this
    exact run_convert_bytes_nil W 32 5 Tryz.underlying32 Tryz.underlying5 0 0 9 Tryz.underlying9
  · refine run_convert_bytes_back W 32 9 5 ⟨g, 0, none⟩ cap l Tryz.underlying32 Tryz.underlying5 Tryz.underlying9 (fun j hj => ?_)
    have hcells : ∀ j u, (bcs l)[j]? = some u → W.cell? ((⟨g, 0, none⟩ : Addr).add j) = some u := World.ownsRow.cells hc (g := g) rfl
    exact hcells j _ (by simp [bcs, List.getElem?_eq_getElem hj])
/-- A sign's byte. -/
def sgnB (n : Bool) : List UInt8 := if n then [45] else []
end Go.Proofs.YtoaacfhjejmbnaaGreatDoor
/- json.hex: walked. -/
namespace Go.Proofs.YtoaacfhjejmbnaaGreatDoor
open Go.RowKit
set_option linter.unusedSimpArgs false
set_option linter.unusedVariables false
/-- A digit. -/
def hx (d : Nat) : UInt8 := if d < 10 then UInt8.ofNat (48 + d) else UInt8.ofNat (87 + d)
/-- Two digits for each byte. -/
def hexL (l : List UInt8) : List UInt8 := l.flatMap fun c => [hx (c.toNat / 16), hx (c.toNat % 16)]
theorem hexL_snoc (l : List UInt8) (c : UInt8) : hexL (l ++ [c]) = hexL l ++ [hx (c.toNat / 16), hx (c.toNat % 16)] := by simp [hexL]
theorem hexL_len (l : List UInt8) : (hexL l).length = 2 * l.length := by
  induction l with
  | nil => rfl
  | cons a l ih => simp only [hexL, List.flatMap_cons, List.length_append, List.length_cons, List.length_nil] at ih ⊢; omega
theorem hxd_get (d : Nat) (h : d < 16) (h' : d < (⟨#[48, 49, 50, 51, 52, 53, 54, 55, 56, 57, 97, 98, 99, 100, 101, 102]⟩ : ByteArray).size) : (⟨#[48, 49, 50, 51, 52, 53, 54, 55, 56, 57, 97, 98, 99, 100, 101, 102]⟩ : ByteArray)[d] = hx d := by
  have : d = 0 ∨ d = 1 ∨ d = 2 ∨ d = 3 ∨ d = 4 ∨ d = 5 ∨ d = 6 ∨ d = 7 ∨ d = 8 ∨ d = 9 ∨ d = 10 ∨ d = 11 ∨ d = 12 ∨ d = 13 ∨ d = 14 ∨ d = 15 := by omega
  rcases this with rfl | rfl | rfl | rfl | rfl | rfl | rfl | rfl | rfl | rfl | rfl | rfl | rfl | rfl | rfl | rfl <;> rfl
theorem step_bytes {w : World} {ops : Array Oper} {o : Oper} {a : Act} {K : Act → World → Prop} {Q : Exit → Act → World → Prop} {E : Prop} (hgd : o.guard = none) (s x : Operand) (ho : o.op = .call { callee := .builtin .append, args := #[s, x], argTypes := #[32, 32] })
    (B : Nat) (v : Value) (l : List UInt8) (hs : a.eval s = v) (hown : Own w B v l) (ad : Addr) (m c : Nat) (news : List UInt8) (hx : a.eval x = .slice (some ad) m c) (hm : news.length = m)
    (hnews : ∀ j u, (bcs news)[j]? = some u → w.cell? (ad.add j) = some u) (hl : l.length + m ≤ 1000000) (hB : B ≤ w.heap.size) (hp : 0 < l.length + m)
    (h : ∀ av c' w', Hid (Own w' B (.slice av (l.length + m) c') (l ++ news)) → Hid (Below B w w') → w.heap.size ≤ w'.heap.size → K (a.put o.dst (.slice av (l.length + m) c')) w') :
    if Region.wanted o (yielded ops a.tmps) = true then Oper.wp Tryz.prog o a w K Q else E := by
  have hw : Region.wanted o (yielded ops a.tmps) = true := by simp [Region.wanted, hgd]
  rw [if_pos hw]
  obtain ⟨i0, hi, hz0, hz1, hz2⟩ := info_parts info5
  obtain ⟨v', w', hr, h1, h2, h3⟩ := run_append_own (P := Tryz.prog) w B 32 o.type 5 i0 _ 1 1 Tryz.underlying32 hi hz0 hz1 hz2 rfl (by decide) v l.length (bcs l) hown ad m c (bcs news) (by rw [bcs_length, hm]; simp) hnews (by
    intro u hu
    simp only [bcs, List.mem_map] at hu
    obtain ⟨c, _, rfl⟩ := hu
    rfl) (by unfold maxLen; omega) (by omega) hB
  unfold Oper.wp execOp
  simp only [ho, resolve, invoke, builtin, Sem.run_bind, Sem.run_pure, Result.andThen_ok, List.map_toArray, List.map_cons, List.map_nil, hs, hx, hr]
  have hO : Own w' B v' (l ++ news) := by unfold Own; rw [bcs_append, List.length_append, hm]; exact h1
  rcases h1.2 with ⟨rfl, e⟩ | ⟨g', cap, cur, rfl, _⟩
  · omega
  · exact h _ _ w' hO ((Below.refl B w).grown h2 hB hown.row) h2.size
end Go.Proofs.YtoaacfhjejmbnaaGreatDoor
/- json.hex: walked. -/
namespace Go.Proofs.YtoaacfhjejmbnaaGreatDoor
open Go.RowKit
set_option linter.unusedSimpArgs false
set_option linter.unusedVariables false
set_option maxHeartbeats 1000000 in
set_option maxRecDepth 100000 in
theorem jhex_any (s : ByteArray) (w : World) (hs : s.size ≤ 40000) :
    Calls Tryz.prog 58 #[.string s] w fun e w' => e = .returned (.string (mkB (hexL (bl s)))) ∧ Below w.heap.size w w' := by
  have hw : IntKind.i64.wrap (2 * (s.size : Int)) = 2 * (s.size : Int) := by rw [IntKind.wrap_i64] <;> omega
  obtain ⟨i0, hi, hz0, hz1, hz2⟩ := info_parts info5
  go_enter Tryz.func58, Tryz.ntmps58
  go_wp2_with (refine wpList_make_own w rfl _ _ 32 rfl w.heap.size 5 i0 (.int .u8 0) 1 Tryz.underlying32 hi hz0 hz1 .i64 .i64 _ (2 * s.size) rfl rfl (by simp) (by rw [hz2]; omega) (by unfold maxLen; omega) (Nat.le_refl _) ?_; refine Sto.out ?_)
  refine Sto.mk ?_
  intro w1 ho1 hg1
  have O1 : Hid (Own w1 w.heap.size (.slice (some ⟨w.heap.size, 0, none⟩) 0 (2 * s.size)) []) := ho1
  have B1 : Hid (Below w.heap.size w w1) := (Below.refl _ w).grown hg1 (Nat.le_refl _) (fun k hk => by cases hk)
  clear ho1 hg1 hi hz0 hz1 hz2
  go_wp2_with fail
  go_loopw [3, 11] (fun b i W => ∃ (k : Nat) (a : Option Addr) (cp : Nat), i = .int .i64 k ∧ b = .slice a (2 * k) cp ∧ k ≤ s.size ∧ Hid (Own W w.heap.size (.slice a (2 * k) cp) (hexL ((bl s).take k)) ∧ Below w.heap.size w W)) (fun _ i _ => s.size - (intOf i).toNat)
  case atStart => exact ⟨0, _, _, rfl, rfl, Nat.zero_le _, hide ⟨by simpa [hexL] using O1.out, B1.out⟩⟩
  case round =>
    obtain ⟨k, a, cp, rfl, rfl, hk, HH⟩ := hrel
    obtain ⟨hO, hB⟩ := HH.out
    have OR := hide hO
    have BR := hide hB
    clear HH hO hB O1 B1
    have zr1 : w.heap.size ≤ wr.heap.size := BR.out.size
    by_cases hkl : k < s.size
    · have hki : (k : Int) < (s.size : Int) := by omega
      have hst := hide (show hexL ((bl s).take (k + 1)) = hexL ((bl s).take k) ++ [hx (s[k].toNat / 16), hx (s[k].toNat % 16)] by
        rw [List.take_succ_eq_append_getElem (by rw [bl_length]; exact hkl), hexL_snoc, bl_get s k hkl])
      have hlen : (hexL ((bl s).take k)).length = 2 * k := by rw [hexL_len, List.length_take, bl_length]; omega
      obtain ⟨c, hc⟩ : ∃ c, s[k] = c := ⟨_, rfl⟩
      have hcl : c.toNat < 256 := c.toNat_lt
      have hm : bits .and .u8 (c.toNat : Int) 15 = ((c.toNat % 16 : Nat) : Int) := by
        have := u8_and_nat c.toNat 15 hcl (by omega)
        rw [nat_mask4] at this
        exact this
      have hd1 : c.toNat / 16 < 16 := by omega
      have hd2 : c.toNat % 16 < 16 := by omega
      have hds1 : c.toNat / 16 < (⟨#[48, 49, 50, 51, 52, 53, 54, 55, 56, 57, 97, 98, 99, 100, 101, 102]⟩ : ByteArray).size := hd1
      have hds2 : c.toNat % 16 < (⟨#[48, 49, 50, 51, 52, 53, 54, 55, 56, 57, 97, 98, 99, 100, 101, 102]⟩ : ByteArray).size := hd2
      have hg1 := hxd_get (c.toNat / 16) hd1 hds1
      have hg2 := hxd_get (c.toNat % 16) hd2 hds2
      rw [hc] at hst
      have hlen' := hide hlen
      clear hlen
      have hn := hide (news_two wr (hx (c.toNat / 16)) (hx (c.toNat % 16)) 5)
      have hq1 : ((c.toNat : Int) / 16).toNat = c.toNat / 16 := by omega
      have hq2 : (0 : Int) ≤ (c.toNat : Int) / 16 := by omega
      have hq3 : (c.toNat : Int) / 16 < 16 := by omega
      have hq4 : ((c.toNat : Int) % 16).toNat = c.toNat % 16 := by omega
      have hq5 : (0 : Int) ≤ (c.toNat : Int) % 16 := by omega
      have hq6 : (c.toNat : Int) % 16 < 16 := by omega
      go_wp2_with fail
      go_region_law (refine step_bytes rfl (.tmp 14) (.tmp 25) rfl w.heap.size (.slice a (2 * k) cp) (hexL ((bl s).take k)) rfl (ownsRow_of OR.out fun g hg hlt => (show Below wr.heap.size wr _ by repeat (first | exact Below.refl _ _ | refine Below.drew ?_ | refine below_al ?_)).block g hlt) ⟨wr.heap.size, 0, none⟩ 2 2 [hx (c.toNat / 16), hx (c.toNat % 16)] rfl rfl hn.out (by rw [hlen'.out]; omega) (by simp; omega) (by omega) ?_; intro av c' w' ho hb hz; have hO' := hide ho.out; have hB' : Hid (Below w.heap.size w w') := (BR.out.trans ((show Below wr.heap.size wr _ by repeat (first | exact Below.refl _ _ | refine Below.drew ?_ | refine below_al ?_)).mono zr1)).trans hb.out; clear ho hb)
      all_goals
        go_wp2_with fail
        refine ⟨⟨k + 1, av, c', by go_num, by rw [hlen'.out]; rfl, hkl, hide ⟨?_, hB'.out⟩⟩, by simp [intOf]; omega⟩
        rw [hst.out]
        have h1 := hO'.out
        rw [hlen'.out] at h1
        exact h1
    · have hki : ¬ ((k : Int) < (s.size : Int)) := by omega
      have hke : k = s.size := by omega
      have hcv := own_conv OR.out
      rw [List.take_of_length_le (by rw [bl_length]; omega)] at hcv
      clear hkl hke
      go_wp2_with fail
      go_ret
      exact ⟨rfl, BR.out⟩
end Go.Proofs.YtoaacfhjejmbnaaGreatDoor
