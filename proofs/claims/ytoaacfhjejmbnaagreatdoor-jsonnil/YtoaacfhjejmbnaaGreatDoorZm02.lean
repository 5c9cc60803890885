/- Merged by program: NtText, NeArr, OaAppend, XpCopy, XqCopy. -/
import Derived.Test.YtoaacfhjejmbnaaGreatDoorZm01
import Derived.WalkKit
import Derived.WalkSpells
import Derived.WalkLawsBesides
import Derived.Deep.RegionWith
import Derived.Outline
import Derived.Lib.Strings
import Derived.Lib.AppendStr
import Derived.Laws.OwnMore
import Derived.Deep.AppendLies
import Derived.Deep.RegionHeld3
import Derived.Deep.RegionLaw
/- num's cutByte and cutDigits: walked; the plain words for a number's text. -/
namespace Go.Proofs.YtoaacfhjejmbnaaGreatDoor
open Go.RowKit
set_option linter.unusedSimpArgs false
set_option linter.unusedVariables false
/-- A text of bytes. -/
def mkB (l : List UInt8) : ByteArray := ⟨l.toArray⟩
theorem bl_mkB (l : List UInt8) : bl (mkB l) = l := by simp [bl, mkB]
theorem mkB_size (l : List UInt8) : (mkB l).size = l.length := by rw [← bl_length, bl_mkB]
theorem mkB_bl (s : ByteArray) : mkB (bl s) = s := by cases s; simp [bl, mkB]
theorem mkB_nil (l : List UInt8) : (mkB l).toList.isEmpty = l.isEmpty := by rw [bl_toList, bl_mkB]
theorem extract_mkB (s : ByteArray) (a b : Nat) : s.extract a b = mkB (((bl s).drop a).take (b - a)) := Lib.extract_eq s a b
theorem drop_mkB (s : ByteArray) (a : Nat) : s.extract a s.size = mkB ((bl s).drop a) := by
  rw [extract_mkB, List.take_of_length_le (by rw [List.length_drop, bl_length]; omega)]
/-- Does a row begin with c? -/
def hdB (c : UInt8) (l : List UInt8) : Bool := l.head? == some c
/-- What is behind c then. -/
def tlB (c : UInt8) (l : List UInt8) : List UInt8 := if hdB c l then l.drop 1 else l
theorem hdB_size (c : UInt8) (s : ByteArray) (h : 0 < s.size) : hdB c (bl s) = (s[0] == c) := by
  unfold hdB; rw [head_bl s h]; rfl
theorem tlB_length (c : UInt8) (l : List UInt8) : (tlB c l).length ≤ l.length := by
  unfold tlB; split <;> simp
theorem take_tw (p : UInt8 → Bool) (l : List UInt8) : l.take (l.takeWhile p).length = l.takeWhile p := by
  induction l with
  | nil => rfl
  | cons a l ih => by_cases h : p a = true <;> simp [h, ih]
theorem drop_tw (p : UInt8 → Bool) (l : List UInt8) : l.drop (l.takeWhile p).length = l.dropWhile p := by
  induction l with
  | nil => rfl
  | cons a l ih => by_cases h : p a = true <;> simp [h, ih]
theorem cutByte_any (s : ByteArray) (c : UInt8) (ci : Int) (w : World) (hci : ci = c.toNat) (hs : s.size ≤ 100000) :
    Calls Tryz.prog 195 #[.string s, .int .u8 ci] w fun e w' => e = .returned (.tuple #[.bool (hdB c (bl s)), .string (mkB (tlB c (bl s)))]) ∧ Below w.heap.size w w' := by
  by_cases h0 : s.size = 0
  · have hl : bl s = [] := List.eq_nil_of_length_eq_zero (by rw [bl_length]; exact h0)
    have he : s.toList.isEmpty = true := by rw [bl_toList, hl]; rfl
    have e1 := hide (show hdB c (bl s) = false by rw [hl]; rfl)
    have e2 := hide (show mkB (tlB c (bl s)) = s by rw [tlB, e1.out]; simp [mkB_bl])
    clear hl h0
    go_enter Tryz.func195, Tryz.ntmps195
    go_wp2
    go_ret2
    exact ⟨by rw [e1.out, e2.out]; rfl, Below.refl _ _⟩
  · have he : s.toList.isEmpty = false := by
      rw [bl_toList]; cases hb : bl s with
      | nil => have := bl_length s; rw [hb] at this; simp at this; omega
      | cons _ _ => rfl
    have hsz : 0 < s.size := by omega
    have hsz' : (0 : Int) < s.size := by omega
    have hh := hide (hdB_size c s hsz)
    cases hc : hdB c (bl s)
    · have hb : ((s[0].toNat : Int) != ci) = true := by
        rw [hh.out] at hc
        rw [bne_iff_ne, hci]; intro e
        have := UInt8.toNat_inj.1 (by omega : s[0].toNat = c.toNat)
        rw [this] at hc; simp at hc
      have e2 := hide (show mkB (tlB c (bl s)) = s by rw [tlB, hc]; simp [mkB_bl])
      clear hci h0
      go_enter Tryz.func195, Tryz.ntmps195
      go_wp2
      go_ret2
      exact ⟨by rw [e2.out]; rfl, Below.refl _ _⟩
    · have hb : ((s[0].toNat : Int) != ci) = false := by
        rw [hh.out] at hc
        simp only [beq_iff_eq] at hc
        rw [hc, hci]; simp
      have e2 := hide (show mkB (tlB c (bl s)) = s.extract 1 s.size by rw [drop_mkB, tlB, hc]; rfl)
      have h1 : (1 : Int) ≤ s.size := by omega
      clear hci h0
      go_enter Tryz.func195, Tryz.ntmps195
      go_wp2
      go_region
      all_goals
        go_wp2
        go_ret2
        exact ⟨by rw [e2.out]; rfl, (Below.refl _ _).drew⟩
theorem cutDigits_any (s : ByteArray) (w : World) (hs : s.size ≤ 100000) :
    Calls Tryz.prog 196 #[.string s] w fun e w' => e = .returned (.tuple #[.string (mkB ((bl s).takeWhile isDig)), .string (mkB ((bl s).dropWhile isDig))]) ∧ Below w.heap.size w w' := by
  have ml : maxLen = 2 ^ 63 - 1 := rfl
  obtain ⟨k, hk⟩ : ∃ k, cntD (bl s) = k := ⟨_, rfl⟩
  have hle : k ≤ s.size := by rw [← hk, ← bl_length]; exact cntD_le _
  have e0 : (bl s).takeWhile isDig ++ (bl s).dropWhile isDig = bl s := List.takeWhile_append_dropWhile
  have hl1 : ((bl s).takeWhile isDig).length = k := hk
  have e1 := hide (show mkB ((bl s).takeWhile isDig) = s.extract 0 k by
    rw [extract_mkB, List.drop_zero, Nat.sub_zero]
    congr 1
    rw [← hl1]; exact (take_tw isDig (bl s)).symm)
  have e2 := hide (show mkB ((bl s).dropWhile isDig) = s.extract k s.size by
    rw [drop_mkB]
    congr 1
    rw [← hl1]; exact (drop_tw isDig (bl s)).symm)
  have hk := hide hk
  clear e0 hl1
  go_enter Tryz.func196, Tryz.ntmps196
  go_wp2_with (go_at_call 179; refine (countDigits_any _ _ (by omega)).mono ?_; rw [hk.out]; rintro e w' ⟨rfl, rfl⟩)
  go_region
  all_goals
    go_wp2
    go_ret2
    exact ⟨by rw [e1.out, e2.out]; rfl, (Below.refl _ _).drew⟩
end Go.Proofs.YtoaacfhjejmbnaaGreatDoor
/- A block that holds a row of bytes; a call that turns one block alone. -/
namespace Go.Proofs.YtoaacfhjejmbnaaGreatDoor
open Go.RowKit
set_option linter.unusedSimpArgs false
set_option linter.unusedVariables false
/-- Block b is a row of bytes p. -/
def Arr (w : World) (b : Nat) (T : TypeId) (p : List Nat) : Prop := w.heap[b]? = some (.cells (p.map fun v : Nat => Value.int .u8 (v : Int)).toArray T (0, 0))
theorem Arr.cell {w : World} {b : Nat} {T : TypeId} {p : List Nat} (h : Arr w b T p) (i : Nat) (hi : i < p.length) : w.cell? ⟨b, i, none⟩ = some (.int .u8 (p[i] : Nat)) := by
  unfold Arr at h
  simp [World.cell?, h, List.getElem?_map, hi]
theorem Arr.frozen {w : World} {b : Nat} {T : TypeId} {p : List Nat} (h : Arr w b T p) (i : Nat) : w.frozen? ⟨b, i, none⟩ = false := by
  unfold Arr at h
  simp [World.frozen?, h]
theorem Arr.lt {w : World} {b : Nat} {T : TypeId} {p : List Nat} (h : Arr w b T p) : b < w.heap.size := by
  unfold Arr at h
  by_cases hlt : b < w.heap.size
  · exact hlt
  · have hn : w.heap[b]? = none := by simp; omega
    rw [hn] at h; cases h
theorem Arr.drew {w : World} {b : Nat} {T : TypeId} {p : List Nat} (h : Arr w b T p) : Arr w.drew b T p := h
theorem Arr.set {w : World} {b : Nat} {T : TypeId} {p : List Nat} (h : Arr w b T p) (i : Nat) (v : Nat) : Arr (w.setCell ⟨b, i, none⟩ (.int .u8 (v : Int))) b T (p.set i v) := by
  unfold Arr at h ⊢
  simp only [World.setCell, Array.getElem?_modify, if_true, h, Option.map_some]
  simp [List.map_set]
/-- Nothing but block b has turned. -/
structure Only (b : Nat) (w w' : World) : Prop where
  os : w'.os = w.os
  tape : w'.tape = w.tape
  output : w'.output = w.output
  size : w'.heap.size = w.heap.size
  block : ∀ k, k ≠ b → w'.heap[k]? = w.heap[k]?
theorem Only.refl (b : Nat) (w : World) : Only b w w := ⟨rfl, rfl, rfl, rfl, fun _ _ => rfl⟩
theorem Only.trans {b : Nat} {w w1 w2 : World} (h : Only b w w1) (k : Only b w1 w2) : Only b w w2 :=
  ⟨k.os.trans h.os, k.tape.trans h.tape, k.output.trans h.output, k.size.trans h.size, fun i hi => (k.block i hi).trans (h.block i hi)⟩
theorem Only.drew {b : Nat} {w w1 : World} (h : Only b w w1) : Only b w w1.drew := ⟨h.os, h.tape, h.output, h.size, h.block⟩
theorem Only.set {b : Nat} {w w1 : World} (h : Only b w w1) (i : Nat) (v : Value) : Only b w (w1.setCell ⟨b, i, none⟩ v) :=
  h.trans ⟨rfl, rfl, rfl, by simp, fun k hk => Below.heap_setCell _ _ _ _ hk⟩
theorem Only.below {b B : Nat} {w w1 : World} (h : Only b w w1) (hb : B ≤ b) : Below B w w1 :=
  ⟨h.os, h.tape, h.output, by rw [h.size]; exact Nat.le_refl _, fun k hk => h.block k (by omega)⟩
theorem Only.cell {b : Nat} {w w1 : World} (h : Only b w w1) {k o : Nat} (hk : k ≠ b) : w1.cell? ⟨k, o, none⟩ = w.cell? ⟨k, o, none⟩ := World.cell?_of_block (w := w) (h.block k hk)
theorem Only.frozen {b : Nat} {w w1 : World} (h : Only b w w1) {k o : Nat} (hk : k ≠ b) : w1.frozen? ⟨k, o, none⟩ = w.frozen? ⟨k, o, none⟩ := World.frozen?_of_block (w := w) (h.block k hk)
theorem Arr.below {w w1 : World} {b B : Nat} {T : TypeId} {p : List Nat} (h : Arr w b T p) (hb : Below B w w1) (hB : b < B) : Arr w1 b T p := by
  unfold Arr at h ⊢; rw [hb.block b hB]; exact h
theorem Arr.only {w w1 : World} {b c : Nat} {T : TypeId} {p : List Nat} (h : Arr w b T p) (hb : Only c w w1) (hB : b ≠ c) : Arr w1 b T p := by
  unfold Arr at h ⊢; rw [hb.block b hB]; exact h
/-- A row of n noughts, newly laid. -/
theorem arr_new (w : World) (T : TypeId) (n : Nat) (c : Array Value) (hc : c = ((List.replicate n 0).map fun v : Nat => Value.int .u8 (v : Int)).toArray) : Arr (w.alloc (.cells c T)) w.heap.size T (List.replicate n 0) := by
  unfold Arr
  rw [hc]
  show (w.heap.push _)[w.heap.size]? = _
  simp
end Go.Proofs.YtoaacfhjejmbnaaGreatDoor
/- Bytes that are appended to a slice of the call's own. -/
namespace Go.Proofs.YtoaacfhjejmbnaaGreatDoor
open Go.RowKit
set_option linter.unusedSimpArgs false
set_option linter.unusedVariables false
/-- Bytes as cells. -/
def bcs (l : List UInt8) : List Value := l.map fun c => Value.int .u8 (c.toNat : Int)
theorem bcs_length (l : List UInt8) : (bcs l).length = l.length := by simp [bcs]
theorem bcs_append (a b : List UInt8) : bcs (a ++ b) = bcs a ++ bcs b := by simp [bcs]
theorem strCells_bcs (s : ByteArray) : Lib.strCells s = bcs (bl s) := rfl
/-- v is a slice of the call's own (from block B on) of the bytes l. -/
def Own (W : World) (B : Nat) (v : Value) (l : List UInt8) : Prop := W.ownsRow B 5 1 v l.length (bcs l)
theorem own_nil (W : World) (B : Nat) : Own W B (.slice none 0 0) [] := World.ownsRow_nil _ _ _ _
theorem Own.alloc {W : World} {B : Nat} {v : Value} {l : List UInt8} (h : Own W B v l) (o : Obj) : Own (W.alloc o) B v l := World.ownsRow.alloc h o
theorem Own.row {W : World} {B : Nat} {v : Value} {l : List UInt8} (h : Own W B v l) : ∀ k, v.ownBlock = some k → B ≤ k := by
  obtain ⟨_, h⟩ := h
  rcases h with ⟨rfl, _⟩ | ⟨g, cap, cur, rfl, hg, _⟩
  · intro k hk; cases hk
  · intro k hk; cases hk; exact hg
theorem info5 : (Tryz.prog.info? 5).map (fun i => (i.zero, i.size, i.bytes)) = some (some (.int .u8 0), 1, 1) := by kernel_rfl
section
variable {w : World} {ops : Array Oper} {rest : List Oper} {o : Oper} {a : Act} {Q : Exit → Act → World → Prop}
theorem app_bytes (hgd : o.guard = none) (s x : Operand) (ho : o.op = .call { callee := .builtin .append, args := #[s, x], argTypes := #[32, 32] })
    (B : Nat) (v : Value) (l : List UInt8) (hs : a.eval s = v) (hown : Own w B v l) (ad : Addr) (m c : Nat) (news : List UInt8) (hx : a.eval x = .slice (some ad) m c) (hm : news.length = m)
    (hnews : ∀ j u, (bcs news)[j]? = some u → w.cell? (ad.add j) = some u) (hl : l.length + m ≤ 100000) (hB : B ≤ w.heap.size)
    (h : ∀ v' w', Hid (Own w' B v' (l ++ news)) → Hid (Below B w w') → w.heap.size ≤ w'.heap.size → wpList Tryz.prog ops Q rest (a.put o.dst v') w') : wpList Tryz.prog ops Q (o :: rest) a w := by
  obtain ⟨i0, hi, hz0, hz1, hz2⟩ := info_parts info5
  refine wpList_append_own w hgd s x 32 ho B 5 i0 (.int .u8 0) 1 1 Tryz.underlying32 hi hz0 hz1 hz2 rfl (by decide) v l.length (bcs l) hs hown ad m c (bcs news) hx (by rw [bcs_length, hm]; simp) hnews ?_ ?_ ?_ hB ?_
  · intro u hu
    simp only [bcs, List.mem_map] at hu
    obtain ⟨c, _, rfl⟩ := hu
    rfl
  · unfold maxLen; omega
  · omega
  · intro v' w' h1 h2 _
    refine h v' w' ?_ ?_ h2.size
    · show Own _ _ _ _
      unfold Own
      rw [bcs_append, List.length_append, hm]; exact h1
    · exact (Below.refl B w).grown h2 hB hown.row
theorem app_str (hgd : o.guard = none) (sl x : Operand) (ho : o.op = .call { callee := .builtin .append, args := #[sl, x], argTypes := #[32, 9] })
    (B : Nat) (v : Value) (l : List UInt8) (hs : a.eval sl = v) (hown : Own w B v l) (s : ByteArray) (hx : a.eval x = .string s) (hl : l.length + s.size ≤ 100000) (hB : B ≤ w.heap.size)
    (h : ∀ v' w', Hid (Own w' B v' (l ++ bl s)) → Hid (Below B w w') → w.heap.size ≤ w'.heap.size → wpList Tryz.prog ops Q rest (a.put o.dst v') w') : wpList Tryz.prog ops Q (o :: rest) a w := by
  obtain ⟨i0, hi, hz0, hz1, hz2⟩ := info_parts info5
  refine Lib.wpList_append_own_string w hgd sl x 32 9 ho B 5 i0 Tryz.underlying32 Tryz.underlying9 hi hz0 hz1 hz2 v l.length (bcs l) hs hown s hx (by unfold maxLen; omega) (by omega) hB ?_
  intro v' w' h1 h2 _
  refine h v' w' ?_ ?_ h2.size
  · show Own _ _ _ _
    unfold Own
    rw [bcs_append, List.length_append, bl_length, ← strCells_bcs]; exact h1
  · exact (Below.refl B w).grown h2 hB hown.row
end
theorem news_one (w : World) (c : UInt8) (T : TypeId) : ∀ j u, (bcs [c])[j]? = some u → (w.alloc (.cells #[.int .u8 (c.toNat : Int)] T)).cell? ((⟨w.heap.size, 0, none⟩ : Addr).add j) = some u := cell_one_new _ _ _
set_option maxHeartbeats 400000 in
theorem appendNoughts_any (B : Nat) (v : Value) (l : List UInt8) (k : Int) (w : World) (hown : Own w B v l) (hB : B ≤ w.heap.size) (hl : l.length ≤ 1000) (hk : k ≤ 1000) :
    Calls Tryz.prog 90 #[v, .int .i64 k] w fun e w' => ∃ v', e = .returned v' ∧ Hid (Own w' B v' (l ++ List.replicate k.toNat 48)) ∧ Hid (Below B w w') := by
  have hown := hide hown
  go_enter Tryz.func90, Tryz.ntmps90
  go_wp2
  go_loopw [0, 6] (fun b i wr => ∃ j : Nat, j ≤ k.toNat ∧ i = .int .i64 j ∧ Hid (Own wr B b (l ++ List.replicate j 48)) ∧ Hid (Below B w wr) ∧ B ≤ wr.heap.size) (fun _ i _ => k.toNat - (intOf i).toNat)
  case atStart => exact ⟨0, Nat.zero_le _, rfl, by show Own _ _ _ _; simpa using hown.out, Below.refl _ _, hB⟩
  case round =>
    obtain ⟨j, hj, rfl, ho, hb, hBr⟩ := hrel
    by_cases hlt : (j : Int) < k
    · have hn := hide (news_one wr 48 5)
      go_wp2_with (at_builtin; refine app_bytes rfl _ _ rfl B _ (l ++ List.replicate j 48) rfl (ho.out.alloc _) ⟨wr.heap.size, 0, none⟩ 1 1 [48] rfl rfl hn.out (by simp; omega) (by simp; omega) ?_; intro v' w' h1 h2 h3)
      refine ⟨⟨j + 1, by omega, by go_num, ?_, ?_, ?_⟩, by simp [intOf]; omega⟩
      · show Own _ _ _ _
        rw [List.replicate_succ', ← List.append_assoc]; exact h1.out
      · exact (hb.out.alloc hBr _).trans h2.out
      · simp at h3; omega
    · go_wp2
      go_ret
      have e : j = k.toNat := by omega
      subst e
      exact ⟨_, rfl, ho.out, hb.out⟩
theorem news_two (w : World) (c d : UInt8) (T : TypeId) : ∀ j u, (bcs [c, d])[j]? = some u → (w.alloc (.cells #[.int .u8 (c.toNat : Int), .int .u8 (d.toNat : Int)] T)).cell? ((⟨w.heap.size, 0, none⟩ : Addr).add j) = some u := cell_two_new _ _ _ _
/-- digits with a point ahead of the last bh of them. -/
def pointed (l : List UInt8) (bh : Nat) : List UInt8 :=
  if l.length ≤ bh then 48 :: 46 :: (List.replicate (bh - l.length) 48 ++ l) else l.take (l.length - bh) ++ 46 :: l.drop (l.length - bh)
set_option maxHeartbeats 400000 in
theorem appendPointed_le (B : Nat) (v : Value) (l : List UInt8) (s : ByteArray) (bh : Nat) (w : World) (hown : Own w B v l) (hB : B ≤ w.heap.size) (hl : l.length ≤ 100) (hs : s.size ≤ bh) (hbh : bh ≤ 100) :
    Calls Tryz.prog 91 #[v, .string s, .int .i64 bh] w fun e w' => ∃ v', e = .returned v' ∧ Hid (Own w' B v' (l ++ pointed (bl s) bh)) ∧ Hid (Below B w w') := by
  have hown := hide hown
  have hn := hide (news_two w 48 46 5)
  have hfin := hide (show l ++ pointed (bl s) bh = l ++ [48, 46] ++ List.replicate (bh - s.size) 48 ++ bl s by
    unfold pointed; rw [bl_length, if_pos hs]; simp)
  have hc : ((s.size : Int) - (bh : Int) ≤ 0) := by omega
  go_enter Tryz.func91, Tryz.ntmps91
  go_wp2_with (at_builtin; refine app_bytes rfl (.tmp 14) (.tmp 15) rfl B _ l rfl (hown.out.alloc _) ⟨w.heap.size, 0, none⟩ 2 2 [48, 46] rfl rfl hn.out (by omega) (by simp; omega) ?_; intro v1 w1 h1 h2 h3)
  simp at h3
  go_wp2_with fail
  have hneg : -((s.size : Int) - (bh : Int)) = ((bh - s.size : Nat) : Int) := by omega
  refine (appendNoughts_any B v1 (l ++ [48, 46]) _ w1 h1.out (by omega) (by simp; omega) ?_).mono ?_
  · omega
  rintro e w2 ⟨v2, rfl, h4, h5⟩
  have h6 : B ≤ w2.heap.size := by have := h5.out.size; omega
  have hk : ((-((s.size : Int) - (bh : Int))).toNat) = bh - s.size := by omega
  go_wp2_with (at_builtin; refine app_str rfl (.tmp 21) (.tmp 22) rfl B _ _ rfl h4.out s rfl (by simp; omega) h6 ?_; intro v3 w3 h7 h8 h9)
  go_ret
  refine ⟨_, rfl, ?_, ?_⟩
  · show Own _ _ _ _
    rw [hfin.out]
    have := h7.out
    rw [hk] at this
    exact this
  · exact (((Below.refl B w).alloc hB _).trans h2.out).trans (h5.out.trans h8.out)
end Go.Proofs.YtoaacfhjejmbnaaGreatDoor
/- calamuskeep.Copy: walked. -/
namespace Go.Proofs.YtoaacfhjejmbnaaGreatDoor
open Go.RowKit
set_option linter.unusedSimpArgs false
set_option linter.unusedVariables false
/-- Strings as cells. -/
def scs (l : List ByteArray) : List Value := l.map Value.string
theorem info9 : (Tryz.prog.info? 9).map (fun i => (i.zero, i.size, i.bytes)) = some (some (.string ⟨#[]⟩), 1, 16) := by kernel_rfl
/-- v is a slice of strings of the call's own (from block B on). -/
def OwnS (W : World) (B : Nat) (v : Value) (l : List ByteArray) : Prop := W.ownsRow B 9 1 v l.length (scs l)
theorem NL.news {w : World} {b o sp : Nat} {a : Addr} {n c : Nat} {l : List ByteArray} (h : NL w (.slice (some a) n c) l) : ∀ j u, (scs l)[j]? = some u → w.cell? (a.add j) = some u := by
  rcases h with ⟨e, _⟩ | ⟨b, o, c, sp, e, h1, h2, h3, hc⟩
  · cases e
  · simp only [Value.slice.injEq, Option.some.injEq] at e
    obtain ⟨rfl, _, rfl⟩ := e
    intro j u hj
    simp only [scs, List.getElem?_map] at hj
    obtain ⟨x, hx, rfl⟩ := Option.map_eq_some_iff.1 hj
    obtain ⟨hjl, rfl⟩ := List.getElem?_eq_some_iff.1 hx
    obtain ⟨rfl, _⟩ := h3 (by omega)
    rw [show (⟨b, o, none⟩ : Addr).add j = ⟨b, o + j, none⟩ by unfold Addr.add; split <;> simp_all]
    exact hc j hjl
section
variable {w : World} {ops : Array Oper} {rest : List Oper} {o : Oper} {a : Act} {Q : Exit → Act → World → Prop}
end
theorem infoVV : (Tryz.prog.info? 29).map (fun i => (i.zero, i.size, i.bytes)) = some (some (.agg #[.int .i64 0, .bool false, .bool false, .string ⟨#[]⟩, .int .i64 0, .int .u64 0, .string ⟨#[]⟩, .slice none 0 0, .slice none 0 0]), 9, 120) := by kernel_rfl
section
variable {w : World} {ops : Array Oper} {rest : List Oper} {o : Oper} {a : Act} {Q : Exit → Act → World → Prop}
theorem app_v (hgd : o.guard = none) (s x : Operand) (ho : o.op = .call { callee := .builtin .append, args := #[s, x], argTypes := #[27, 27] })
    (B : Nat) (v : Value) (n : Nat) (xs : List Value) (hs : a.eval s = v) (hown : w.ownsRow B 29 9 v n xs) (g c : Nat) (hx : a.eval x = .slice (some ⟨g, 0, none⟩) 1 c) (hd : Hd) (ns ls : Value) (hn : ns.oneCell' = true) (hl : ls.oneCell' = true)
    (hnews : w.rangeAt g 0 (vals hd ns ls).toList) (hm : n ≤ 200000) (hB : B ≤ w.heap.size)
    (h : ∀ av c' w', Hid (w'.ownsRow B 29 9 (.slice av (n + 1) c') (n + 1) (xs ++ (vals hd ns ls).toList)) → Hid (w.grownBy w' v.ownBlock) → Hid ((Value.slice av (n + 1) c').ownBlock = v.ownBlock ∨ (Value.slice av (n + 1) c').ownBlock = some w.heap.size) → wpList Tryz.prog ops Q rest (a.put o.dst (.slice av (n + 1) c')) w') : wpList Tryz.prog ops Q (o :: rest) a w := by
  obtain ⟨i0, hi, hz0, hz1, hz2⟩ := info_parts infoVV
  refine wpList_append_own_at w hgd s x 27 ho B 29 i0 _ 9 120 Tryz.underlying27 hi hz0 hz1 hz2 rfl (by decide) v n xs hs hown ⟨g, 0, none⟩ 1 c (vals hd ns ls).toList hx rfl ?_ ?_ ?_ ?_ hB ?_
  · intro j u hj
    have := hnews j u hj
    rw [show (⟨g, 0, none⟩ : Addr).add j = ⟨g, 0 + j, none⟩ by unfold Addr.add; split <;> simp_all]
    exact this
  · intro u hu
    simp only [vals, List.mem_cons, List.not_mem_nil, or_false] at hu
    rcases hu with rfl | rfl | rfl | rfl | rfl | rfl | rfl | rfl | rfl
    all_goals first | rfl | exact hn | exact hl
  · unfold maxLen; omega
  · omega
  · intro v' w' h1 h2 h3 h4
    rcases h1.2 with ⟨rfl, e⟩ | ⟨g', cap, cur, rfl, _⟩
    · omega
    · exact h _ _ w' h1 h2 h4
end
/-- A struct reads as x, whatever lies outside the blocks from s to e. -/
def KR (n : Nat) (W : World) (x : VT n) (ns ls : Value) (s e : Nat) : Prop := s ≤ e ∧ e ≤ W.heap.size ∧ ∀ W' : World, (∀ k, s ≤ k → k < e → W'.heap[k]? = W.heap[k]?) → RD n W' x ns ls
theorem KR.move {n : Nat} {W W1 : World} {x : VT n} {ns ls : Value} {s e : Nat} (h : KR n W x ns ls s e) (hs : e ≤ W1.heap.size) (hb : ∀ k, s ≤ k → k < e → W1.heap[k]? = W.heap[k]?) : KR n W1 x ns ls s e :=
  ⟨h.1, hs, fun W' h' => h.2.2 W' fun k h1 h2 => (h' k h1 h2).trans (hb k h1 h2)⟩
theorem KR.rd {n : Nat} {W : World} {x : VT n} {ns ls : Value} {s e : Nat} (h : KR n W x ns ls s e) : RD n W x ns ls := h.2.2 W fun _ _ _ => rfl
/-- Where Copy stands: k elements are copied. -/
structure LI (n : Nat) (l : List (VT n)) (w1 : World) (k : Nat) (lv : Value) (W : World) : Prop where
  below : Below w1.heap.size w1 W
  row : ∃ xs, W.ownsRow w1.heap.size 29 9 lv k xs ∧ ∀ j (h : j < l.length), j < k → ∃ ns ls s e, KR n W l[j] ns ls s e ∧ w1.heap.size ≤ s ∧ (∀ g, lv.ownBlock = some g → g < s ∨ e ≤ g) ∧ ∀ r v, (vals (vhd n l[j]) ns ls).toList[r]? = some v → xs[j * 9 + r]? = some v
theorem LI.start {n : Nat} {l : List (VT n)} {w1 : World} : LI n l w1 0 (.slice none 0 0) w1 :=
  ⟨Below.refl _ _, [], World.ownsRow_nil _ _ _ _, fun j _ h => by omega⟩
theorem LI.step {n : Nat} {l : List (VT n)} {w1 W w2 w3 w4 : World} {k : Nat} {lv lv' : Value} {xs : List Value} {ns ls : Value} (h : LI n l w1 k lv W) (hk : k < l.length)
    (hx : W.ownsRow w1.heap.size 29 9 lv k xs)
    (hall : ∀ j (h : j < l.length), j < k → ∃ ns ls s e, KR n W l[j] ns ls s e ∧ w1.heap.size ≤ s ∧ (∀ g, lv.ownBlock = some g → g < s ∨ e ≤ g) ∧ ∀ r v, (vals (vhd n l[j]) ns ls).toList[r]? = some v → xs[j * 9 + r]? = some v)
    (hc : KR n w2 l[k] ns ls W.heap.size w2.heap.size) (hb2 : Below W.heap.size W w2) (hb3 : Below w2.heap.size w2 w3) (hg : w3.grownBy w4 lv.ownBlock)
    (ho : w4.ownsRow w1.heap.size 29 9 lv' (k + 1) (xs ++ (vals (vhd n l[k]) ns ls).toList)) (hat : lv'.ownBlock = lv.ownBlock ∨ lv'.ownBlock = some w3.heap.size) : LI n l w1 (k + 1) lv' w4 := by
  have hB := h.below.size
  have hrow := hx.lt
  have z2 := hb2.size
  have z3 := hb3.size
  have z4 := hg.size
  refine ⟨?_, _, ho, ?_⟩
  · refine (((h.below.trans (hb2.mono hB)).trans (hb3.mono (by omega))).grown hg (by omega) fun g hg' => (hrow g hg').1)
  · intro j hj hjk
    by_cases hjk' : j < k
    · obtain ⟨ns', ls', s, e, k1, k2, k3, k4⟩ := hall j hj hjk'
      refine ⟨ns', ls', s, e, k1.move (by have := k1.2.1; omega) ?_, k2, ?_, ?_⟩
      · intro q q1 q2
        have := k1.2.1
        rw [hg.block q (by omega) (fun e1 => by rcases k3 q e1.symm with h | h <;> omega), hb3.block q (by omega), hb2.block q (by omega)]
      · intro g hg'
        rcases hat with h | h
        · exact k3 g (h ▸ hg')
        · rw [h] at hg'; cases hg'; right; have := k1.2.1; omega
      · intro r v hr
        have := k4 r v hr
        rw [List.getElem?_append_left ((List.getElem?_eq_some_iff.1 this).1)]
        exact this
    · obtain rfl : j = k := by omega
      refine ⟨ns, ls, W.heap.size, w2.heap.size, hc.move (by omega) ?_, hB, ?_, ?_⟩
      · intro q q1 q2
        rw [hg.block q (by omega) (fun e1 => by have := (hrow q e1.symm).2; omega), hb3.block q (by omega)]
      · intro g hg'
        rcases hat with h | h
        · left; exact (hrow g (h ▸ hg')).2
        · rw [h] at hg'; cases hg'; right; omega
      · intro r v hr
        have hl : xs.length = j * 9 := hx.1
        rw [List.getElem?_append_right (by omega), hl, Nat.add_sub_cancel_left]
        exact hr
/-- What Copy makes: all that it made lies in new blocks. -/
theorem LI.done {n : Nat} {h : Hd} {l : List (VT n)} {w w1 W W1 : World} {nv lv : Value} (H : LI n l w1 l.length lv W) (ho : OwnS w1 (w.heap.size + 2) nv h.names) (hz : w.heap.size + 2 ≤ w1.heap.size)
    (hs : W1.heap.size = W.heap.size) (hb : ∀ k, w.heap.size + 2 ≤ k → W1.heap[k]? = W.heap[k]?) : KR (n + 1) W1 (h, l) nv lv w.heap.size W1.heap.size := by
  obtain ⟨xs, hx, hall⟩ := H.row
  have hB := H.below.size
  refine ⟨by omega, Nat.le_refl _, fun W' h' => ⟨?_, ?_⟩⟩
  · have hr := World.ownsRow.lt ho
    have ho2 := ho
    obtain ⟨h0, h1⟩ := ho
    rcases h1 with ⟨rfl, e⟩ | ⟨g, cap, cur, rfl, k1, k2, k3, k4, k5, k6⟩
    · exact Or.inl ⟨rfl, List.eq_nil_of_length_eq_zero e⟩
    · have hg := (hr g rfl).2
      have hg2 := (hr g rfl).1
      have hsame : W'.heap[g]? = w1.heap[g]? := by rw [h' g (by omega) (by omega), hb g hg2, H.below.block g hg]
      refine Or.inr ⟨g, 0, cap, none, rfl, k3, k4, fun _ => ⟨rfl, ?_⟩, fun i hi => ?_⟩
      · by_cases hlt : g < W'.heap.size
        · exact hlt
        · rw [k2, Array.getElem?_eq_none (by omega)] at hsame; cases hsame
      · rw [Nat.zero_add, World.cell?_of_block (a := ⟨g, i, none⟩) hsame, World.ownsRow.cellAt ho2 i (by simpa using hi)]
        simp [scs, hi]
  · have hr := World.ownsRow.lt hx
    have hx2 := hx
    obtain ⟨h0, h1⟩ := hx
    rcases h1 with ⟨rfl, e⟩ | ⟨g, cap, cur, rfl, k1, k2, k3, k4, k5, k6⟩
    · exact Or.inl ⟨rfl, List.eq_nil_of_length_eq_zero e⟩
    · have hg := (hr g rfl).2
      have hsame : W'.heap[g]? = W.heap[g]? := by rw [h' g (by omega) (by omega), hb g (by omega)]
      refine Or.inr ⟨g, 0, cap, none, rfl, k3, k4, fun _ => ⟨rfl, ?_⟩, fun i hi => ?_⟩
      · by_cases hlt : g < W'.heap.size
        · exact hlt
        · rw [k2, Array.getElem?_eq_none (by omega)] at hsame; cases hsame
      · obtain ⟨ns', ls', s, e, q1, q2, q3, q4⟩ := hall i hi hi
        refine ⟨ns', ls', ?_, q1.2.2 W' fun k r1 r2 => ?_⟩
        · intro r v hrv
          have hq := q4 r v hrv
          have hlt := (List.getElem?_eq_some_iff.1 hq).1
          have hr9 : r < 9 := (List.getElem?_eq_some_iff.1 hrv).1
          rw [Nat.zero_add, World.cell?_of_block (a := ⟨g, i * 9 + r, none⟩) hsame, World.ownsRow.cellAt hx2 _ (by rw [h0] at hlt; exact hlt)]
          exact hq
        · have := q1.2.1
          rw [h' k (by omega) (by omega), hb k (by omega)]
end Go.Proofs.YtoaacfhjejmbnaaGreatDoor
/- calamuskeep.Copy: walked (XpCopy has what it leans on). -/
namespace Go.Proofs.YtoaacfhjejmbnaaGreatDoor
open Go.RowKit
set_option linter.unusedSimpArgs false
set_option linter.unusedVariables false
theorem ownsRow_of {W W1 : World} {B : Nat} {T : TypeId} {sz : Nat} {v : Value} {n : Nat} {xs : List Value} (h : W.ownsRow B T sz v n xs) (hb : ∀ k, v.ownBlock = some k → k < W.heap.size → W1.heap[k]? = W.heap[k]?) : W1.ownsRow B T sz v n xs := by
  have hr := World.ownsRow.lt h
  obtain ⟨h0, h⟩ := h
  refine ⟨h0, ?_⟩
  rcases h with ⟨rfl, e⟩ | ⟨g, cap, cur, rfl, h2, h3, h4⟩
  · exact Or.inl ⟨rfl, e⟩
  · exact Or.inr ⟨g, cap, cur, rfl, h2, by rw [hb g rfl (hr g rfl).2]; exact h3, h4⟩
/-- An empty struct in a block of its own. -/
def ZB (W : World) (i : Nat) : Prop := W.heap[i]? = some (.cells #[.int .i64 0, .bool false, .bool false, .string ⟨#[]⟩, .int .i64 0, .int .u64 0, .string ⟨#[]⟩, .slice none 0 0, .slice none 0 0] 29 (0, 0))
theorem ZB.cells {W : World} {i : Nat} (q : ZB W i) : W.cell? ⟨i, 0, none⟩ = some (.int .i64 0) ∧ W.cell? ⟨i, 1, none⟩ = some (.bool false) ∧ W.cell? ⟨i, 2, none⟩ = some (.bool false) ∧ W.cell? ⟨i, 3, none⟩ = some (.string ⟨#[]⟩) ∧ W.cell? ⟨i, 4, none⟩ = some (.int .i64 0) ∧ W.cell? ⟨i, 5, none⟩ = some (.int .u64 0) ∧ W.cell? ⟨i, 6, none⟩ = some (.string ⟨#[]⟩) ∧ W.cell? ⟨i, 7, none⟩ = some (.slice none 0 0) ∧ W.cell? ⟨i, 8, none⟩ = some (.slice none 0 0) := by
  unfold ZB at q
  simp [World.cell?, q]
theorem ZB.frz {W : World} {i : Nat} (q : ZB W i) (j : Nat) : W.frozen? ⟨i, j, none⟩ = false := by
  unfold ZB at q
  simp [World.frozen?, q]
theorem Bx.frz {W : World} {i : Nat} {h : Hd} {ns ls : Value} (q : Bx W i h ns ls) (j : Nat) : W.frozen? ⟨i, j, none⟩ = false := by
  have := q.at_
  simp [World.frozen?, this]
theorem heap_set_ne {W : World} {i o q : Nat} {u : Value} (h : q ≠ i) : (W.setCell ⟨i, o, none⟩ u).heap[q]? = W.heap[q]? := Below.heap_setCell _ _ _ _ h
theorem range_new (w : World) (h : Hd) (ns ls : Value) : (w.alloc (.cells (vals h ns ls) 29)).rangeAt w.heap.size 0 (vals h ns ls).toList := (bx_new w h ns ls).range
end Go.Proofs.YtoaacfhjejmbnaaGreatDoor
