/- Bytes that are appended to a slice of the call's own. -/
import Derived.Test.YtjpdlibncmldlaaDoorNtText
import Derived.Test.YtjpdlibncmldlaaDoorNeArr
import Derived.Lib.AppendStr
namespace Go.Proofs.YtjpdlibncmldlaaDoor
open Go.RowKit
set_option linter.unusedSimpArgs false
set_option linter.unusedVariables false
/-- Bytes as cells. -/
def bcs (l : List UInt8) : List Value := l.map fun c => Value.int .u8 (c.toNat : Int)
theorem bcs_length (l : List UInt8) : (bcs l).length = l.length := by simp [bcs]
theorem bcs_append (a b : List UInt8) : bcs (a ++ b) = bcs a ++ bcs b := by simp [bcs]
theorem strCells_bcs (s : ByteArray) : Lib.strCells s = bcs (bl s) := rfl
/-- v is a slice of the call's own (from block B on) of the bytes l. -/
def Own (W : World) (B : Nat) (v : Value) (l : List UInt8) : Prop := W.ownsRow B 5 1 v l.length (bcs l)
theorem own_nil (W : World) (B : Nat) : Own W B (.slice none 0 0) [] := World.ownsRow_nil _ _ _ _
theorem Own.alloc {W : World} {B : Nat} {v : Value} {l : List UInt8} (h : Own W B v l) (o : Obj) : Own (W.alloc o) B v l := World.ownsRow.alloc h o
theorem Own.row {W : World} {B : Nat} {v : Value} {l : List UInt8} (h : Own W B v l) : ∀ k, v.ownBlock = some k → B ≤ k := by
  obtain ⟨_, h⟩ := h
  rcases h with ⟨rfl, _⟩ | ⟨g, cap, cur, rfl, hg, _⟩
  · intro k hk; cases hk
  · intro k hk; cases hk; exact hg
theorem info5 : (Tryd.prog.info? 5).map (fun i => (i.zero, i.size, i.bytes)) = some (some (.int .u8 0), 1, 1) := by kernel_rfl
section
variable {w : World} {ops : Array Oper} {rest : List Oper} {o : Oper} {a : Act} {Q : Exit → Act → World → Prop}
theorem app_bytes (hgd : o.guard = none) (s x : Operand) (ho : o.op = .call { callee := .builtin .append, args := #[s, x], argTypes := #[37, 37] })
    (B : Nat) (v : Value) (l : List UInt8) (hs : a.eval s = v) (hown : Own w B v l) (ad : Addr) (m c : Nat) (news : List UInt8) (hx : a.eval x = .slice (some ad) m c) (hm : news.length = m)
    (hnews : ∀ j u, (bcs news)[j]? = some u → w.cell? (ad.add j) = some u) (hl : l.length + m ≤ 100000) (hB : B ≤ w.heap.size)
    (h : ∀ v' w', Hid (Own w' B v' (l ++ news)) → Hid (Below B w w') → w.heap.size ≤ w'.heap.size → wpList Tryd.prog ops Q rest (a.put o.dst v') w') : wpList Tryd.prog ops Q (o :: rest) a w := by
  obtain ⟨i0, hi, hz0, hz1, hz2⟩ := info_parts info5
  refine wpList_append_own w hgd s x 37 ho B 5 i0 (.int .u8 0) 1 1 Tryd.underlying37 hi hz0 hz1 hz2 rfl (by decide) v l.length (bcs l) hs hown ad m c (bcs news) hx (by rw [bcs_length, hm]; simp) hnews ?_ ?_ ?_ hB ?_
  · intro u hu
    simp only [bcs, List.mem_map] at hu
    obtain ⟨c, _, rfl⟩ := hu
    rfl
  · unfold maxLen; omega
  · omega
  · intro v' w' h1 h2 _
    refine h v' w' ?_ ?_ h2.size
    · show Own _ _ _ _
      unfold Own
      rw [bcs_append, List.length_append, hm]; exact h1
    · exact (Below.refl B w).grown h2 hB hown.row
theorem app_str (hgd : o.guard = none) (sl x : Operand) (ho : o.op = .call { callee := .builtin .append, args := #[sl, x], argTypes := #[37, 9] })
    (B : Nat) (v : Value) (l : List UInt8) (hs : a.eval sl = v) (hown : Own w B v l) (s : ByteArray) (hx : a.eval x = .string s) (hl : l.length + s.size ≤ 100000) (hB : B ≤ w.heap.size)
    (h : ∀ v' w', Hid (Own w' B v' (l ++ bl s)) → Hid (Below B w w') → w.heap.size ≤ w'.heap.size → wpList Tryd.prog ops Q rest (a.put o.dst v') w') : wpList Tryd.prog ops Q (o :: rest) a w := by
  obtain ⟨i0, hi, hz0, hz1, hz2⟩ := info_parts info5
  refine Lib.wpList_append_own_string w hgd sl x 37 9 ho B 5 i0 Tryd.underlying37 Tryd.underlying9 hi hz0 hz1 hz2 v l.length (bcs l) hs hown s hx (by unfold maxLen; omega) (by omega) hB ?_
  intro v' w' h1 h2 _
  refine h v' w' ?_ ?_ h2.size
  · show Own _ _ _ _
    unfold Own
    rw [bcs_append, List.length_append, bl_length, ← strCells_bcs]; exact h1
  · exact (Below.refl B w).grown h2 hB hown.row
end
theorem news_one (w : World) (c : UInt8) (T : TypeId) : ∀ j u, (bcs [c])[j]? = some u → (w.alloc (.cells #[.int .u8 (c.toNat : Int)] T)).cell? ((⟨w.heap.size, 0, none⟩ : Addr).add j) = some u := cell_one_new _ _ _
set_option maxHeartbeats 400000 in
theorem appendNoughts_any (B : Nat) (v : Value) (l : List UInt8) (k : Int) (w : World) (hown : Own w B v l) (hB : B ≤ w.heap.size) (hl : l.length ≤ 1000) (hk : k ≤ 1000) :
    Calls Tryd.prog 35 #[v, .int .i64 k] w fun e w' => ∃ v', e = .returned v' ∧ Hid (Own w' B v' (l ++ List.replicate k.toNat 48)) ∧ Hid (Below B w w') := by
  have hown := hide hown
  go_enter Tryd.func35, Tryd.ntmps35
  go_wp2
  go_loopw [0, 6] (fun b i wr => ∃ j : Nat, j ≤ k.toNat ∧ i = .int .i64 j ∧ Hid (Own wr B b (l ++ List.replicate j 48)) ∧ Hid (Below B w wr) ∧ B ≤ wr.heap.size) (fun _ i _ => k.toNat - (intOf i).toNat)
  case atStart => exact ⟨0, Nat.zero_le _, rfl, by show Own _ _ _ _; simpa using hown.out, Below.refl _ _, hB⟩
  case round =>
    obtain ⟨j, hj, rfl, ho, hb, hBr⟩ := hrel
    by_cases hlt : (j : Int) < k
    · have hn := hide (news_one wr 48 5)
      go_wp2_with (at_builtin; refine app_bytes rfl _ _ rfl B _ (l ++ List.replicate j 48) rfl (ho.out.alloc _) ⟨wr.heap.size, 0, none⟩ 1 1 [48] rfl rfl hn.out (by simp; omega) (by simp; omega) ?_; intro v' w' h1 h2 h3)
      refine ⟨⟨j + 1, by omega, by go_num, ?_, ?_, ?_⟩, by simp [intOf]; omega⟩
      · show Own _ _ _ _
        rw [List.replicate_succ', ← List.append_assoc]; exact h1.out
      · exact (hb.out.alloc hBr _).trans h2.out
      · simp at h3; omega
    · go_wp2
      go_ret
      have e : j = k.toNat := by omega
      subst e
      exact ⟨_, rfl, ho.out, hb.out⟩
theorem news_two (w : World) (c d : UInt8) (T : TypeId) : ∀ j u, (bcs [c, d])[j]? = some u → (w.alloc (.cells #[.int .u8 (c.toNat : Int), .int .u8 (d.toNat : Int)] T)).cell? ((⟨w.heap.size, 0, none⟩ : Addr).add j) = some u := cell_two_new _ _ _ _
/-- digits with a point ahead of the last bh of them. -/
def pointed (l : List UInt8) (bh : Nat) : List UInt8 :=
  if l.length ≤ bh then 48 :: 46 :: (List.replicate (bh - l.length) 48 ++ l) else l.take (l.length - bh) ++ 46 :: l.drop (l.length - bh)
set_option maxHeartbeats 400000 in
theorem appendPointed_le (B : Nat) (v : Value) (l : List UInt8) (s : ByteArray) (bh : Nat) (w : World) (hown : Own w B v l) (hB : B ≤ w.heap.size) (hl : l.length ≤ 100) (hs : s.size ≤ bh) (hbh : bh ≤ 100) :
    Calls Tryd.prog 36 #[v, .string s, .int .i64 bh] w fun e w' => ∃ v', e = .returned v' ∧ Hid (Own w' B v' (l ++ pointed (bl s) bh)) ∧ Hid (Below B w w') := by
  have hown := hide hown
  have hn := hide (news_two w 48 46 5)
  have hfin := hide (show l ++ pointed (bl s) bh = l ++ [48, 46] ++ List.replicate (bh - s.size) 48 ++ bl s by
    unfold pointed; rw [bl_length, if_pos hs]; simp)
  have hc : ((s.size : Int) - (bh : Int) ≤ 0) := by omega
  go_enter Tryd.func36, Tryd.ntmps36
  go_wp2_with (at_builtin; refine app_bytes rfl (.tmp 14) (.tmp 15) rfl B _ l rfl (hown.out.alloc _) ⟨w.heap.size, 0, none⟩ 2 2 [48, 46] rfl rfl hn.out (by omega) (by simp; omega) ?_; intro v1 w1 h1 h2 h3)
  simp at h3
  go_wp2_with fail
  have hneg : -((s.size : Int) - (bh : Int)) = ((bh - s.size : Nat) : Int) := by omega
  refine (appendNoughts_any B v1 (l ++ [48, 46]) _ w1 h1.out (by omega) (by simp; omega) ?_).mono ?_
  · omega
  rintro e w2 ⟨v2, rfl, h4, h5⟩
  have h6 : B ≤ w2.heap.size := by have := h5.out.size; omega
  have hk : ((-((s.size : Int) - (bh : Int))).toNat) = bh - s.size := by omega
  go_wp2_with (at_builtin; refine app_str rfl (.tmp 21) (.tmp 22) rfl B _ _ rfl h4.out s rfl (by simp; omega) h6 ?_; intro v3 w3 h7 h8 h9)
  go_ret
  refine ⟨_, rfl, ?_, ?_⟩
  · show Own _ _ _ _
    rw [hfin.out]
    have := h7.out
    rw [hk] at this
    exact this
  · exact (((Below.refl B w).alloc hB _).trans h2.out).trans (h5.out.trans h8.out)
end Go.Proofs.YtjpdlibncmldlaaDoor
