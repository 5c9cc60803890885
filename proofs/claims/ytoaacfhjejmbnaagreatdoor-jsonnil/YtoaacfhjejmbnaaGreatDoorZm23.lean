/- Merged by program: JsIndex, JtRead, JuQuote. -/
import Derived.Test.YtoaacfhjejmbnaaGreatDoorZm23a
import Derived.Laws.StandIn
import Derived.Test.YtoaacfhjejmbnaaGreatDoorZm03
import Derived.Test.YtoaacfhjejmbnaaGreatDoorZm06
/- strings.IndexByte (native below), as the reader calls it. -/
namespace Go.Proofs.YtoaacfhjejmbnaaGreatDoor
open Go.RowKit
set_option linter.unusedSimpArgs false
set_option linter.unusedVariables false
theorem run_ibs (s : ByteArray) (c : Int) (w : World) : (callFunc 156 #[.string s, .int .u8 c]).run Tryz.prog w = .ok (.value (.int .i64 (firstIdx s c.toNat.toUInt8))) w := by
  rw [run_callFunc_indexByte Tryz.func156 (by kernel_rfl) (by kernel_rfl) (by kernel_rfl) (by kernel_rfl), run_indexByte_string]
  rfl
theorem slib_any (s : ByteArray) (c : Int) (w : World) : Calls Tryz.prog 121 #[.string s, .int .u8 c] w fun r w' => r = .returned (.int .i64 (firstIdx s c.toNat.toUInt8)) ∧ w' = w := by
  go_enter Tryz.func121, Tryz.ntmps121
  go_wp2_with (first | rw [run_ibs])
  go_ret
  exact ⟨rfl, rfl⟩
theorem sib_any (s : ByteArray) (c : Int) (w : World) : Calls Tryz.prog 80 #[.string s, .int .u8 c] w fun r w' => r = .returned (.int .i64 (firstIdx s c.toNat.toUInt8)) ∧ w' = w := by
  have h := hide (slib_any s c w)
  go_enter Tryz.func80, Tryz.ntmps80
  go_wp2_with (go_at_call 121; refine h.out.mono ?_; rintro e w1 ⟨rfl, hw1⟩; have hw1s := hw1.symm; clear hw1; subst hw1s)
  go_ret
  exact ⟨rfl, rfl⟩
end Go.Proofs.YtoaacfhjejmbnaaGreatDoor
/- json's Reader in memory; quoted.hold walked. -/
namespace Go.Proofs.YtoaacfhjejmbnaaGreatDoor
open Go.RowKit
set_option linter.unusedSimpArgs false
set_option linter.unusedVariables false
/-- What a Reader's block holds. -/
structure Rv where
  total : Nat
  passed : Bool
  word : Value
  place : Nat
  held : Value
  digits : Nat
  number : Nat
  high : Nat
  wait : Nat
  behind : Nat
  opn : Value
  ck : Nat
  ty : Nat
  told : Value
def Rv.cells (s : Rv) : Array Value := #[.int .i64 0, .int .i64 s.total, .bool s.passed, s.word, .int .i64 s.place, s.held, .int .i64 s.digits, .int .i64 s.number, .int .i64 s.high, .int .i64 s.wait, .int .i64 s.behind, s.opn, .pointer (some ⟨s.ck, 0, none⟩), .pointer (some ⟨s.ty, 0, none⟩), s.told]
def RdB (W : World) (r : Nat) (s : Rv) : Prop := W.heap[r]? = some (.cells s.cells 83 (0, 0))
/-- What is changed but Reader r and the row that v lies in: nothing. -/
structure RdF (r : Nat) (v : Value) (W w' : World) : Prop where
  below : Below r W w'
  keep : ∀ q, q < W.heap.size → q ≠ r → v.ownBlock ≠ some q → w'.heap[q]? = W.heap[q]?
section
variable {W W1 W2 : World} {r : Nat} {s : Rv} {v : Value}
theorem RdB.lt (q : RdB W r s) : r < W.heap.size := (Array.getElem?_eq_some_iff.1 q).1
theorem RdB.same (q : RdB W r s) (h : W1.heap[r]? = W.heap[r]?) : RdB W1 r s := h.trans q
theorem RdB.cell (q : RdB W r s) (j : Nat) : W.cell? ⟨r, j, none⟩ = s.cells[j]? := by
  unfold RdB at q
  simp [World.cell?, q]
theorem RdB.frz (q : RdB W r s) (j : Nat) : W.frozen? ⟨r, j, none⟩ = false := by
  unfold RdB at q
  simp [World.frozen?, q]
theorem RdB.set (q : RdB W r s) (j : Nat) (u : Value) (s' : Rv) (h : s.cells.setIfInBounds j u = s'.cells) : RdB (W.setCell ⟨r, j, none⟩ u) r s' := by
  unfold RdB at q ⊢
  rw [setCell_eq_setRow W r j _ _ (0, 0) _ q, setRow_heap W r _ _ _ (0, 0) q, ← h]
theorem RdF.refl : RdF r v W W := ⟨Below.refl _ _, fun _ _ _ _ => rfl⟩
theorem RdF.then (h : RdF r v W W1) (k : Below W1.heap.size W1 W2) (ht : r ≤ W1.heap.size) : RdF r v W W2 :=
  ⟨h.below.trans (k.mono ht), fun q h1 h2 h3 => (k.block q (Nat.lt_of_lt_of_le h1 h.below.size)).trans (h.keep q h1 h2 h3)⟩
theorem RdF.set (h : RdF r v W W1) (j : Nat) (u : Value) : RdF r v W (W1.setCell ⟨r, j, none⟩ u) :=
  ⟨h.below.setCell (p := ⟨r, j, none⟩) (Nat.le_refl _) _, fun q h1 h2 h3 => (Below.heap_setCell _ _ _ _ h2).trans (h.keep q h1 h2 h3)⟩
theorem RdF.grown (h : RdF r v W W1) (hg : W1.grownBy W2 v.ownBlock) (ht : r ≤ W1.heap.size) (hv : ∀ k, v.ownBlock = some k → r ≤ k) : RdF r v W W2 :=
  ⟨h.below.grown hg ht hv, fun q h1 h2 h3 => (hg.block q (Nat.lt_of_lt_of_le h1 h.below.size) (fun e => h3 e.symm)).trans (h.keep q h1 h2 h3)⟩
end
/-- What hold makes of a reader. -/
def HoP (W : World) (r : Nat) (s : Rv) (A T : List UInt8) (e : Ending) (w' : World) : Prop :=
  (A.length + T.length ≤ 8192 ∧ e = .returned (.tuple #[]) ∧ RdF r s.held W w' ∧ ∃ v', RdB w' r { s with held := v' } ∧ Own w' (r + 1) v' (A ++ T) ∧ (v'.ownBlock = s.held.ownBlock ∨ v'.ownBlock = some W.heap.size)) ∨ (8192 < A.length + T.length ∧ e = .panicked (pan 2) ∧ w' = W)
set_option maxHeartbeats 1000000 in
set_option maxRecDepth 100000 in
theorem hold_any (x : ByteArray) (A : List UInt8) (W : World) (r : Nat) (s : Rv) (h : RdB W r s) (ho : Own W (r + 1) s.held A) (hA : A.length ≤ 8192) (hx : x.size ≤ 281474976710656) :
    Calls Tryz.prog 148 #[.pointer (some ⟨r, 4, none⟩), .string x] W fun e w' => HoP W r s A (bl x) e w' := by
  have hlt := h.lt
  obtain ⟨a, c, hv⟩ : ∃ a c, s.held = .slice a A.length c := by
    rcases ho.2 with ⟨e1, e⟩ | ⟨g, cap, cur, e1, _⟩
    · exact ⟨none, 0, by rw [e1, e]⟩
    · exact ⟨_, _, e1⟩
  have c0 : W.cell? ⟨r, 5, none⟩ = some (.slice a A.length c) := (h.cell 5).trans (by rw [← hv]; rfl)
  have f0 : W.frozen? ⟨r, 5, none⟩ = false := h.frz 5
  rw [hv] at ho
  have h1' := hide h
  have h2' := hide ho
  have hbl := hide (bl_length x)
  have hv' := hide hv
  clear h ho hv
  have hw : IntKind.i64.wrap ((A.length : Int) + (x.size : Int)) = (A.length : Int) + (x.size : Int) := by rw [IntKind.wrap_i64] <;> omega
  by_cases hbig : (8192 : Int) < (A.length : Int) + (x.size : Int)
  · go_enter Tryz.func148, Tryz.ntmps148
    go_wp2_with fail
    exact ⟨rfl, Or.inr ⟨by rw [hbl.out]; omega, rfl, rfl⟩⟩
  · go_enter Tryz.func148, Tryz.ntmps148
    go_wp2_with (at_builtin; refine Sto.out ?_)
    refine Sto.mk ?_
    refine app_str2 rfl (.tmp 18) (.tmp 19) rfl (r + 1) (.slice a A.length c) A rfl h2'.out x rfl (by omega) (by omega) ?_
    intro v' w' ho hg hat
    have hz := hg.out.size
    have hll := World.ownsRow.lt h2'.out
    have hblk : Hid (RdB w' r s) := h1'.out.same (hg.out.block r hlt (fun q => by have := (hll r q.symm).1; omega))
    have c1 : w'.cell? ⟨r, 5, none⟩ = some (.slice a A.length c) := (hblk.out.cell 5).trans (by rw [← hv'.out]; rfl)
    have f1 : w'.frozen? ⟨r, 5, none⟩ = false := hblk.out.frz 5
    clear c0 f0
    obtain ⟨a2, n2, c2, rfl⟩ : ∃ a2 n2 c2, v' = .slice a2 n2 c2 := by
      rcases ho.out.2 with ⟨rfl, e⟩ | ⟨g, cap, cur, rfl, _⟩
      · exact ⟨_, _, _, rfl⟩
      · exact ⟨_, _, _, rfl⟩
    go_wp2_with fail
    go_end0
    refine Or.inl ⟨by rw [hbl.out]; omega, rfl, ?_, .slice a2 n2 c2, hblk.out.set 5 _ _ rfl, ?_, ?_⟩
    · rw [hv'.out]
      exact (RdF.refl.grown hg.out (by omega) (fun k hk => by have := (hll k hk).1; omega)).set 5 _
    · exact own_of ho.out fun k hk _ => Below.heap_setCell _ _ _ _ (by have := (World.ownsRow.lt ho.out k hk).1; show k ≠ r; omega)
    · rw [hv'.out]
      exact hat.out
end Go.Proofs.YtoaacfhjejmbnaaGreatDoor
/- json's quoted: plain walked. -/
namespace Go.Proofs.YtoaacfhjejmbnaaGreatDoor
open Go.RowKit
set_option linter.unusedSimpArgs false
set_option linter.unusedVariables false
/-- A text in quotes, as far as it has come. -/
structure Qa where
  place : Nat
  held : List UInt8
  digits : Nat
  number : Nat
  high : Nat
def Rv.q (s : Rv) (q : Qa) (v : Value) : Rv := { s with place := q.place, held := v, digits := q.digits, number := q.number, high := q.high }
/-- It lies in the reader so, its bytes at v. -/
structure QM (W : World) (r : Nat) (s : Rv) (q : Qa) (v : Value) : Prop where
  rd : RdB W r (s.q q v)
  own : Own W (r + 1) v q.held
  len : q.held.length ≤ 8192
  num : q.number < 16 ^ q.digits
  hig : q.high = 0 ∨ (55296 ≤ q.high ∧ q.high < 56320)
  dig : q.digits ≤ 4
/-- Where a row lies behind a call. -/
def OB (W : World) (v v' : Value) : Prop := v'.ownBlock = v.ownBlock ∨ ∀ g, v'.ownBlock = some g → W.heap.size ≤ g
theorem OB.refl (W : World) (v : Value) : OB W v v := Or.inl rfl
theorem OB.trans {W W1 : World} {v v1 v2 : Value} (h : OB W v v1) (k : OB W1 v1 v2) (hz : W.heap.size ≤ W1.heap.size) : OB W v v2 := by
  rcases k with k | k
  · rcases h with h | h
    · exact Or.inl (k.trans h)
    · exact Or.inr fun g e => h g (k ▸ e)
  · exact Or.inr fun g e => Nat.le_trans hz (k g e)
/-- What a call on it answers: the error of a panic, or what is returned and what it is then. -/
def QP (W : World) (r : Nat) (s : Rv) (v : Value) (o : Sum Int (Value × Qa)) (e : Ending) (w' : World) : Prop :=
  RdF r v W w' ∧ match o with
  | .inl E => e = .panicked (pan E) ∧ ∃ s', RdB w' r s'
  | .inr x => e = .returned x.1 ∧ ∃ v', QM w' r s x.2 v' ∧ OB W v v'
def plainQ (q : Qa) (c : UInt8) : Sum Int (Value × Qa) :=
  if c = 92 then .inr (.bool false, { q with place := 2 })
  else if q.high ≠ 0 ∨ c < 32 then .inl 70
  else if c = 34 then .inr (.bool true, q)
  else if q.held.length + 1 ≤ 8192 then .inr (.bool false, { q with held := q.held ++ [c] }) else .inl 2
section
variable {W W1 W2 : World} {r : Nat} {s : Rv} {q : Qa} {v : Value}
theorem RdF.pre (k : RdF r v W1 W2) (h : Below W.heap.size W W1) (ht : r ≤ W.heap.size) : RdF r v W W2 :=
  ⟨(h.mono ht).trans k.below, fun q h1 h2 h3 => (k.keep q (Nat.lt_of_lt_of_le h1 h.size) h2 h3).trans (h.block q h1)⟩
theorem QM.setp (h : QM W r s q v) (n : Nat) : QM (W.setCell ⟨r, 4, none⟩ (.int .i64 n)) r s { q with place := n } v :=
  ⟨h.rd.set 4 _ _ rfl, own_of h.own fun k hk _ => Below.heap_setCell _ _ _ _ (by have := (World.ownsRow.lt h.own k hk).1; show k ≠ r; omega), h.len, h.num, h.hig, h.dig⟩
set_option maxHeartbeats 1000000 in
theorem plain_any (h : QM W r s q v) (c : UInt8) : Calls Tryz.prog 112 #[.pointer (some ⟨r, 4, none⟩), .int .u8 c.toNat] W fun e w' => QP W r s v (plainQ q c) e w' := by
  have H := hide h
  have hlt := h.rd.lt
  have c4 : W.cell? ⟨r, 4, none⟩ = some (.int .i64 q.place) := (h.rd.cell 4).trans rfl
  have c8 : W.cell? ⟨r, 8, none⟩ = some (.int .i64 q.high) := (h.rd.cell 8).trans rfl
  have f4 : W.frozen? ⟨r, 4, none⟩ = false := h.rd.frz 4
  clear h
  by_cases h92 : c = 92
  · subst h92
    go_enter Tryz.func112, Tryz.ntmps112
    go_wp2
    go_ret
    exact ⟨RdF.refl.set 4 _, rfl, v, H.out.setp 2, OB.refl _ _⟩
  · have e92 : ((c.toNat : Int) == 92) = false := by
      have : ¬ (c.toNat : Int) = 92 := fun e => h92 (by apply UInt8.toNat_inj.1; simpa using (by omega : c.toNat = 92))
      simpa using this
    by_cases hh : q.high ≠ 0
    · have eh : ((q.high : Int) == 0) = false := by simpa using hh
      have hq : plainQ q c = .inl 70 := by unfold plainQ; rw [if_neg h92, if_pos (Or.inl hh)]
      rw [hq]
      go_enter Tryz.func112, Tryz.ntmps112
      go_wp2_with fail
      exact ⟨rfl, RdF.refl, rfl, _, H.out.rd⟩
    · have hz : q.high = 0 := by omega
      rw [hz] at c8
      by_cases h32 : c < 32
      · have e32 : decide ((c.toNat : Int) < 32) = true := by have := UInt8.lt_iff_toNat_lt.1 h32; simp at this ⊢; omega
        have hq : plainQ q c = .inl 70 := by unfold plainQ; rw [if_neg h92, if_pos (Or.inr h32)]
        rw [hq]
        go_enter Tryz.func112, Tryz.ntmps112
        go_wp2_with fail
        exact ⟨rfl, RdF.refl, rfl, _, H.out.rd⟩
      · have e32 : decide ((c.toNat : Int) < 32) = false := by have : ¬ c.toNat < 32 := fun e => h32 (UInt8.lt_iff_toNat_lt.2 (by simpa using e)); simp; omega
        by_cases h34 : c = 34
        · subst h34
          have hq : plainQ q 34 = .inr (.bool true, q) := by unfold plainQ; rw [if_neg h92, if_neg (fun o => o.elim hh h32), if_pos rfl]
          rw [hq]
          go_enter Tryz.func112, Tryz.ntmps112
          go_wp2
          go_ret
          exact ⟨RdF.refl, rfl, v, H.out, OB.refl _ _⟩
        · have e34 : ((c.toNat : Int) == 34) = false := by
            have : ¬ (c.toNat : Int) = 34 := fun e => h34 (by apply UInt8.toNat_inj.1; simpa using (by omega : c.toNat = 34))
            simpa using this
          have hq : plainQ q c = if q.held.length + 1 ≤ 8192 then .inr (.bool false, { q with held := q.held ++ [c] }) else .inl 2 := by unfold plainQ; rw [if_neg h92, if_neg (fun o => o.elim hh h32), if_neg h34]
          rw [hq]
          have hcv : (convert 32 9 (.slice (some ⟨W.heap.size, 0, none⟩) 1 1)).run Tryz.prog (W.alloc (.cells #[.int .u8 c.toNat] 5)) = .ok (.string (mkB [c])) (W.alloc (.cells #[.int .u8 c.toNat] 5)) :=
            run_convert_bytes_back _ 32 9 5 ⟨W.heap.size, 0, none⟩ 1 [c] Tryz.underlying32 Tryz.underlying5 Tryz.underlying9 (fun j hj => by
              have hj0 : j = 0 := by simpa using hj
              subst hj0
              show (W.alloc (.cells #[.int .u8 c.toNat] 5)).cell? ⟨W.heap.size, 0, none⟩ = _
              unfold World.cell?
              rw [heap_alloc_new]
              rfl)
          have HO := hide (hold_any (mkB [c]) q.held (W.alloc (.cells #[.int .u8 c.toNat] 5)) r (s.q q v) (H.out.rd.same (Below.heap_alloc _ _ _ hlt)) (own_of H.out.own fun k hk hk2 => Below.heap_alloc _ _ _ hk2) H.out.len (by simp [mkB, ByteArray.size]))
          clear hq c4
          by_cases hl : q.held.length + 1 ≤ 8192
          · rw [if_pos hl]
            have H1 : Hid (Calls Tryz.prog 148 #[.pointer (some ⟨r, 4, none⟩), .string (mkB [c])] (W.alloc (.cells #[.int .u8 c.toNat] 5)) fun e w' => e = .returned (.tuple #[]) ∧ RdF r v W w' ∧ ∃ v', QM w' r s { q with held := q.held ++ [c] } v' ∧ OB W v v') := HO.out.mono (by
              rintro e w1 (⟨l1, rfl, F, v', rd', ow', at'⟩ | ⟨l1, _⟩)
              · rw [bl_mkB] at ow'
                refine ⟨rfl, F.pre (below_al (Below.refl _ _)) (Nat.le_of_lt hlt), v', ⟨rd', ow', by simpa using hl, H.out.num, H.out.hig, H.out.dig⟩, ?_⟩
                rcases at' with e | e
                · exact Or.inl e
                · exact Or.inr fun g hg => by rw [e] at hg; cases hg; simp
              · rw [bl_mkB] at l1; simp at l1; omega)
            clear HO hl
            go_enter Tryz.func112, Tryz.ntmps112
            go_wp2_with (go_at_call 148; refine H1.out.mono ?_; rintro e w1 ⟨rfl, hp⟩; have P1 := hide hp; clear hp)
            go_ret
            exact ⟨P1.out.1, rfl, P1.out.2⟩
          · rw [if_neg hl]
            have H1 : Hid (Calls Tryz.prog 148 #[.pointer (some ⟨r, 4, none⟩), .string (mkB [c])] (W.alloc (.cells #[.int .u8 c.toNat] 5)) fun e w' => e = .panicked (pan 2) ∧ w' = (W.alloc (.cells #[.int .u8 c.toNat] 5))) := HO.out.mono (by
              rintro e w1 (⟨l1, _⟩ | ⟨l1, rfl, rfl⟩)
              · rw [bl_mkB] at l1; simp at l1; omega
              · exact ⟨rfl, rfl⟩)
            clear HO hl
            go_enter Tryz.func112, Tryz.ntmps112
            go_wp2_with (go_at_call 148; refine H1.out.mono ?_; rintro e w1 ⟨rfl, rfl⟩)
            exact ⟨rfl, RdF.refl.then (below_al (Below.refl _ _)) (Nat.le_of_lt hlt), rfl, _, H.out.rd.same (Below.heap_alloc _ _ _ hlt)⟩
end
end Go.Proofs.YtoaacfhjejmbnaaGreatDoor
