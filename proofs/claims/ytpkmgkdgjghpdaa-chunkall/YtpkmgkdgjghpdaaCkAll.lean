/- calamuslaw06.ChunkAll: walked. -/
import Derived.Test.YtpkmgkdgjghpdaaCgPeeks
namespace Go.Proofs.Ytpkmgkdgjghpdaa
open Go.RowKit
set_option linter.unusedSimpArgs false
set_option linter.unusedVariables false
/-- A slice of ints reads as z. -/
def SI (w : World) (v : Value) (z : List Int) : Prop :=
  (v = .slice none 0 0 ∧ z = []) ∨ ∃ (a : Addr) (c : Nat), v = .slice (some a) z.length c ∧ z.length ≤ c ∧ c ≤ maxLen ∧ ∀ i (h : i < z.length), a.block < w.heap.size ∧ w.cell? (a.add i) = some (.int .i64 z[i]) ∧ -9223372036854775808 ≤ z[i] ∧ z[i] ≤ 9223372036854775807
theorem SI.below {w W : World} {v : Value} {z : List Int} (h : SI w v z) (hb : Below w.heap.size w W) : SI W v z := by
  rcases h with ⟨rfl, rfl⟩ | ⟨a, c, rfl, h1, h2, hc⟩
  · exact Or.inl ⟨rfl, rfl⟩
  · exact Or.inr ⟨a, c, rfl, h1, h2, fun i hi => ⟨Nat.lt_of_lt_of_le (hc i hi).1 hb.size, (hb.cell (p := a.add i) (by rw [add_block]; exact (hc i hi).1)).trans (hc i hi).2.1, (hc i hi).2.2⟩⟩
theorem SI.len {w : World} {v : Value} {z : List Int} (h : SI w v z) : ∃ a c, v = .slice a z.length c ∧ z.length ≤ c ∧ c ≤ maxLen := by
  rcases h with ⟨rfl, rfl⟩ | ⟨a, c, rfl, h1, h2, _⟩
  · exact ⟨none, 0, rfl, Nat.le_refl _, by decide⟩
  · exact ⟨some a, c, rfl, h1, h2⟩
theorem SI.at {w : World} {v : Value} {z : List Int} (h : SI w v z) (k : Nat) (hk : k < z.length) : ∃ a c, v = .slice (some a) z.length c ∧ z.length ≤ c ∧ c ≤ maxLen ∧ w.cell? (a.add k) = some (.int .i64 z[k]) ∧ -9223372036854775808 ≤ z[k] ∧ z[k] ≤ 9223372036854775807 ∧ a.block < w.heap.size := by
  rcases h with ⟨rfl, rfl⟩ | ⟨a, c, rfl, h1, h2, hc⟩
  · simp at hk
  · exact ⟨a, c, rfl, h1, h2, (hc k hk).2.1, (hc k hk).2.2.1, (hc k hk).2.2.2, (hc k hk).1⟩
/-- Where the next part ends. -/
def cutE (z : List Int) (i pos n : Nat) : Nat := if h : i < z.length then (if 0 ≤ z[i] ∧ z[i] ≤ ((n - pos : Nat) : Int) then pos + z[i].toNat else n) else n
theorem cutE_le (z : List Int) (i pos n : Nat) (h : pos ≤ n) : pos ≤ cutE z i pos n ∧ cutE z i pos n ≤ n := by
  unfold cutE
  split
  · split
    · omega
    · omega
  · omega
set_option maxHeartbeats 1000000 in
theorem cut_any (v : Value) (z : List Int) (i pos n : Nat) (w : World) (si : SI w v z) (hi : i ≤ 1000) (hp : pos ≤ n) (hn : n ≤ 65536) :
    Calls Try.prog 11 #[v, .int .i64 i, .int .i64 pos, .int .i64 n] w fun r w' => r = .returned (.int .i64 (cutE z i pos n)) ∧ ∃ m, w' = w.drewN m := by
  obtain ⟨a, c, rfl, h1, h2⟩ := si.len
  by_cases hk : i < z.length
  · have hki : ¬ ((z.length : Int) ≤ (i : Int)) := by omega
    have hk2 : ¬ (z.length ≤ i) := by omega
    obtain ⟨a1, c1, e, _, _, hc, hl, hh, _⟩ := si.at i hk
    simp only [Value.slice.injEq] at e
    obtain ⟨rfl, _, rfl⟩ := e
    obtain ⟨q, hq⟩ : ∃ q, z[i] = q := ⟨_, rfl⟩
    rw [hq] at hc hl hh
    by_cases hq0 : q < 0
    · have e := hide (show cutE z i pos n = n by unfold cutE; rw [dif_pos hk, hq, if_neg (by omega)])
      clear si hq
      go_enter Try.func11, Try.ntmps11
      go_wp2
      go_ret
      exact ⟨by rw [e.out]; rfl, 0, rfl⟩
    · obtain ⟨qn, rfl⟩ := Int.eq_ofNat_of_zero_le (show 0 ≤ q by omega)
      by_cases hq1 : (n : Int) - (pos : Int) < (qn : Int)
      · have e := hide (show cutE z i pos n = n by unfold cutE; rw [dif_pos hk, hq, if_neg (by omega)])
        clear si hq
        go_enter Try.func11, Try.ntmps11
        go_wp2
        go_ret
        exact ⟨by rw [e.out]; rfl, 0, rfl⟩
      · have e := hide (show cutE z i pos n = pos + qn by unfold cutE; rw [dif_pos hk, hq, if_pos (by omega)]; simp)
        clear si hq
        go_enter Try.func11, Try.ntmps11
        go_wp2
        go_ret
        exact ⟨by rw [e.out]; rfl, 0, rfl⟩
  · have hki : (z.length : Int) ≤ (i : Int) := by omega
    have e := hide (show cutE z i pos n = n by unfold cutE; rw [dif_neg hk])
    clear si
    go_enter Try.func11, Try.ntmps11
    go_wp2
    go_ret
    exact ⟨by rw [e.out]; rfl, 0, rfl⟩
theorem Fr.trans {i : Nat} {v : Value} {a b c : World} (h : Fr i v a b) (k : Fr i v b c) : Fr i v a c :=
  ⟨k.os.trans h.os, k.tape.trans h.tape, k.output.trans h.output, Nat.le_trans h.size k.size, fun q hq h1 h2 => (k.block q (Nat.lt_of_lt_of_le hq h.size) h1 h2).trans (h.block q hq h1 h2)⟩
theorem last_piece (L : List UInt8) (t q b : Nat) (h : b ≤ q) : (L.drop (t + q - b)).take b = ((L.drop t).take q).drop (q - b) := by
  rw [List.drop_take, List.drop_drop, show t + (q - b) = t + q - b by omega, show q - (q - b) = b by omega]
/-- Where ChunkAll stands: so much is fed, so much is taken, and that lies in got. -/
structure Al (w : World) (l : List UInt8) (pos t : Nat) (gv : Value) (v : Value) (gone : Nat) (W : World) : Prop where
  sr : Sr w v gone l.length (l.take pos) t t W
  own : Own W (w.heap.size + 1) gv (l.take t)
  sep : ∀ k, gv.ownBlock = some k → v.ownBlock ≠ some k
  tp : t ≤ pos
  pl : pos ≤ l.length
theorem Al.then {w W W1 : World} {l : List UInt8} {pos t gone : Nat} {gv v : Value} (h : Al w l pos t gv v gone W) (hb : Below W.heap.size W W1) : Al w l pos t gv v gone W1 :=
  { h with sr := h.sr.then hb, own := h.own.of fun k _ hk => hb.block k hk }
theorem Al.fed {w W W1 : World} {l : List UInt8} {pos pos' t gone gone' : Nat} {gv v v' : Value} (h : Al w l pos t gv v gone W) (hp : pos ≤ pos') (hl : pos' ≤ l.length)
    (c : Ch W1 w.heap.size (w.heap.size + 1) v' gone' l.length (l.take pos ++ (l.drop pos).take (pos' - pos)) t t) (f : Fr w.heap.size v W W1) (ho : v'.ownBlock = v.ownBlock ∨ ∀ k, v'.ownBlock = some k → W.heap.size ≤ k) : Al w l pos' t gv v' gone' W1 := by
  have he : l.take pos ++ (l.drop pos).take (pos' - pos) = l.take pos' := by rw [← List.take_add, show pos + (pos' - pos) = pos' by omega]
  rw [he] at c
  refine ⟨h.sr.by c f, h.own.of fun k hk hlt => f.block k hlt (by have := (h.own.row k hk).1; omega) (h.sep k hk), fun k hk e => ?_, by have := h.tp; omega, hl⟩
  rcases ho with h1 | h1
  · exact h.sep k hk (h1 ▸ e)
  · have := h1 k e; have := (h.own.row k hk).2; omega
/-- Taken, and laid behind what was got. -/
theorem Al.got {w W W1 W2 : World} {l : List UInt8} {pos t n gone : Nat} {gv gv' v : Value} (h : Al w l pos t gv v gone W) (hn : t + n ≤ pos)
    (c : Ch W1 w.heap.size (w.heap.size + 1) v gone l.length (l.take pos) (t + n) (t + n)) (f : Fr w.heap.size v W W1) (ho : Own W2 (w.heap.size + 1) gv' (l.take t ++ ((l.take pos).drop t).take n)) (hg : W1.grownBy W2 gv.ownBlock) (hat : gv'.ownBlock = gv.ownBlock ∨ gv'.ownBlock = some W1.heap.size) : Al w l pos (t + n) gv' v gone W2 := by
  have he : l.take t ++ ((l.take pos).drop t).take n = l.take (t + n) := by
    rw [List.drop_take, List.take_take, ← List.take_add]
    congr 1; omega
  rw [he] at ho
  have hpl := h.pl
  have hv := c.own.row
  have hi := c.cb.lt
  have hgn : ∀ k, gv.ownBlock = some k → k ≠ w.heap.size ∧ v.ownBlock ≠ some k := fun k hk => ⟨by have := (h.own.row k hk).1; omega, h.sep k hk⟩
  have hb : ∀ k, k < W1.heap.size → gv.ownBlock ≠ some k → W2.heap[k]? = W1.heap[k]? := fun k hk hne => hg.block k hk (fun e => hne e.symm)
  have c2 : Ch W2 w.heap.size (w.heap.size + 1) v gone l.length (l.take pos) (t + n) (t + n) :=
    { c with cb := c.cb.same (hb _ hi (fun e => (hgn _ e).1 rfl)), own := c.own.of fun k hk hlt => hb k hlt (fun e => (hgn k e).2 hk), hB := Nat.le_trans c.hB hg.size }
  have s1 := h.sr.by c f
  refine ⟨⟨c2, s1.below.grown hg (Nat.le_of_lt hi) fun k hk => by have := (h.own.row k hk).1; omega⟩, ho, fun k hk e => ?_, by omega, hpl⟩
  rcases hat with h1 | h1
  · exact h.sep k (h1 ▸ hk) e
  · rw [h1] at hk; cases hk
    have := (hv _ e).2
    omega
end Go.Proofs.Ytpkmgkdgjghpdaa
