/- The Join of two types, no program in sight. -/
import Derived.Test.YtlfnnecpinmjjaaDoorIbPure
namespace Go.Proofs.YtlfnnecpinmjjaaDoor
open Go.RowKit Go.Maps
set_option linter.unusedSimpArgs false
set_option linter.unusedVariables false
theorem tcnt_isT : ∀ (n : Nat) (x : TT n), IsT n x → tcnt n x + 1 ≤ 2 * tsiz n x
  | 0, x, _ => Empty.elim x
  | n + 1, x, ⟨hf, hk⟩ => by
    simp only [tcnt, tsiz]
    have h1 : x.1.names.length ≤ x.2.length := by rcases hf with ⟨_, q, _⟩ | ⟨_, q, _⟩ | ⟨_, _, q, _⟩ <;> omega
    have h3 : ∀ l : List (TT n), (∀ y ∈ l, IsT n y) → l.length + suml (l.map (tcnt n)) ≤ 2 * suml (l.map (tsiz n)) := by
      intro l
      induction l with
      | nil => intro _; simp [suml]
      | cons a l ih =>
        intro h
        simp only [List.map_cons, suml, List.length_cons]
        have q1 := tcnt_isT n a (h a (by simp))
        have q2 := ih (fun y hy => h y (by simp [hy]))
        omega
    have h4 := h3 x.2 hk
    omega
theorem tsz_of : ∀ (n : Nat) (x : TT n), TSht n x → TSz n x
  | 0, x, _ => Empty.elim x
  | n + 1, x, ⟨h1, h2, h3⟩ => ⟨by omega, fun s hs => by have := h2 s hs; omega, fun y hy => tsz_of n y (h3 y hy)⟩
/-- The type of every value. -/
def anyT (n : Nat) : TT (n + 1) := (⟨1, []⟩, [])
theorem anyT_chk (n : Nat) : TChk (n + 1) (anyT n) 0 := by
  have hn : ∀ y : TT n, y ∈ (anyT n).2 → False := fun y hy => by simp [anyT] at hy
  have hs : ∀ s : ByteArray, s ∈ (anyT n).1.names → False := fun s hs => by simp [anyT] at hs
  refine Or.inr (Or.inr ⟨rfl, ⟨Or.inr (Or.inr ⟨by simp [anyT], by simp [anyT], rfl, rfl⟩), fun y hy => (hn y hy).elim⟩, ⟨by simp [anyT], fun s h => (hs s h).elim, fun y hy => (hn y hy).elim⟩, ?_, ?_⟩)
  · simp [tdep, anyT, mxl]
  · simp [tsiz, anyT, suml]
theorem TChk.zero {n : Nat} {x : TT n} (h : TChk n x 0) : IsT n x ∧ TWin n x := by
  rcases h with ⟨q, _⟩ | ⟨q, _⟩ | ⟨_, q⟩
  · omega
  · omega
  · exact q
/-- The Join of two types. -/
def Jn (n : Nat) (a b j : TT (n + 1)) : Prop :=
  (Prt (n + 1) a b ∧ j = b) ∨ (¬ Prt (n + 1) a b ∧ Prt (n + 1) b a ∧ j = a) ∨
  (¬ Prt (n + 1) a b ∧ ¬ Prt (n + 1) b a ∧ a.1.kind = 11 ∧ b.1.kind = 11 ∧ ∃ nm ts, US n a b b.1.names.length nm ts ∧ TChk (n + 1) (⟨11, nm⟩, ts) 0 ∧ j = (⟨11, nm⟩, ts)) ∨
  (¬ Prt (n + 1) a b ∧ ¬ Prt (n + 1) b a ∧ (¬ (a.1.kind = 11 ∧ b.1.kind = 11) ∨ Ubad n a b ∨ ∃ nm ts, US n a b b.1.names.length nm ts ∧ ¬ TChk (n + 1) (⟨11, nm⟩, ts) 0) ∧ j = anyT n)
theorem Jn.chk {n : Nat} {a b j : TT (n + 1)} (h : Jn n a b j) (ha : TChk (n + 1) a 0) (hb : TChk (n + 1) b 0) : TChk (n + 1) j 0 := by
  rcases h with ⟨_, rfl⟩ | ⟨_, _, rfl⟩ | ⟨_, _, _, _, nm, ts, _, q, rfl⟩ | ⟨_, _, _, rfl⟩
  · exact hb
  · exact ha
  · exact q
  · exact anyT_chk n
theorem Jn.both {n : Nat} {a b j : TT (n + 1)} (h : Jn n a b j) (ta : IsT (n + 1) a) (tb : IsT (n + 1) b) : Prt (n + 1) a j ∧ Prt (n + 1) b j := by
  rcases h with ⟨p, rfl⟩ | ⟨_, p, rfl⟩ | ⟨_, _, ka, kb, nm, ts, hu, q, rfl⟩ | ⟨_, _, _, rfl⟩
  · exact ⟨p, prt_refl _ _ tb⟩
  · exact ⟨prt_refl _ _ ta, p⟩
  · exact us_both ka kb ta tb hu
  · exact ⟨Or.inl rfl, Or.inl rfl⟩
/-- What a call may lean on, of a type within the limits. -/
theorem TRd.of {n : Nat} {w : World} {x : TT n} {ns ls : Value} (h : RT n w x ns ls) (hc : TChk n x 0) : TRd n w x ns ls :=
  ⟨h, tsz_of n x hc.zero.2.1, by have := hc.zero.2.2.2; omega⟩
theorem chk2_zero {E F : Int} (h : Chk2 E F = 0) : E = 0 ∧ F = 0 := by
  unfold Chk2 at h
  by_cases e : E = 0
  · subst e; exact ⟨rfl, h⟩
  · have : (E == 0) = false := beq_eq_false_iff_ne.2 e
    rw [this] at h
    exact absurd h e
theorem chk2_00 : Chk2 0 0 = 0 := rfl
theorem chk2_0 (F : Int) : Chk2 0 F = F := rfl
theorem chk2_r (E : Int) : Chk2 E 0 = E := by
  unfold Chk2
  by_cases e : E = 0
  · subst e; rfl
  · have : (E == 0) = false := beq_eq_false_iff_ne.2 e
    rw [this]; rfl
/-- What Join answers. -/
def JoinP (n : Nat) (C : Int) (x y : TT (n + 1)) (w : World) (e : Ending) (w' : World) : Prop :=
  (C ≠ 0 ∧ e = .returned (.tuple #[.agg #[.int .i64 0, .slice none 0 0, .slice none 0 0], .int .i64 C]) ∧ Below w.heap.size w w') ∨
  (C = 0 ∧ ∃ (j : TT (n + 1)) (ns2 ls2 : Value), e = .returned (.tuple #[.agg (tvs j.1 ns2 ls2), .int .i64 0]) ∧ Hid (Jn n x y j ∧ RT (n + 1) w' j ns2 ls2) ∧ Below w.heap.size w w')
/-- Join is walked. -/
def JoinOk : Prop := ∀ (n : Nat) (x y : TT (n + 1)) (ns ls ns' ls' : Value) (w : World), TRd (n + 1) w x ns ls → TRd (n + 1) w y ns' ls' → Ut.Gu w → Gt w → ∀ (E F : Int), TChk (n + 1) x E → TChk (n + 1) y F →
    Calls Tryd.prog 20 #[.agg (tvs x.1 ns ls), .agg (tvs y.1 ns' ls')] w fun e w' => JoinP n (Chk2 E F) x y w e w'
end Go.Proofs.YtlfnnecpinmjjaaDoor
