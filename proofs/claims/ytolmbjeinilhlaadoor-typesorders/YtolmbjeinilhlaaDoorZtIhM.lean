/- Merged by program: IaUpre, IhPure. -/
import Derived.Test.YtolmbjeinilhlaaDoorZtIbM
/- types.united: where it begins. -/
namespace Go.Proofs.YtolmbjeinilhlaaDoor
open Go.RowKit Go.Maps
set_option linter.unusedSimpArgs false
set_option linter.unusedVariables false
/-- Where united begins. -/
structure U0 (n : Nat) (w0 w : World) (h g : Th) (an al bn bl' : Value) (V : Nat) (l : List (TT n)) (nv lv : Value) (W : World) : Prop where
  below : Below w.heap.size w W
  hV : w.heap.size + 3 ≤ V
  box : Tx W V ⟨11, h.names⟩ nv lv
  nrow : OwnS W (w.heap.size + 3) nv h.names
  lrow : OT n w0 W (w.heap.size + 3) lv l
  nne : nv.ownBlock ≠ some V
  lne : lv.ownBlock ≠ some V
  ba : Tx W w.heap.size h an al
  bb : Tx W (w.heap.size + 1) g bn bl'
  bz : ZT W (w.heap.size + 2)
section
variable {n : Nat} {w0 w W W0 w1 w2 : World} {h g : Th} {an al bn bl' : Value} {V : Nat} {l : List (TT n)} {nv lv : Value}
theorem U0.map {W1 : World} (k : U0 n w0 w h g an al bn bl' V l nv lv W) (hM : MP W1 W.heap.size h.names) (hb : Below W.heap.size W W1) : UI n w0 w h g an al bn bl' V W.heap.size h.names l nv lv W1 :=
  ⟨below_then k.below hb, k.hV, by have := k.box.lt; have := k.hV; omega, k.box.below hb, ownsRow_of k.nrow fun q _ hq => hb.block q hq, k.lrow.below hb, k.nne, k.lne, hM, k.ba.below hb, k.bb.below hb, k.bz.below hb⟩
theorem OwnS.nl {W : World} {B : Nat} {v : Value} {l : List ByteArray} (ho : OwnS W B v l) : NL W v l := by
  have hr := World.ownsRow.lt ho
  have ho2 := ho
  obtain ⟨h0, h1⟩ := ho
  rcases h1 with ⟨rfl, e⟩ | ⟨g, cap, cur, rfl, k1, k2, k3, k4, k5, k6⟩
  · exact Or.inl ⟨rfl, List.eq_nil_of_length_eq_zero e⟩
  · refine Or.inr ⟨g, 0, cap, none, rfl, k3, k4, fun _ => ⟨rfl, (hr g rfl).2⟩, fun i hi => ?_⟩
    rw [Nat.zero_add, World.ownsRow.cellAt ho2 i (by simpa using hi)]
    simp [scs, hi]
theorem OT.low {m : Nat} {w0 W : World} {B B' : Nat} {v : Value} {l : List (TT m)} (h : OT m w0 W B v l) (hb : B' ≤ B) : OT m w0 W B' v l := by
  obtain ⟨xs, hx, hall⟩ := h
  exact ⟨xs, own_low hx hb, hall⟩
theorem u_set (hb : Below w.heap.size w W) (hV : w.heap.size + 3 ≤ V) (z : ZT W V) (nr : OwnS W (w.heap.size + 3) nv h.names) (lr : OT n w0 W (w.heap.size + 3) lv l) (nne : nv.ownBlock ≠ some V) (lne : lv.ownBlock ≠ some V) (ba : Tx W w.heap.size h an al) (bb : Tx W (w.heap.size + 1) g bn bl') (bz : ZT W (w.heap.size + 2)) :
    U0 n w0 w h g an al bn bl' V l nv lv (((W.setCell ⟨V, 0, none⟩ (.int .i64 11)).setCell ⟨V, 1, none⟩ nv).setCell ⟨V, 2, none⟩ lv) := by
  have s0 := set_heap9 W V 0 _ _ (.int .i64 11) z
  have s1 := set_heap9 _ V 1 _ _ nv s0.1
  have s2 := set_heap9 _ V 2 _ _ lv s1.1
  have oth : ∀ q, q ≠ V → (((W.setCell ⟨V, 0, none⟩ (.int .i64 11)).setCell ⟨V, 1, none⟩ nv).setCell ⟨V, 2, none⟩ lv).heap[q]? = W.heap[q]? := fun q hq => by rw [s2.2 q hq, s1.2 q hq, s0.2 q hq]
  refine ⟨?_, hV, ⟨s2.1⟩, ownsRow_of nr fun q e _ => oth q (fun e2 => nne (e2 ▸ e)), lr.keep fun q e _ => oth q (fun e2 => lne (e2 ▸ e)), nne, lne, ⟨(oth _ (by omega)).trans ba.at_⟩, ⟨(oth _ (by omega)).trans bb.at_⟩, (oth _ (by omega)).trans bz⟩
  iterate 3 refine Below.setCell ?_ (by show w.heap.size ≤ V; omega) _
  exact hb
theorem u_new (hb : Below w.heap.size w W) (hV : w.heap.size + 3 ≤ W.heap.size) (nr : OwnS W (w.heap.size + 3) nv h.names) (lr : OT n w0 W (w.heap.size + 3) lv l) (ba : Tx W w.heap.size h an al) (bb : Tx W (w.heap.size + 1) g bn bl') (bz : ZT W (w.heap.size + 2)) :
    U0 n w0 w h g an al bn bl' W.heap.size l nv lv (W.alloc (.cells #[.int .i64 11, nv, lv] 26)) := by
  have hb2 : Below W.heap.size W (W.alloc (.cells #[.int .i64 11, nv, lv] 26)) := below_al (Below.refl _ _)
  refine ⟨below_then hb hb2, hV, tx_new W ⟨11, h.names⟩ nv lv, ownsRow_of nr fun q _ hq => hb2.block q hq, lr.below hb2, ?_, ?_, ba.below hb2, bb.below hb2, bz.below hb2⟩
  · intro e; have := (World.ownsRow.lt nr _ e).2; omega
  · intro e; have := (lr.lt _ e).2; omega
/-- The three worlds in which the union's struct is made. -/
theorem un_set (hb0 : Below w.heap.size w W0) (hs : W0.heap.size = w.heap.size + 3) (hX : Tx W0 w.heap.size h an al) (hY : Tx W0 (w.heap.size + 1) g bn bl') (hZ : ZT W0 (w.heap.size + 2)) (B1 : Below W0.heap.size W0 w1) (B2 : Below w1.heap.size w1 w2) {B B' : Nat} (ho1 : OwnS w1 B nv h.names) (ho2 : OT n w0 w2 B' lv l) (hB : W0.heap.size ≤ B) (hB' : W0.heap.size ≤ B') (hV : W0.heap.size ≤ V) (z : ZT w2 V) (nne : V < B ∨ w1.heap.size ≤ V) (lne : V < B') :
    U0 n w0 w h g an al bn bl' V l nv lv (((w2.setCell ⟨V, 0, none⟩ (.int .i64 11)).setCell ⟨V, 1, none⟩ nv).setCell ⟨V, 2, none⟩ lv) := by
  have hb2 := below_then B1 B2
  refine u_set (below_then hb0 hb2) (by omega) z ?_ (ho2.low (by omega)) ?_ ?_ (hX.below hb2) (hY.below hb2) (hZ.below hb2)
  · exact own_low (ownsRow_of ho1 fun q _ hq => B2.block q hq) (by omega)
  · intro e; have := World.ownsRow.lt ho1 _ e; omega
  · intro e; have := ho2.lt _ e; omega
theorem un_new (hb0 : Below w.heap.size w W0) (hs : W0.heap.size = w.heap.size + 3) (hX : Tx W0 w.heap.size h an al) (hY : Tx W0 (w.heap.size + 1) g bn bl') (hZ : ZT W0 (w.heap.size + 2)) (B1 : Below W0.heap.size W0 w1) (B2 : Below w1.heap.size w1 w2) {B B' : Nat} (ho1 : OwnS w1 B nv h.names) (ho2 : OT n w0 w2 B' lv l) (hB : W0.heap.size ≤ B) (hB' : W0.heap.size ≤ B') :
    U0 n w0 w h g an al bn bl' w2.heap.size l nv lv (w2.alloc (.cells #[.int .i64 11, nv, lv] 26)) := by
  have hb2 := below_then B1 B2
  have z1 := B1.size
  have z2 := B2.size
  exact u_new (below_then hb0 hb2) (by omega) (own_low (ownsRow_of ho1 fun q _ hq => B2.block q hq) (by omega)) (ho2.low (by omega)) (hX.below hb2) (hY.below hb2) (hZ.below hb2)
end
theorem suml_set_le {α : Type} (f : α → Nat) (y : α) : ∀ (l : List α) (j : Nat), suml ((l.set j y).map f) ≤ suml (l.map f) + f y
  | [], j => by simp [suml]
  | a :: l, 0 => by simp [suml]; omega
  | a :: l, j + 1 => by
    have := suml_set_le f y l j
    simp only [List.set_cons_succ, List.map_cons, suml]
    omega
/-- What no name of b's names is as it was. -/
theorem US.same {n : Nat} {a b : TT (n + 1)} (na : a.1.names.Nodup) : ∀ {i : Nat} {nm : List ByteArray} {ts : List (TT n)}, US n a b i nm ts → ∀ (j : Nat) (h1 : j < a.1.names.length) (h2 : j < a.2.length), (∀ k, k < i → b.1.names[k]? ≠ some a.1.names[j]) → ts[j]? = some a.2[j]
  | 0, nm, ts, h, j, h1, h2, _ => by rw [h.2]; exact List.getElem?_eq_getElem h2
  | i + 1, nm, ts, ⟨nm0, ts0, h, k⟩, j, h1, h2, hk => by
    have ih := US.same na h j h1 h2 (fun k hk' => hk k (by omega))
    rcases k with ⟨s, y, e1, e2, _, rfl, rfl⟩ | ⟨j', s, x, y, e1, e2, e3, e4, rfl, hc⟩
    · rw [List.getElem?_append_left (List.getElem?_eq_some_iff.1 ih).1]; exact ih
    · have hne : j' ≠ j := by
        rintro rfl
        obtain ⟨g3, g3e⟩ := List.getElem?_eq_some_iff.1 e3
        exact hk i (by omega) (by rw [e1, g3e])
      rcases hc with ⟨_, rfl⟩ | ⟨_, _, rfl⟩
      · rw [List.getElem?_set_ne hne]; exact ih
      · rw [List.getElem?_set_ne hne]; exact ih
theorem US.siz {n : Nat} {a b : TT (n + 1)} (na : a.1.names.Nodup) (nb : b.1.names.Nodup) : ∀ {i : Nat} {nm : List ByteArray} {ts : List (TT n)}, US n a b i nm ts → suml (ts.map (tsiz n)) ≤ suml (a.2.map (tsiz n)) + suml ((b.2.take i).map (tsiz n))
  | 0, nm, ts, h => by rw [h.2]; omega
  | i + 1, nm, ts, ⟨nm0, ts0, h, k⟩ => by
    have ih := US.siz na nb h
    have tk : ∀ y, b.2[i]? = some y → suml ((b.2.take (i + 1)).map (tsiz n)) = suml ((b.2.take i).map (tsiz n)) + tsiz n y := by
      intro y hy
      obtain ⟨h1, rfl⟩ := List.getElem?_eq_some_iff.1 hy
      rw [List.take_succ_eq_append_getElem h1, List.map_append, suml_app]
      simp [suml]
    rcases k with ⟨s, y, e1, e2, _, rfl, rfl⟩ | ⟨j, s, x, y, e1, e2, e3, e4, rfl, hc⟩
    · rw [tk y e2, List.map_append, suml_app]
      simp only [List.map_cons, List.map_nil, suml]
      omega
    · rw [tk y e2]
      obtain ⟨g1, g1e⟩ := List.getElem?_eq_some_iff.1 e1
      obtain ⟨g3, g3e⟩ := List.getElem?_eq_some_iff.1 e3
      obtain ⟨g4, g4e⟩ := List.getElem?_eq_some_iff.1 e4
      rcases hc with ⟨_, rfl⟩ | ⟨_, _, rfl⟩
      · have hs := US.same na h j g3 g4 (fun k hk q => by
          obtain ⟨g5, g5e⟩ := List.getElem?_eq_some_iff.1 q
          have : k = i := (List.getElem_inj nb).1 (by rw [g5e, g3e, g1e])
          omega)
        obtain ⟨g6, g6e⟩ := List.getElem?_eq_some_iff.1 hs
        have : ts0.set j x = ts0 := by rw [← g4e, ← g6e]; exact List.set_getElem_self g6
        rw [this]
        omega
      · have := suml_set_le (tsiz n) y ts0 j
        omega
theorem US.mem {n : Nat} {a b : TT (n + 1)} : ∀ {i : Nat} {nm : List ByteArray} {ts : List (TT n)}, US n a b i nm ts → (∀ s ∈ nm, s ∈ a.1.names ∨ s ∈ b.1.names) ∧ ∀ y ∈ ts, y ∈ a.2 ∨ y ∈ b.2
  | 0, nm, ts, h => by rw [h.1, h.2]; exact ⟨fun s hs => Or.inl hs, fun s hs => Or.inl hs⟩
  | i + 1, nm, ts, ⟨nm0, ts0, h, k⟩ => by
    obtain ⟨h1, h2⟩ := US.mem h
    rcases k with ⟨s, y, e1, e2, _, rfl, rfl⟩ | ⟨j, s, x, y, e1, e2, e3, e4, rfl, hc⟩
    · refine ⟨fun t ht => ?_, fun t ht => ?_⟩
      · rcases List.mem_append.1 ht with q | q
        · exact h1 t q
        · rw [List.mem_singleton.1 q]; exact Or.inr (List.mem_of_getElem? e1)
      · rcases List.mem_append.1 ht with q | q
        · exact h2 t q
        · rw [List.mem_singleton.1 q]; exact Or.inr (List.mem_of_getElem? e2)
    · refine ⟨h1, fun t ht => ?_⟩
      rcases hc with ⟨_, rfl⟩ | ⟨_, _, rfl⟩
      · rcases List.mem_or_eq_of_mem_set ht with q | q
        · exact h2 t q
        · rw [q]; exact Or.inl (List.mem_of_getElem? e4)
      · rcases List.mem_or_eq_of_mem_set ht with q | q
        · exact h2 t q
        · rw [q]; exact Or.inr (List.mem_of_getElem? e2)
/-- The union is no larger than memory is. -/
theorem US.rd {n : Nat} {a b : TT (n + 1)} {i : Nat} {nm : List ByteArray} {ts : List (TT n)} (h : US n a b i nm ts) (la : a.1.names.length = a.2.length) (na : a.1.names.Nodup) (nb : b.1.names.Nodup) (za : TSz (n + 1) a) (zb : TSz (n + 1) b) (sa : tsiz (n + 1) a ≤ 4096) (sb : tsiz (n + 1) b ≤ 4096) (hi : i ≤ 4096) : TSz (n + 1) (⟨11, nm⟩, ts) ∧ tsiz (n + 1) ((⟨11, nm⟩, ts) : TT (n + 1)) ≤ 200000 := by
  have h1 := h.len la
  have h2 := h.mem
  have h3 := h.siz na nb
  have h4 := tsiz_len a.2
  have h5 : suml ((b.2.take i).map (tsiz n)) ≤ suml (b.2.map (tsiz n)) := by rw [List.map_take]; exact suml_take_le _ _
  simp only [tsiz] at sa sb ⊢
  refine ⟨⟨by simp only; omega, fun s hs => ?_, fun y hy => ?_⟩, by omega⟩
  · rcases h2.1 s hs with q | q
    · exact za.2.1 s q
    · exact zb.2.1 s q
  · rcases h2.2 y hy with q | q
    · exact za.2.2 y q
    · exact zb.2.2 y q
end Go.Proofs.YtolmbjeinilhlaaDoor
/- The Join of two types, no program in sight. -/
namespace Go.Proofs.YtolmbjeinilhlaaDoor
open Go.RowKit Go.Maps
set_option linter.unusedSimpArgs false
set_option linter.unusedVariables false
theorem tcnt_isT : ∀ (n : Nat) (x : TT n), IsT n x → tcnt n x + 1 ≤ 2 * tsiz n x
  | 0, x, _ => Empty.elim x
  | n + 1, x, ⟨hf, hk⟩ => by
    simp only [tcnt, tsiz]
    have h1 : x.1.names.length ≤ x.2.length := by rcases hf with ⟨_, q, _⟩ | ⟨_, q, _⟩ | ⟨_, _, q, _⟩ <;> omega
    have h3 : ∀ l : List (TT n), (∀ y ∈ l, IsT n y) → l.length + suml (l.map (tcnt n)) ≤ 2 * suml (l.map (tsiz n)) := by
      intro l
      induction l with
      | nil => intro _; simp [suml]
      | cons a l ih =>
        intro h
        simp only [List.map_cons, suml, List.length_cons]
        have q1 := tcnt_isT n a (h a (by simp))
        have q2 := ih (fun y hy => h y (by simp [hy]))
        omega
    have h4 := h3 x.2 hk
    omega
theorem tsz_of : ∀ (n : Nat) (x : TT n), TSht n x → TSz n x
  | 0, x, _ => Empty.elim x
  | n + 1, x, ⟨h1, h2, h3⟩ => ⟨by omega, fun s hs => by have := h2 s hs; omega, fun y hy => tsz_of n y (h3 y hy)⟩
/-- The type of every value. -/
def anyT (n : Nat) : TT (n + 1) := (⟨1, []⟩, [])
theorem anyT_chk (n : Nat) : TChk (n + 1) (anyT n) 0 := by
  have hn : ∀ y : TT n, y ∈ (anyT n).2 → False := fun y hy => by simp [anyT] at hy
  have hs : ∀ s : ByteArray, s ∈ (anyT n).1.names → False := fun s hs => by simp [anyT] at hs
  refine Or.inr (Or.inr ⟨rfl, ⟨Or.inr (Or.inr ⟨by simp [anyT], by simp [anyT], rfl, rfl⟩), fun y hy => (hn y hy).elim⟩, ⟨by simp [anyT], fun s h => (hs s h).elim, fun y hy => (hn y hy).elim⟩, ?_, ?_⟩)
  · simp [tdep, anyT, mxl]
  · simp [tsiz, anyT, suml]
theorem TChk.zero {n : Nat} {x : TT n} (h : TChk n x 0) : IsT n x ∧ TWin n x := by
  rcases h with ⟨q, _⟩ | ⟨q, _⟩ | ⟨_, q⟩
  · omega
  · omega
  · exact q
/-- The Join of two types. -/
def Jn (n : Nat) (a b j : TT (n + 1)) : Prop :=
  (Prt (n + 1) a b ∧ j = b) ∨ (¬ Prt (n + 1) a b ∧ Prt (n + 1) b a ∧ j = a) ∨
  (¬ Prt (n + 1) a b ∧ ¬ Prt (n + 1) b a ∧ a.1.kind = 11 ∧ b.1.kind = 11 ∧ ∃ nm ts, US n a b b.1.names.length nm ts ∧ TChk (n + 1) (⟨11, nm⟩, ts) 0 ∧ j = (⟨11, nm⟩, ts)) ∨
  (¬ Prt (n + 1) a b ∧ ¬ Prt (n + 1) b a ∧ (¬ (a.1.kind = 11 ∧ b.1.kind = 11) ∨ Ubad n a b ∨ ∃ nm ts, US n a b b.1.names.length nm ts ∧ ¬ TChk (n + 1) (⟨11, nm⟩, ts) 0) ∧ j = anyT n)
theorem Jn.chk {n : Nat} {a b j : TT (n + 1)} (h : Jn n a b j) (ha : TChk (n + 1) a 0) (hb : TChk (n + 1) b 0) : TChk (n + 1) j 0 := by
  rcases h with ⟨_, rfl⟩ | ⟨_, _, rfl⟩ | ⟨_, _, _, _, nm, ts, _, q, rfl⟩ | ⟨_, _, _, rfl⟩
  · exact hb
  · exact ha
  · exact q
  · exact anyT_chk n
theorem Jn.both {n : Nat} {a b j : TT (n + 1)} (h : Jn n a b j) (ta : IsT (n + 1) a) (tb : IsT (n + 1) b) : Prt (n + 1) a j ∧ Prt (n + 1) b j := by
  rcases h with ⟨p, rfl⟩ | ⟨_, p, rfl⟩ | ⟨_, _, ka, kb, nm, ts, hu, q, rfl⟩ | ⟨_, _, _, rfl⟩
  · exact ⟨p, prt_refl _ _ tb⟩
  · exact ⟨prt_refl _ _ ta, p⟩
  · exact us_both ka kb ta tb hu
  · exact ⟨Or.inl rfl, Or.inl rfl⟩
/-- What a call may lean on, of a type within the limits. -/
theorem TRd.of {n : Nat} {w : World} {x : TT n} {ns ls : Value} (h : RT n w x ns ls) (hc : TChk n x 0) : TRd n w x ns ls :=
  ⟨h, tsz_of n x hc.zero.2.1, by have := hc.zero.2.2.2; omega⟩
theorem chk2_zero {E F : Int} (h : Chk2 E F = 0) : E = 0 ∧ F = 0 := by
  unfold Chk2 at h
  by_cases e : E = 0
  · subst e; exact ⟨rfl, h⟩
  · have : (E == 0) = false := beq_eq_false_iff_ne.2 e
    rw [this] at h
    exact absurd h e
theorem chk2_00 : Chk2 0 0 = 0 := rfl
theorem chk2_0 (F : Int) : Chk2 0 F = F := rfl
theorem chk2_r (E : Int) : Chk2 E 0 = E := by
  unfold Chk2
  by_cases e : E = 0
  · subst e; rfl
  · have : (E == 0) = false := beq_eq_false_iff_ne.2 e
    rw [this]; rfl
/-- What Join answers. -/
def JoinP (n : Nat) (C : Int) (x y : TT (n + 1)) (w : World) (e : Ending) (w' : World) : Prop :=
  (C ≠ 0 ∧ e = .returned (.tuple #[.agg #[.int .i64 0, .slice none 0 0, .slice none 0 0], .int .i64 C]) ∧ Below w.heap.size w w') ∨
  (C = 0 ∧ ∃ (j : TT (n + 1)) (ns2 ls2 : Value), e = .returned (.tuple #[.agg (tvs j.1 ns2 ls2), .int .i64 0]) ∧ Hid (Jn n x y j ∧ RT (n + 1) w' j ns2 ls2) ∧ Below w.heap.size w w')
/-- Join is walked. -/
def JoinOk : Prop := ∀ (n : Nat) (x y : TT (n + 1)) (ns ls ns' ls' : Value) (w : World), TRd (n + 1) w x ns ls → TRd (n + 1) w y ns' ls' → Ut.Gu w → Gt w → ∀ (E F : Int), TChk (n + 1) x E → TChk (n + 1) y F →
    Calls Tryd.prog 20 #[.agg (tvs x.1 ns ls), .agg (tvs y.1 ns' ls')] w fun e w' => JoinP n (Chk2 E F) x y w e w'
end Go.Proofs.YtolmbjeinilhlaaDoor
