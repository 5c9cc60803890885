/- lex, as functions: what tokens are written as, and that it is scanned as the same. No program in sight. -/
import Derived.Test.YtjidnceccpmheaaDoorAbScan
namespace Go.Proofs.YtjidnceccpmheaaDoor
set_option linter.unusedSimpArgs false
set_option linter.unusedVariables false
namespace Lx
def hxd (d : Nat) : UInt8 := if d < 10 then UInt8.ofNat (48 + d) else UInt8.ofNat (87 + d)
/-- A byte within quotes. -/
def esB (c : UInt8) : List UInt8 := if c.toNat = 34 ∨ c.toNat = 92 then [92, c] else if c.toNat < 32 then [92, 117, 48, 48, hxd (c.toNat / 16), hxd (c.toNat % 16)] else [c]
def esc (l : List UInt8) : List UInt8 := l.flatMap esB
def quo (l : List UInt8) : List UInt8 := 34 :: (esc l ++ [34])
def okT (l : List UInt8) : Bool := decide (Ut.run .i8 l = some .i8)
/-- The kind of a word. -/
def kdW (w : Int) : Nat := if w = 1 then 1 else if w = 3 then 2 else if w = 2 then 3 else if w = 4 then 4 else 0
/-- Is it a token, but for its length? -/
def isT (ok : List UInt8 → Bool) (w : Int) (s : List UInt8) : Bool := if kdW w = 0 then false else if kdW w = 3 then okT s else if s = [] then false else (cutK ok (kdW w) s).2 == s.length
def spl (w : Int) (s : List UInt8) : List UInt8 := if w = 2 then quo s else s
theorem esc_cons (c : UInt8) (l : List UInt8) : esc (c :: l) = esB c ++ esc l := by simp [esc]
theorem esc_app (a b : List UInt8) : esc (a ++ b) = esc a ++ esc b := by simp [esc]
theorem low_esc : ∀ c : Fin 32, byN [48, 48, hxd (c.val / 16), hxd (c.val % 16)] = some ([UInt8.ofNat c.val], 6) := by decide +kernel
theorem byN_low (c : UInt8) (h : c.toNat < 32) (t : List UInt8) : byN (48 :: 48 :: hxd (c.toNat / 16) :: hxd (c.toNat % 16) :: t) = some ([c], 6) := by
  have h1 := low_esc ⟨c.toNat, h⟩
  simp only at h1
  rw [show UInt8.ofNat c.toNat = c by simp] at h1
  rw [← h1]
  unfold byN
  simp
  intro q
  omega
theorem esc_high : ∀ (l : List UInt8), (∀ c ∈ l, 128 ≤ c.toNat) → esc l = l
  | [], _ => rfl
  | c :: l, h => by
    have hc := h c (by simp)
    rw [esc_cons, esc_high l fun d hd => h d (by simp [hd])]
    unfold esB
    rw [if_neg (by omega), if_neg (by omega)]
    rfl
theorem run_low {c : UInt8} {l : List UInt8} (h : c.toNat < 128) : Ut.run .i8 (c :: l) = Ut.run .i8 l := by
  rw [Ut.run_cons (q := .i8)]
  simp [Ut.nx, h]
theorem chr_high {l : List UInt8} {r n : Nat} (h : Ut.chr l = some (r, n)) (h2 : ∀ c t, l = c :: t → 128 ≤ c.toNat) : ∀ c ∈ l.take n, 128 ≤ c.toNat := by
  rcases Ut.chr_cases h with ⟨a, t, rfl, rfl, h1, _⟩ | ⟨a, b, t, rfl, rfl, h1, h3, hb, _⟩ | ⟨a, b, c, t, rfl, rfl, h1, h3, hb, hc, _⟩ | ⟨a, b, c, d, t, rfl, rfl, h1, h3, hb, hc, hd, _⟩
  · have := h2 a t rfl; omega
  · intro x hx; simp at hx; rcases hx with rfl | rfl <;> omega
  · intro x hx; simp at hx; rcases hx with rfl | rfl | rfl <;> omega
  · intro x hx; simp at hx; rcases hx with rfl | rfl | rfl | rfl <;> omega
theorem ok_chr {l : List UInt8} (hl : l ≠ []) (h : Ut.run .i8 l = some .i8) : ∃ r n, Ut.chr l = some (r, n) ∧ Ut.run .i8 (l.drop n) = some .i8 := by
  cases hc : Ut.chr l with
  | none =>
    rcases Ut.chr_none hl hc with e | ⟨p, hp, e, _⟩
    · rw [h] at e; cases e
    · rw [h] at e; exact absurd (Option.some.inj e).symm hp
  | some rn =>
    obtain ⟨r, n⟩ := rn
    refine ⟨r, n, rfl, ?_⟩
    have := (Ut.chr_some hc).2.2.2.1
    rw [← List.take_append_drop n l, Ut.run_app this] at h
    exact h
/-- A row with n bytes, told with as many rounds as one likes. -/
theorem unq_step {f : Nat} {c : UInt8} {l s : List UInt8} {n : Nat} (h34 : ¬ c.toNat = 34) (hc : chO (c :: l) = some (s, n)) (hf : (c :: l).length ≤ f) {s' : List UInt8} {m : Nat} (h : unq ((c :: l).drop n).length ((c :: l).drop n) = some (s', m)) :
    unq f (c :: l) = some (s ++ s', n + m) := by
  rw [unq_more f _ hf]
  simp only [unq, List.length_cons]
  rw [if_neg h34, hc]
  simp only
  have hn := chO_n hc
  rw [unq_more l.length _ (by rw [List.length_drop, List.length_cons]; omega), h]
theorem unq_esc (t : List UInt8) : ∀ (m : Nat) (l : List UInt8), l.length ≤ m → Ut.run .i8 l = some .i8 → unq (esc l ++ 34 :: t).length (esc l ++ 34 :: t) = some (l, (esc l).length + 1)
  | m, [], h, hr => by simp [esc, unq]
  | 0, c :: l, h, hr => by simp at h
  | m + 1, c :: l, h, hr => by
    simp only [List.length_cons] at h
    by_cases hq : c.toNat = 34 ∨ c.toNat = 92
    · have hlow : c.toNat < 128 := by omega
      have e : esB c = [92, c] := by unfold esB; rw [if_pos hq]
      rw [run_low hlow] at hr
      have ih := unq_esc t m l (by omega) hr
      rw [esc_cons, e]
      simp only [List.cons_append, List.nil_append]
      have hch : chO (92 :: c :: (esc l ++ 34 :: t)) = some ([c], 2) := by simp [chO, escO, hq]
      rw [unq_step (by decide) hch (Nat.le_refl _) (s' := l) (m := (esc l).length + 1) (by simpa using ih)]
      simp; omega
    · by_cases hl : c.toNat < 32
      · have e : esB c = [92, 117, 48, 48, hxd (c.toNat / 16), hxd (c.toNat % 16)] := by unfold esB; rw [if_neg hq, if_pos hl]
        rw [run_low (by omega)] at hr
        have ih := unq_esc t m l (by omega) hr
        rw [esc_cons, e]
        simp only [List.cons_append, List.nil_append]
        have hch : chO (92 :: 117 :: 48 :: 48 :: hxd (c.toNat / 16) :: hxd (c.toNat % 16) :: (esc l ++ 34 :: t)) = some ([c], 6) := by
          have := byN_low c hl (esc l ++ 34 :: t)
          simp [chO, escO, this]
        rw [unq_step (by decide) hch (Nat.le_refl _) (s' := l) (m := (esc l).length + 1) (by simpa using ih)]
        simp; omega
      · have e : esB c = [c] := by unfold esB; rw [if_neg hq, if_neg hl]
        by_cases h8 : c.toNat < 128
        · rw [run_low h8] at hr
          have ih := unq_esc t m l (by omega) hr
          rw [esc_cons, e]
          simp only [List.cons_append, List.nil_append]
          have hch : chO (c :: (esc l ++ 34 :: t)) = some ([c], 1) := by
            simp only [chO]
            rw [if_neg (by omega), if_neg hl, Ut.chr_1 _ _ h8]
            simp
          rw [unq_step (by omega) hch (Nat.le_refl _) (s' := l) (m := (esc l).length + 1) (by simpa using ih)]
          simp; omega
        · obtain ⟨r, n, hc, hr2⟩ := ok_chr (List.cons_ne_nil c l) hr
          obtain ⟨n1, n4, nl, _, hv, hb⟩ := Ut.chr_some hc
          have hh := chr_high hc (fun a u e => by cases e; omega)
          have ih := unq_esc t m ((c :: l).drop n) (by rw [List.length_drop, List.length_cons]; omega) hr2
          have es : esc (c :: l) = (c :: l).take n ++ esc ((c :: l).drop n) := by
            conv => lhs; rw [← List.take_append_drop n (c :: l)]
            rw [esc_app, esc_high _ hh]
          obtain ⟨u, hu⟩ : ∃ u, (c :: l).take n = c :: u := by
            obtain ⟨k, rfl⟩ : ∃ k, n = k + 1 := ⟨n - 1, by omega⟩
            exact ⟨l.take k, by simp⟩
          have hlen : ((c :: l).take n).length = n := by rw [List.length_take]; omega
          have hch : chO (c :: (u ++ (esc ((c :: l).drop n) ++ 34 :: t))) = some (c :: u, n) := by
            have h2 := Ut.chr_encode r hv (esc ((c :: l).drop n) ++ 34 :: t)
            rw [hb, hlen, hu] at h2
            simp only [List.cons_append] at h2
            simp only [chO]
            rw [if_neg (by omega), if_neg hl, h2]
            simp only
            rw [← List.cons_append, List.take_append_of_le_length (by rw [← hu, hlen]; exact Nat.le_refl _), List.take_of_length_le (by rw [← hu, hlen]; exact Nat.le_refl _)]
          have hdr : (c :: (u ++ (esc ((c :: l).drop n) ++ 34 :: t))).drop n = esc ((c :: l).drop n) ++ 34 :: t := by
            rw [← List.cons_append, List.drop_append_of_le_length (by rw [← hu, hlen]; exact Nat.le_refl _), List.drop_of_length_le (by rw [← hu, hlen]; exact Nat.le_refl _)]
            rfl
          rw [es, hu]
          simp only [List.cons_append, List.append_assoc]
          rw [unq_step (by omega) hch (Nat.le_refl _) (s' := (c :: l).drop n) (m := (esc ((c :: l).drop n)).length + 1) (by rw [hdr]; exact ih)]
          have hul : u.length + 1 = n := by rw [← hlen, hu]; rfl
          rw [← hu, List.take_append_drop]
          simp; omega
theorem quS_quo (l t : List UInt8) (h : okT l = true) : quS (quo l ++ t) = some (l, (quo l).length) := by
  have hr : Ut.run .i8 l = some .i8 := by simpa [okT] using h
  have := unq_esc t _ l (Nat.le_refl _) hr
  simp only [quo, List.cons_append, List.append_assoc, List.nil_append, quS]
  rw [if_pos (by decide), this]
  simp
/-- What the first byte of each kind shuts out. -/
def cls (c : UInt8) : Nat := if c.toNat = 35 ∨ isBlk c then 0 else if isDig c ∨ c.toNat = 45 then 2 else if isLet c then 1 else if c.toNat = 34 then 3 else if isMark c then 4 else 5
set_option maxRecDepth 100000 in
theorem cls_n : ∀ n : Fin 256, let c := UInt8.ofNat n.val;
    (inName c = true → isDig c = false → cls c = 1) ∧ (isDig c = true → cls c = 2) ∧ (c.toNat = 45 → cls c = 2) ∧ (isMark c = true → cls c = 4) ∧ (c.toNat = 34 → cls c = 3) ∧
    (cls c ≠ 0 → c.toNat ≠ 35 ∧ isBlk c = false) ∧ (cls c ≠ 1 → isDig c = true ∨ inName c = false) ∧ (cls c ≠ 2 → c.toNat ≠ 45 ∧ isDig c = false) ∧ (cls c ≠ 3 → c.toNat ≠ 34) ∧ (cls c ≠ 4 → isMark c = false) := by decide +kernel
theorem cls_c (c : UInt8) : (inName c = true → isDig c = false → cls c = 1) ∧ (isDig c = true → cls c = 2) ∧ (c.toNat = 45 → cls c = 2) ∧ (isMark c = true → cls c = 4) ∧ (c.toNat = 34 → cls c = 3) ∧
    (cls c ≠ 0 → c.toNat ≠ 35 ∧ isBlk c = false) ∧ (cls c ≠ 1 → isDig c = true ∨ inName c = false) ∧ (cls c ≠ 2 → c.toNat ≠ 45 ∧ isDig c = false) ∧ (cls c ≠ 3 → c.toNat ≠ 34) ∧ (cls c ≠ 4 → isMark c = false) := by
  have := cls_n ⟨c.toNat, c.toNat_lt⟩
  simp only at this
  rwa [show UInt8.ofNat c.toNat = c by simp] at this
/-- No kind but its own begins with a byte. -/
theorem cut_other (ok : List UInt8 → Bool) (c : UInt8) (l : List UInt8) (k : Nat) (h : cls c ≠ k) : (cutK ok k (c :: l)).2 = 0 := by
  obtain ⟨_, _, _, _, _, h0, h1, h2, h3, h4⟩ := cls_c c
  unfold cutK
  split
  · subst_vars; obtain ⟨a, b⟩ := h0 h; simp [blS, a, b]
  · split
    · subst_vars; rcases h1 h with a | a <;> simp [nmS, a, wh]
    · split
      · subst_vars; obtain ⟨a, b⟩ := h2 h; simp [nuS, a, b]
      · split
        · subst_vars; simp [quS, h3 h]
        · split
          · subst_vars; simp [mkS, h4 h]
          · rfl
theorem tok_of (ok : List UInt8 → Bool) (c : UInt8) (l : List UInt8) (k : Nat) (hk : cls c = k) (hk5 : k < 5) {s : List UInt8} {n : Nat} (h : cutK ok k (c :: l) = (s, n)) (hn : n ≠ 0) : tok ok (c :: l) = some (k, s, n) := by
  have ho : ∀ j, j ≠ k → (cutK ok j (c :: l)).2 = 0 := fun j hj => cut_other ok c l j (by omega)
  have hs : (cutK ok k (c :: l)).2 = n := by rw [h]
  unfold tok
  have : k = 0 ∨ k = 1 ∨ k = 2 ∨ k = 3 ∨ k = 4 := by omega
  rcases this with rfl | rfl | rfl | rfl | rfl
  · simp [fstK, hn, h]
  · simp [fstK, ho 0 (by decide), hn, h]
  · simp [fstK, ho 0 (by decide), ho 1 (by decide), hn, h]
  · simp [fstK, ho 0 (by decide), ho 1 (by decide), ho 2 (by decide), hn, h]
  · simp [fstK, ho 0 (by decide), ho 1 (by decide), ho 2 (by decide), ho 3 (by decide), hn, h]
/-- A token's kind is that of its first byte. -/
theorem cut_cls {ok : List UInt8 → Bool} {c : UInt8} {l : List UInt8} {k : Nat} (h : (cutK ok k (c :: l)).2 ≠ 0) : cls c = k := by
  by_cases hk : cls c = k
  · exact hk
  · exact absurd (cut_other ok c l k hk) h
theorem tail_no {p : UInt8 → Bool} (hp : p 32 = false) {r : List UInt8} (hr : r = [] ∨ ∃ t, r = 32 :: t) : r = [] ∨ ∃ c t, r = c :: t ∧ p c = false := by
  rcases hr with rfl | ⟨t, rfl⟩
  · exact Or.inl rfl
  · exact Or.inr ⟨_, _, rfl, hp⟩
/-- What a token is written as is scanned as itself. -/
theorem tok_spl (ok : List UInt8 → Bool) (w : Int) (s r : List UInt8) (h : isT ok w s = true) (hr : r = [] ∨ ∃ t, r = 32 :: t) :
    ∃ c l, spl w s ++ r = c :: l ∧ tok ok (c :: l) = some (kdW w, s, (spl w s).length) := by
  unfold isT at h
  split at h
  · cases h
  · rename_i h0
    split at h
    · rename_i h3
      have hw : w = 2 := by unfold kdW at h3; (repeat' split at h3) <;> omega
      subst hw
      refine ⟨34, esc s ++ [34] ++ r, rfl, ?_⟩
      have hq := quS_quo s r h
      have e : spl 2 s = quo s := rfl
      rw [e]
      refine tok_of ok 34 _ 3 (by decide) (by decide) ?_ (by simp [quo])
      have : (34 : UInt8) :: (esc s ++ [34] ++ r) = quo s ++ r := rfl
      rw [this]
      unfold cutK
      simp [hq]
    · rename_i h3
      have hw : w ≠ 2 := by intro e; subst e; exact h3 rfl
      have hsp : spl w s = s := by unfold spl; rw [if_neg hw]
      rw [hsp]
      split at h
      · cases h
      · rename_i hne
        obtain ⟨c, l, rfl⟩ : ∃ c l, s = c :: l := by cases s with | nil => exact absurd rfl hne | cons c l => exact ⟨c, l, rfl⟩
        refine ⟨c, l ++ r, rfl, ?_⟩
        have hlen : (cutK ok (kdW w) (c :: l)).2 = (c :: l).length := by simpa using h
        have hk := cut_cls (ok := ok) (k := kdW w) (c := c) (l := l) (by rw [hlen]; simp)
        have k5 : kdW w = 1 ∨ kdW w = 2 ∨ kdW w = 4 := by unfold kdW at h0 h3 ⊢; (repeat' split at h0) <;> simp_all
        refine tok_of ok c _ _ hk (by omega) ?_ (by simp)
        rw [← List.cons_append]
        rcases k5 with e | e | e <;> rw [e] at hlen ⊢
        · have hd : isDig c = false := by
            cases hq : isDig c with
            | false => rfl
            | true => simp [cutK, nmS, hq] at hlen
          have h1 : nmS (c :: l) = (c :: l).length := by simpa [cutK] using hlen
          have h2 : wh inName (c :: l) = (c :: l).length := by simpa only [nmS, hd, Bool.false_eq_true, if_false] using h1
          have h4 : nmS (c :: l ++ r) = (c :: l).length := by
            simp only [nmS, List.cons_append, hd, Bool.false_eq_true, if_false]
            rw [← List.cons_append]
            exact wh_all h2 r (tail_no (by rfl) hr)
          unfold cutK
          simp only [if_neg (show ¬ (1 = 0) by decide), if_true]
          rw [h4, List.take_append_of_le_length (Nat.le_refl _), List.take_length]
        · have h1 : nuS ok (c :: l) = (c :: l).length := by simpa [cutK] using hlen
          have h0' : (!(c.toNat == 45) && !isDig c) = false := by
            cases hq : (!(c.toNat == 45) && !isDig c) with
            | false => rfl
            | true => simp only [nuS, hq, if_true] at h1; simp at h1
          have h2 : wh inNum (c :: l) = (c :: l).length ∧ ok (c :: l) = true := by
            simp only [nuS, h0', Bool.false_eq_true, if_false] at h1
            split at h1
            · rename_i hok
              rw [h1, List.take_length] at hok
              exact ⟨h1, hok⟩
            · simp at h1
          have h5 : wh inNum (c :: l ++ r) = (c :: l).length := wh_all h2.1 r (tail_no (by rfl) hr)
          have h4 : nuS ok (c :: l ++ r) = (c :: l).length := by
            simp only [nuS, List.cons_append, h0', Bool.false_eq_true, if_false]
            rw [← List.cons_append, h5, List.take_append_of_le_length (Nat.le_refl _), List.take_length, if_pos h2.2]
          unfold cutK
          simp only [if_neg (show ¬ (2 = 0) by decide), if_neg (show ¬ (2 = 1) by decide), if_true]
          rw [h4, List.take_append_of_le_length (Nat.le_refl _), List.take_length]
        · have h1 : mkS (c :: l) = (c :: l).length := by simpa [cutK] using hlen
          have hm : isMark c = true := by
            cases hq : isMark c with
            | true => rfl
            | false => simp [mkS, hq] at h1
          have hl0 : l = [] := by
            simp only [mkS, hm, if_true, List.length_cons] at h1
            exact List.length_eq_zero_iff.1 (by omega)
          subst hl0
          simp [cutK, mkS, hm]
theorem wdK_kdW {w : Int} (h : kdW w ≠ 0) : ((wdK (kdW w) : Nat) : Int) = w := by unfold kdW at h ⊢; (repeat' split at h) <;> simp_all [wdK]
theorem kdW_wdK {k : Nat} (h : k ≠ 0) (h5 : k < 5) : kdW (wdK k) = k := by
  have : k = 1 ∨ k = 2 ∨ k = 3 ∨ k = 4 := by omega
  rcases this with rfl | rfl | rfl | rfl <;> rfl
/-- Rows with one blank between. -/
def jn : List (List UInt8) → List UInt8
  | [] => []
  | [a] => a
  | a :: b :: r => a ++ 32 :: jn (b :: r)
def splT (t : Tk) : List UInt8 := spl t.w t.s
def same (a b : List Tk) : Prop := a.map (fun t => (t.w, t.s)) = b.map (fun t => (t.w, t.s))
theorem drop_self (a b : List UInt8) : (a ++ b).drop a.length = b := by simp
/-- What is printed is scanned as the same tokens. -/
theorem scn_print (ok : List UInt8 → Bool) : ∀ (l : List Tk) (p : Nat) (acc : List Tk), (∀ t ∈ l, isT ok t.w t.s = true ∧ t.s.length ≤ lgK (kdW t.w)) → acc.length + l.length ≤ 1024 →
    ∃ m, scnA ok (jn (l.map splT)) p acc = .inr (acc ++ m) ∧ same m l
  | [], p, acc, h, hl => ⟨[], by simp [jn, scnA_nil], rfl⟩
  | [t], p, acc, h, hl => by
    obtain ⟨ht, hlen⟩ := h t (by simp)
    obtain ⟨c, l, e, hk⟩ := tok_spl ok t.w t.s [] ht (Or.inl rfl)
    have hk0 : kdW t.w ≠ 0 := by intro e0; simp [isT, e0] at ht
    rw [List.append_nil] at e
    simp only [List.map_cons, List.map_nil, jn, splT]
    refine ⟨[⟨wdK (kdW t.w), t.s, p⟩], ?_, by simp [same, wdK_kdW hk0]⟩
    simp only [List.length_cons, List.length_nil] at hl
    rw [e, scnA_cons, hk]
    simp only
    rw [if_neg hk0, if_neg (by omega), ← e, List.drop_length, scnA_nil]
  | t :: u :: l, p, acc, h, hl => by
    obtain ⟨ht, hlen⟩ := h t (by simp)
    obtain ⟨c, l', e, hk⟩ := tok_spl ok t.w t.s (32 :: jn ((u :: l).map splT)) ht (Or.inr ⟨_, rfl⟩)
    have hk0 : kdW t.w ≠ 0 := by intro e0; simp [isT, e0] at ht
    simp only [List.length_cons] at hl
    obtain ⟨m, hm, hs⟩ := scn_print ok (u :: l) (p + (spl t.w t.s).length + 1) (acc ++ [⟨wdK (kdW t.w), t.s, p⟩]) (fun x hx => h x (by simp only [List.mem_cons] at hx ⊢; exact Or.inr hx)) (by simp; omega)
    refine ⟨⟨wdK (kdW t.w), t.s, p⟩ :: m, ?_, by simp only [same, List.map_cons, wdK_kdW hk0] at hs ⊢; rw [hs]⟩
    have hj : jn ((t :: u :: l).map splT) = c :: l' := by rw [← e]; rfl
    rw [hj, scnA_cons, hk]
    simp only
    rw [if_neg hk0, if_neg (by omega), ← e, drop_self, scn_blank ok 32 _ (by rfl), hm]
    simp
/-- What is scanned are tokens. -/
theorem byN_ok {l s : List UInt8} {n : Nat} (h : byN l = some (s, n)) : Ut.run .i8 s = some .i8 := by
  unfold byN at h
  split at h
  · cases h
  · split at h
    · cases h
    · rename_i r _
      split at h
      · rename_i hv
        simp only [Option.some.injEq, Prod.mk.injEq] at h
        have hc := Ut.chr_encode r hv []
        rw [List.append_nil] at hc
        have := (Ut.chr_some hc).2.2.2.1
        rw [List.take_length, h.1] at this
        exact this
      · cases h
theorem chO_ok {l s : List UInt8} {n : Nat} (h : chO l = some (s, n)) : Ut.run .i8 s = some .i8 := by
  cases l with
  | nil => cases h
  | cons c l =>
    simp only [chO] at h
    split at h
    · cases l with
      | nil => cases h
      | cons d l =>
        simp only [escO] at h
        split at h
        · rename_i hd
          cases h
          rw [run_low (by omega)]; rfl
        · split at h
          · exact byN_ok h
          · cases h
    · split at h
      · cases h
      · split at h
        · cases h
        · rename_i r m hc
          cases h
          exact (Ut.chr_some hc).2.2.2.1
theorem unq_ok : ∀ (f : Nat) (l s : List UInt8) (n : Nat), unq f l = some (s, n) → Ut.run .i8 s = some .i8
  | 0, l, s, n, h => by cases h
  | f + 1, [], s, n, h => by cases h
  | f + 1, c :: l, s, n, h => by
    simp only [unq] at h
    split at h
    · cases h; rfl
    · split at h
      · cases h
      · rename_i s1 n1 hc
        split at h
        · cases h
        · rename_i s2 n2 hu
          cases h
          rw [Ut.run_app (chO_ok hc)]
          exact unq_ok f _ _ _ hu
theorem tok_isT {ok : List UInt8 → Bool} {c : UInt8} {l s : List UInt8} {k n : Nat} (h : tok ok (c :: l) = some (k, s, n)) (hk : k ≠ 0) : isT ok (wdK k) s = true := by
  obtain ⟨n1, nl, k5, hc, _⟩ := tok_n h
  have hcl := cut_cls (ok := ok) (k := k) (c := c) (l := l) (by rw [hc]; simp only; omega)
  unfold isT
  rw [kdW_wdK hk k5, if_neg hk]
  have : k = 1 ∨ k = 2 ∨ k = 3 ∨ k = 4 := by omega
  rcases this with rfl | rfl | rfl | rfl
  · rw [if_neg (by decide)]
    simp only [cutK, if_neg (show ¬ (1 = 0) by decide), if_true, Prod.mk.injEq] at hc
    obtain ⟨rfl, rfl⟩ := hc
    have hd : isDig c = false := by
      cases hq : isDig c with
      | false => rfl
      | true => simp [nmS, hq] at n1
    have e : nmS (c :: l) = wh inName (c :: l) := by simp [nmS, hd]
    rw [e] at n1 ⊢
    obtain ⟨m, hm⟩ : ∃ m, wh inName (c :: l) = m + 1 := ⟨wh inName (c :: l) - 1, by omega⟩
    have hw := wh_take inName (c :: l)
    have hl := wh_le inName (c :: l)
    rw [hm] at hw hl ⊢
    rw [List.take_succ_cons] at hw ⊢
    rw [if_neg (by simp)]
    simp only [cutK, if_neg (show ¬ (1 = 0) by decide), if_true, nmS, hd, Bool.false_eq_true, if_false, hw]
    simp only [List.length_cons] at hl
    simp only [List.length_cons, List.length_take, beq_iff_eq]
    omega
  · rw [if_neg (by decide)]
    simp only [cutK, if_neg (show ¬ (2 = 0) by decide), if_neg (show ¬ (2 = 1) by decide), if_true, Prod.mk.injEq] at hc
    obtain ⟨rfl, rfl⟩ := hc
    have h0' : (!(c.toNat == 45) && !isDig c) = false := by
      cases hq : (!(c.toNat == 45) && !isDig c) with
      | false => rfl
      | true => simp only [nuS, hq, if_true] at n1; simp at n1
    have hok : ok ((c :: l).take (wh inNum (c :: l))) = true := by
      cases hq : ok ((c :: l).take (wh inNum (c :: l))) with
      | true => rfl
      | false => simp only [nuS, h0', hq, Bool.false_eq_true, if_false] at n1; simp at n1
    have e : nuS ok (c :: l) = wh inNum (c :: l) := by simp [nuS, h0', hok]
    rw [e] at n1 ⊢
    obtain ⟨m, hm⟩ : ∃ m, wh inNum (c :: l) = m + 1 := ⟨wh inNum (c :: l) - 1, by omega⟩
    have hw := wh_take inNum (c :: l)
    have hl := wh_le inNum (c :: l)
    rw [hm] at hw hl hok ⊢
    rw [List.take_succ_cons] at hw hok ⊢
    rw [if_neg (by simp)]
    simp only [List.length_cons] at hl
    have hlen : (c :: l.take m).length = m + 1 := by simp only [List.length_cons, List.length_take]; omega
    have htk : (c :: l.take m).take (m + 1) = c :: l.take m := List.take_of_length_le (by rw [hlen]; exact Nat.le_refl _)
    simp only [cutK, if_neg (show ¬ (2 = 0) by decide), if_neg (show ¬ (2 = 1) by decide), if_true, nuS, h0', Bool.false_eq_true, if_false, hw, htk, hok, if_true]
    rw [hlen]
    simp
  · rw [if_pos rfl]
    simp only [cutK, if_neg (show ¬ (3 = 0) by decide), if_neg (show ¬ (3 = 1) by decide), if_neg (show ¬ (3 = 2) by decide), if_true] at hc
    cases hq : quS (c :: l) with
    | none => rw [hq] at hc; simp only [Option.getD_none, Prod.mk.injEq] at hc; omega
    | some x =>
      obtain ⟨s', n'⟩ := x
      rw [hq] at hc
      simp only [Option.getD_some, Prod.mk.injEq] at hc
      obtain ⟨rfl, rfl⟩ := hc
      simp only [quS] at hq
      split at hq
      · split at hq
        · cases hq
        · rename_i s2 n2 hu
          cases hq
          simp [okT, unq_ok _ _ _ _ hu]
      · cases hq
  · rw [if_neg (by decide)]
    simp only [cutK, if_neg (show ¬ (4 = 0) by decide), if_neg (show ¬ (4 = 1) by decide), if_neg (show ¬ (4 = 2) by decide), if_neg (show ¬ (4 = 3) by decide), if_true, Prod.mk.injEq] at hc
    obtain ⟨rfl, rfl⟩ := hc
    have hm : isMark c = true := by
      cases hq : isMark c with
      | true => rfl
      | false => simp [mkS, hq] at n1
    simp [mkS, hm, cutK]
theorem scn_isT (ok : List UInt8 → Bool) : ∀ (m : Nat) (l : List UInt8) (p : Nat) (acc r : List Tk), l.length ≤ m → scnA ok l p acc = .inr r → (∀ t ∈ acc, isT ok t.w t.s = true ∧ t.s.length ≤ lgK (kdW t.w)) → ∀ t ∈ r, isT ok t.w t.s = true ∧ t.s.length ≤ lgK (kdW t.w)
  | m, [], p, acc, r, h, hz, ha => by rw [scnA_nil] at hz; cases hz; exact ha
  | 0, c :: l, p, acc, r, h, hz, ha => by simp at h
  | m + 1, c :: l, p, acc, r, h, hz, ha => by
    simp only [List.length_cons] at h
    rw [scnA_cons] at hz
    cases hc : tok ok (c :: l) with
    | none => rw [hc] at hz; cases hz
    | some x =>
      obtain ⟨k, s, n⟩ := x
      have hn := tok_n hc
      rw [hc] at hz
      simp only at hz
      have hd : ((c :: l).drop n).length ≤ m := by rw [List.length_drop, List.length_cons]; omega
      split at hz
      · exact scn_isT ok m _ _ _ _ hd hz ha
      · rename_i hk
        split at hz
        · cases hz
        · rename_i hq
          refine scn_isT ok m _ _ _ _ hd hz fun t ht => ?_
          rcases List.mem_append.1 ht with ht | ht
          · exact ha t ht
          · rw [List.mem_singleton] at ht
            subst ht
            exact ⟨tok_isT hc hk, by simp only; rw [kdW_wdK hk hn.2.2.1]; omega⟩
end Lx
end Go.Proofs.YtjidnceccpmheaaDoor
