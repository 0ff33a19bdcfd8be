/- Plain facts on how the landed package segment reads: by cuts at the first byte outside of a pair. What it reads of an encoding is what was encoded. No program in this text. No condition. -/
import Derived.Test.YtenlfapdmknkjaaSegSpec
namespace Go.Proofs.Ytenlfapdmknkjaa

/-- Where the first byte c outside of the pairs of a mark and the byte behind it stands. -/
def cutAt (c : UInt8) : List UInt8 → Option Nat
  | [] => none
  | [x] => if x = c then some 0 else none
  | x :: y :: r => if x = c then some 0 else if x = 63 then (cutAt c r).map (· + 2) else (cutAt c (y :: r)).map (· + 1)
theorem cut_hit (c : UInt8) (r : List UInt8) : cutAt c (c :: r) = some 0 := by
  cases r with
  | nil => exact if_pos rfl
  | cons y r => exact if_pos rfl
theorem cut_pair {c : UInt8} (hc : c ≠ 63) (y : UInt8) (r : List UInt8) : cutAt c (63 :: y :: r) = (cutAt c r).map (· + 2) := (if_neg (fun h => hc h.symm)).trans (if_pos rfl)
theorem cut_last {c : UInt8} (hc : c ≠ 63) : cutAt c [63] = none := if_neg (fun h => hc h.symm)
theorem cut_step {c x : UInt8} (h1 : x ≠ c) (h2 : x ≠ 63) (r : List UInt8) : cutAt c (x :: r) = (cutAt c r).map (· + 1) := by
  cases r with
  | nil => exact if_neg h1
  | cons y r => exact (if_neg h1).trans (if_neg h2)
theorem end_cut : ∀ b : List UInt8, endF b = cutAt 39 b
  | [] => rfl
  | [c] => rfl
  | c :: d :: r => by
    show (if c = 39 then some 0 else if c = 63 then (endF r).map (· + 2) else (endF (d :: r)).map (· + 1)) = if c = 39 then some 0 else if c = 63 then (cutAt 39 r).map (· + 2) else (cutAt 39 (d :: r)).map (· + 1)
    rw [end_cut r, end_cut (d :: r)]
theorem cut_lt (c : UInt8) : ∀ (b : List UInt8) (n : Nat), cutAt c b = some n → n < b.length
  | [], _, h => by cases h
  | [x], n, h => by
    have h : (if x = c then some 0 else none) = some n := h
    split at h
    · cases h; exact Nat.one_pos
    · cases h
  | x :: y :: r, n, h => by
    have h : (if x = c then some 0 else if x = 63 then (cutAt c r).map (· + 2) else (cutAt c (y :: r)).map (· + 1)) = some n := h
    split at h
    · cases h; simp
    · split at h
      · obtain ⟨k, hk, rfl⟩ := Option.map_eq_some_iff.1 h
        have := cut_lt c r k hk
        simp
        omega
      · obtain ⟨k, hk, rfl⟩ := Option.map_eq_some_iff.1 h
        have := cut_lt c (y :: r) k hk
        simp at this ⊢
        omega
/-- What cut returns. -/
def cutF (c : UInt8) (b : List UInt8) : List UInt8 × List UInt8 × Bool :=
  match cutAt c b with
  | some n => (b.take n, b.drop (n + 1), true)
  | none => (b, [], false)
theorem cutF_some {c : UInt8} {b : List UInt8} {n : Nat} (h : cutAt c b = some n) : cutF c b = (b.take n, b.drop (n + 1), true) := by unfold cutF; rw [h]
theorem cutF_none {c : UInt8} {b : List UInt8} (h : cutAt c b = none) : cutF c b = (b, [], false) := by unfold cutF; rw [h]
theorem cutF_len (c : UInt8) (b : List UInt8) : (cutF c b).1.length ≤ b.length ∧ (cutF c b).2.1.length ≤ b.length := by
  cases h : cutAt c b with
  | none => rw [cutF_none h]; simp
  | some n => rw [cutF_some h, List.length_take, List.length_drop]; exact ⟨by omega, by omega⟩
/-- Has the scan come to byte n? -/
def CutTo (c : UInt8) (b : List UInt8) (n : Nat) : Prop := (n ≤ b.length ∧ cutAt c b = (cutAt c (b.drop n)).map (· + n)) ∨ (n = b.length + 1 ∧ cutAt c b = none)
theorem CutTo.zero (c : UInt8) (b : List UInt8) : CutTo c b 0 := .inl ⟨Nat.zero_le _, by cases h : cutAt c b <;> simp [h]⟩
theorem CutTo.hit {c : UInt8} {b : List UInt8} {n : Nat} (h : CutTo c b n) (hc : b[n]? = some c) : cutAt c b = some n := by
  obtain ⟨k1, e1⟩ := List.getElem?_eq_some_iff.1 hc
  rcases h with ⟨_, h⟩ | ⟨h, _⟩
  · rw [List.drop_eq_getElem_cons k1, e1, cut_hit] at h
    simpa using h
  · omega
theorem CutTo.over {c : UInt8} {b : List UInt8} {n : Nat} (h : CutTo c b n) (hn : b.length ≤ n) : cutAt c b = none := by
  rcases h with ⟨h1, h⟩ | ⟨_, h⟩
  · obtain rfl : n = b.length := by omega
    rw [List.drop_length] at h
    exact h
  · exact h
theorem CutTo.pair {c : UInt8} {b : List UInt8} {n : Nat} (h : CutTo c b n) (hn : c ≠ 63) (hc : b[n]? = some 63) : CutTo c b (n + 2) := by
  obtain ⟨k1, e1⟩ := List.getElem?_eq_some_iff.1 hc
  rcases h with ⟨_, h⟩ | ⟨h, _⟩
  · rw [List.drop_eq_getElem_cons k1, e1] at h
    by_cases h2 : n + 1 < b.length
    · rw [List.drop_eq_getElem_cons h2, cut_pair hn] at h
      refine .inl ⟨by omega, ?_⟩
      rw [h]
      cases cutAt c (b.drop (n + 1 + 1)) with
      | none => rfl
      | some k => simp; omega
    · have h3 : n + 1 = b.length := by omega
      rw [h3, List.drop_length, cut_last hn] at h
      exact .inr ⟨by omega, h⟩
  · omega
theorem CutTo.step {c x : UInt8} {b : List UInt8} {n : Nat} (h : CutTo c b n) (hc : b[n]? = some x) (h1 : x ≠ c) (h2 : x ≠ 63) : CutTo c b (n + 1) := by
  obtain ⟨k1, e1⟩ := List.getElem?_eq_some_iff.1 hc
  rcases h with ⟨_, h⟩ | ⟨h, _⟩
  · rw [List.drop_eq_getElem_cons k1, e1, cut_step h1 h2] at h
    refine .inl ⟨by omega, ?_⟩
    rw [h]
    cases cutAt c (b.drop (n + 1)) with
    | none => rfl
    | some k => simp; omega
  · omega

/-- Bytes without c outside of their pairs, and which close all their pairs. -/
def ThruC (c : UInt8) (l : List UInt8) : Prop := ∀ r, cutAt c (l ++ r) = (cutAt c r).map (· + l.length)
theorem ThruC.nil (c : UInt8) : ThruC c [] := fun r => by
  show cutAt c r = (cutAt c r).map (· + 0)
  cases cutAt c r <;> rfl
theorem ThruC.append {c : UInt8} {a b : List UInt8} (ha : ThruC c a) (hb : ThruC c b) : ThruC c (a ++ b) := fun r => by
  rw [List.append_assoc, ha, hb]
  cases cutAt c r with
  | none => rfl
  | some n => simp; omega
theorem ThruC.cons {c x : UInt8} {l : List UInt8} (h1 : x ≠ c) (h2 : x ≠ 63) (h : ThruC c l) : ThruC c (x :: l) := ThruC.append (a := [x]) (fun r => cut_step h1 h2 r) h
theorem ThruC.esc {c : UInt8} (hc : spB c = true) (hn : c ≠ 63) : ∀ x : List UInt8, ThruC c (esc x)
  | [] => ThruC.nil c
  | y :: x => by
    show ThruC c (if spB y then 63 :: y :: Go.Proofs.Ytenlfapdmknkjaa.esc x else y :: Go.Proofs.Ytenlfapdmknkjaa.esc x)
    cases hy : spB y with
    | true => exact ThruC.append (a := [63, y]) (fun r => cut_pair hn y r) (ThruC.esc hc hn x)
    | false => exact ThruC.cons (fun e => by rw [e, hc] at hy; cases hy) (sp_not hy).2.2.1 (ThruC.esc hc hn x)
theorem ThruC.flat {c : UInt8} {α : Type} (f : α → List UInt8) (h : ∀ a, ThruC c (f a)) : ∀ l : List α, ThruC c (l.flatMap f)
  | [] => ThruC.nil c
  | a :: l => by
    rw [List.flatMap_cons]
    exact ThruC.append (h a) (ThruC.flat f h l)
theorem ThruC.encE : ∀ e, ThruC 43 (encE e)
  | [] => ThruC.nil _
  | x :: r => ThruC.append (ThruC.esc rfl (by decide) x) (ThruC.flat _ (fun y => ThruC.cons (by decide) (by decide) (ThruC.esc rfl (by decide) y)) r)
theorem ThruC.tag {t : List UInt8} (h : tagB t = true) : ThruC 43 t := by
  obtain ⟨a, b, c, rfl, h1, h2, h3⟩ := tag_shape h
  obtain ⟨a1, _, a3, _⟩ := sp_not h1
  obtain ⟨b1, _, b3, _⟩ := sp_not h2
  obtain ⟨c1, _, c3, _⟩ := sp_not h3
  exact ThruC.cons a1 a3 (ThruC.cons b1 b3 (ThruC.cons c1 c3 (ThruC.nil _)))
theorem cutF_hit {c : UInt8} {l : List UInt8} (h : ThruC c l) (r : List UInt8) : cutF c (l ++ c :: r) = (l, r, true) := by
  have e : cutAt c (l ++ c :: r) = some l.length := by rw [h, cut_hit]; simp
  rw [cutF_some e, List.take_left']
  · congr 2
    rw [show l ++ c :: r = (l ++ [c]) ++ r by simp, List.drop_left']
    simp
  · rfl
theorem cutF_miss {c : UInt8} {l : List UInt8} (h : ThruC c l) : cutF c l = (l, [], false) := by
  have e : cutAt c l = none := by
    have := h []
    rw [List.append_nil] at this
    rw [this]
    rfl
  exact cutF_none e

/-- A component without its marks. -/
def unesc : Bool → List UInt8 → List UInt8
  | _, [] => []
  | m, c :: r => if (c == 63 && !m) = true then unesc true r else c :: unesc false r
theorem unesc_esc : ∀ x : List UInt8, unesc false (esc x) = x
  | [] => rfl
  | c :: x => by
    show unesc false (if spB c then 63 :: c :: esc x else c :: esc x) = c :: x
    cases hc : spB c with
    | true =>
      show (if ((c == 63 && !true) = true) then unesc true (esc x) else c :: unesc false (esc x)) = _
      rw [Bool.not_true, Bool.and_false, if_neg (by decide), unesc_esc x]
    | false =>
      show (if ((c == 63 && !false) = true) then unesc true (esc x) else c :: unesc false (esc x)) = _
      rw [if_neg (by rw [Bool.not_false, Bool.and_true, beq_iff_eq]; exact (sp_not hc).2.2.1), unesc_esc x]
/-- The components of an element, up to a number of them. -/
def compsF : Nat → List UInt8 → List (List UInt8)
  | 0, _ => []
  | k + 1, t => unesc false (cutF 58 t).1 :: (if (cutF 58 t).2.2 = true then compsF k (cutF 58 t).2.1 else [])
def elemF (t : List UInt8) : List (List UInt8) := if t.length = 0 then [] else compsF 100 t
def elsF : Nat → List UInt8 → List (List (List UInt8))
  | 0, _ => []
  | k + 1, t => elemF (cutF 43 t).1 :: (if (cutF 43 t).2.2 = true then elsF k (cutF 43 t).2.1 else [])
def readL (b : List UInt8) : Seg := ⟨(cutF 43 b).1, if (cutF 43 b).2.2 = true then elsF 100 (cutF 43 b).2.1 else []⟩
theorem comps_enc : ∀ (r : List (List UInt8)) (x : List UInt8) (k : Nat), r.length < k → compsF k (esc x ++ r.flatMap fun y => 58 :: esc y) = x :: r
  | [], x, k + 1, _ => by
    rw [List.flatMap_nil, List.append_nil]
    show unesc false (cutF 58 (esc x)).1 :: (if (cutF 58 (esc x)).2.2 = true then _ else []) = _
    rw [cutF_miss (ThruC.esc rfl (by decide) x), unesc_esc]
    rfl
  | y :: r, x, k + 1, h => by
    rw [List.flatMap_cons]
    have e := cutF_hit (ThruC.esc rfl (by decide) x : ThruC 58 (esc x)) (esc y ++ r.flatMap fun y => 58 :: esc y)
    show unesc false (cutF 58 (esc x ++ 58 :: (esc y ++ r.flatMap fun y => 58 :: esc y))).1 :: (if (cutF 58 (esc x ++ 58 :: (esc y ++ r.flatMap fun y => 58 :: esc y))).2.2 = true then compsF k (cutF 58 (esc x ++ 58 :: (esc y ++ r.flatMap fun y => 58 :: esc y))).2.1 else []) = _
    rw [e, unesc_esc]
    show x :: (if true = true then compsF k (esc y ++ r.flatMap fun y => 58 :: esc y) else []) = _
    rw [if_pos rfl, comps_enc r y k (by simp at h; omega)]
theorem elem_enc {e : List (List UInt8)} (h1 : lastE e = false) (h2 : e.length ≤ 100) : elemF (encE e) = e := by
  cases e with
  | nil => rfl
  | cons x r =>
    have hne : ¬ (esc x ++ r.flatMap fun y => 58 :: esc y).length = 0 := by
      intro h
      rw [List.length_append] at h
      cases r with
      | nil =>
        cases x with
        | nil => cases h1
        | cons c x =>
          have : 0 < (esc (c :: x)).length := by
            show 0 < (if spB c then 63 :: c :: esc x else c :: esc x).length
            split <;> simp
          omega
      | cons y r => simp at h
    show (if (esc x ++ r.flatMap fun y => 58 :: esc y).length = 0 then [] else compsF 100 (esc x ++ r.flatMap fun y => 58 :: esc y)) = _
    rw [if_neg hne]
    exact comps_enc r x 100 (by simp at h2; omega)
theorem els_enc : ∀ (E : List (List (List UInt8))) (e : List (List UInt8)) (k : Nat), E.length < k → badB (e :: E) = false → (∀ f ∈ e :: E, f.length ≤ 100) → elsF k (encE e ++ encEls E) = e :: E
  | [], e, k + 1, _, hb, hl => by
    show elemF (cutF 43 (encE e ++ [])).1 :: (if (cutF 43 (encE e ++ [])).2.2 = true then _ else []) = _
    rw [List.append_nil, cutF_miss (ThruC.encE e)]
    show elemF (encE e) :: [] = _
    rw [elem_enc (bad_cons hb).1 (hl e (List.mem_cons_self ..))]
  | f :: E, e, k + 1, h, hb, hl => by
    have hc := cutF_hit (ThruC.encE e) (encE f ++ encEls E)
    have e1 : encE e ++ encEls (f :: E) = encE e ++ 43 :: (encE f ++ encEls E) := by
      unfold encEls
      rw [List.flatMap_cons]
      rfl
    rw [e1]
    show elemF (cutF 43 (encE e ++ 43 :: (encE f ++ encEls E))).1 :: (if (cutF 43 (encE e ++ 43 :: (encE f ++ encEls E))).2.2 = true then elsF k (cutF 43 (encE e ++ 43 :: (encE f ++ encEls E))).2.1 else []) = _
    rw [hc]
    show elemF (encE e) :: (if true = true then elsF k (encE f ++ encEls E) else []) = _
    rw [if_pos rfl, elem_enc (bad_cons hb).1 (hl e (List.mem_cons_self ..)), els_enc E f k (by simp at h; omega) (bad_cons hb).2 (fun x hx => hl x (List.mem_cons_of_mem _ hx))]
/-- What was encoded is read as it was. -/
theorem readL_body {s : Seg} (h : segE s = 0) : readL (bodyS s) = s := by
  obtain ⟨h1, h2, h3⟩ := seg_ok h
  obtain ⟨t, E⟩ := s
  unfold longB at h2
  rw [Bool.or_eq_false_iff] at h2
  have hE : E.length ≤ 100 := by simpa using h2.1
  have hl : ∀ f ∈ E, f.length ≤ 100 := fun f hf => by
    have := List.any_eq_false.1 h2.2 f hf
    unfold longE at this
    simp only [Bool.or_eq_true, decide_eq_true_eq, not_or] at this
    omega
  cases E with
  | nil =>
    have e : bodyS ⟨t, []⟩ = t := by
      unfold bodyS encEls
      simp
    unfold readL
    rw [e, cutF_miss (ThruC.tag h1)]
    rfl
  | cons e E =>
    have e1 : bodyS ⟨t, e :: E⟩ = t ++ 43 :: (encE e ++ encEls E) := by
      unfold bodyS encEls
      rw [List.flatMap_cons]
      rfl
    unfold readL
    rw [e1, cutF_hit (ThruC.tag h1)]
    show Seg.mk t (if true = true then elsF 100 (encE e ++ encEls E) else []) = _
    rw [if_pos rfl, els_enc E e 100 (by simp at hE; omega) h3 hl]
/-- The first segment, told by what the landed code reads. -/
theorem next_land {b : List UInt8} {n : Nat} (h : endF b = some n) : nextF b = if segE (readL (b.take n)) = 0 ∧ encS (readL (b.take n)) = b.take (n + 1) then (readL (b.take n), n + 1, 0) else (noSeg, 0, 4) := by
  have hn : n < b.length := by
    rw [end_cut] at h
    exact cut_lt 39 b n h
  by_cases hc : segE (readL (b.take n)) = 0 ∧ encS (readL (b.take n)) = b.take (n + 1)
  · rw [if_pos hc]
    have e := next_enc hc.1 (b.drop (n + 1))
    rw [hc.2, List.take_append_drop, List.length_take, Nat.min_eq_left (by omega)] at e
    exact e
  · rw [if_neg hc]
    unfold nextF
    rw [h]
    show (if segE (readF (b.take n)) = 0 ∧ encS (readF (b.take n)) = b.take (n + 1) then _ else _) = _
    by_cases hd : segE (readF (b.take n)) = 0 ∧ encS (readF (b.take n)) = b.take (n + 1)
    · refine absurd ?_ hc
      have e : bodyS (readF (b.take n)) = b.take n := by
        have h2 := congrArg (List.take n) hd.2
        rw [List.take_take, Nat.min_eq_left (by omega)] at h2
        have hl : (bodyS (readF (b.take n))).length = n := by
          have h3 := congrArg List.length hd.2
          unfold encS at h3
          rw [List.length_append, List.length_take, Nat.min_eq_left (by omega)] at h3
          simpa using h3
        unfold encS at h2
        rw [List.take_left' hl] at h2
        exact h2
      have r := readL_body hd.1
      rw [e] at r
      rw [r]
      exact hd
    · rw [if_neg hd]
end Go.Proofs.Ytenlfapdmknkjaa
