/- What Segment of the reference of layer 6 returns: the error of a segment. Condition: the segment's cells are known. -/
import Derived.Test.YtenlfapdmknkjaaSegSpec
import Derived.Test.YtenlfapdmknkjaaMem
import Derived.Deep.QuietTactic
import Derived.BigQuiet
import Derived.Handy
namespace Go.Proofs.Ytenlfapdmknkjaa
open Go.RowKit

theorem any_snoc {α : Type} {f : α → Bool} {l : List α} {i : Nat} {x : α} (h : l[i]? = some x) : (l.take (i + 1)).any f = ((l.take i).any f || f x) := by
  rw [List.take_add_one, h, List.any_append]
  simp
theorem any_all {α : Type} {f : α → Bool} {l : List α} : (l.take l.length).any f = l.any f := by rw [List.take_length]
theorem bad_drop {E : List (List (List UInt8))} {i : Nat} {e : List (List UInt8)} (h : E[i]? = some e) : badB (E.drop i) = (((e.isEmpty && decide (i + 1 = E.length)) || lastE e) || badB (E.drop (i + 1))) := by
  obtain ⟨hi, rfl⟩ := List.getElem?_eq_some_iff.1 h
  rw [List.drop_eq_getElem_cons hi]
  cases hr : E.drop (i + 1) with
  | nil =>
    have hl : i + 1 = E.length := by
      have := congrArg List.length hr
      rw [List.length_drop, List.length_nil] at this
      omega
    rw [decide_eq_true hl, Bool.and_true]
    show _ = (_ || false)
    rw [Bool.or_false]
    rfl
  | cons f r =>
    have hl : ¬ i + 1 = E.length := by
      intro hh
      rw [hh, List.drop_length] at hr
      cases hr
    rw [decide_eq_false hl, Bool.and_false, Bool.false_or]
    rfl
theorem last_at {e : List (List UInt8)} {x : List UInt8} (h : e[e.length - 1]? = some x) : lastE e = x.isEmpty := by
  unfold lastE
  rw [List.getLast?_eq_getElem?, h]
  cases x <;> rfl
/-- The classes of a byte of a tag. -/
theorem byte_class (x : UInt8) : (letB x = true ∧ 65 ≤ x.toNat ∧ x.toNat ≤ 90) ∨ (letB x = false ∧ digB x = true ∧ 48 ≤ x.toNat ∧ x.toNat ≤ 57) ∨ (letB x = false ∧ digB x = false ∧ (x.toNat < 48 ∨ (57 < x.toNat ∧ x.toNat < 65) ∨ 90 < x.toNat)) := by
  unfold letB digB
  by_cases h1 : 65 ≤ x.toNat ∧ x.toNat ≤ 90
  · exact .inl ⟨by simp; omega, h1⟩
  · by_cases h2 : 48 ≤ x.toNat ∧ x.toNat ≤ 57
    · exact .inr (.inl ⟨by simp; omega, by simp; omega, h2⟩)
    · exact .inr (.inr ⟨by simp; omega, by simp; omega, by omega⟩)
/-- Are the first i bytes of a tag as they must be? -/
def TagTo (a b c : UInt8) (i : Nat) : Prop := (0 < i → letB a = true) ∧ (1 < i → (letB b || digB b) = true) ∧ (2 < i → (letB c || digB c) = true)

set_option maxRecDepth 100000 in
set_option maxHeartbeats 1600000 in
theorem refSegment_any (t : List UInt8) (ht : t.length ≤ maxLen) (v : Value) (E : List (List (List UInt8))) (w : World) (h : ElemsIn (Has_ w) w v E) :
    Calls Try.prog 10 #[.agg #[strV t, v]] w fun e w' => e = .returned (.int .i64 (segE ⟨t, E⟩)) ∧ Below w.heap.size w w' := by
  unfold strV
  by_cases hl : t.length = 3
  · obtain ⟨a, b, c, rfl⟩ : ∃ a b c, t = [a, b, c] := by
      match t, hl with
      | [a, b, c], _ => exact ⟨a, b, c, rfl⟩
    have hbad : Hid (tagB [a, b, c] = false → segE ⟨[a, b, c], E⟩ = 1) := Lib.hid (fun hh => if_neg (by rw [hh]; simp))
    have hgood : Hid (TagTo a b c 3 → segE ⟨[a, b, c], E⟩ = if longB E then 8 else if badB E then 1 else 0) := Lib.hid (fun hh => if_pos (by
      show (letB a && ((letB b || digB b) && (letB c || digB c))) = true
      rw [hh.1 (by omega), hh.2.1 (by omega), hh.2.2 (by omega)]
      rfl))
    generalize segE ⟨[a, b, c], E⟩ = R at *
    go_enter Try.func10, Try.ntmps10
    go_wp2_with fail
    have q0 : (w.alloc (.cells #[.string ⟨#[a, b, c]⟩, v] 24)).cell? ⟨w.heap.size, 0, none⟩ = some (.string ⟨#[a, b, c]⟩) := by simp [go_sem]
    have q1 : (w.alloc (.cells #[.string ⟨#[a, b, c]⟩, v] 24)).cell? ⟨w.heap.size, 1, none⟩ = some v := by simp [go_sem]
    have hB0 : Below w.heap.size w (w.alloc (.cells #[.string ⟨#[a, b, c]⟩, v] 24)) := (Below.refl _ _).alloc (Nat.le_refl _) _
    have hE := Lib.hid (fun n => h.keep (has_keep (below_drewN hB0 n)))
    clear h
    generalize w.alloc (.cells #[.string ⟨#[a, b, c]⟩, v] 24) = W at *
    go_loopw [3] (fun vi wx => ∃ i : Nat, vi = .int .i64 i ∧ i ≤ 3 ∧ Hid (TagTo a b c i) ∧ ∃ m, wx = W.drewN m) (fun vi _ => 3 - (intOf vi).toNat)
    case atStart => exact ⟨0, by go_num, by omega, Lib.hid (show TagTo a b c 0 from ⟨fun h => by omega, fun h => by omega, fun h => by omega⟩), 0, rfl⟩
    case round =>
      obtain ⟨i, rfl, hi, hA, m, rfl⟩ := hrel
      by_cases h3 : i = 3
      · subst h3
        have hR := hgood.out hA.out
        clear hA hgood hbad
        rw [show (((3 : Nat) : Int)) = 3 from rfl]
        have hE2 := Lib.hid (hE.out m)
        have q2 : (W.drewN m).cell? ⟨w.heap.size, 0, none⟩ = some (.string ⟨#[a, b, c]⟩) := q0
        have q3 : (W.drewN m).cell? ⟨w.heap.size, 1, none⟩ = some v := q1
        have hB2 : Below w.heap.size w (W.drewN m) := below_drewN hB0 m
        clear q0 q1 hB0 hE
        generalize W.drewN m = W2 at *
        obtain ⟨ao, cap, rfl, hEl, hEa⟩ := hE2.out.form
        have HE := Lib.hid hEa
        clear hE2 hEa
        have hEb : E.length ≤ 9223372036854775807 := by unfold maxLen at hEl; omega
        go_wp2_with fail
        go_loopw [6, 7] (fun vl vi wx => ∃ (L : Bool) (i : Nat), vl = .bool L ∧ vi = .int .i64 i ∧ i ≤ E.length ∧ Hid (L = (decide (100 < E.length) || (E.take i).any longE)) ∧ wx = W2) (fun _ vi _ => E.length - (intOf vi).toNat)
        case atStart => exact ⟨_, 0, rfl, by go_num, by omega, Lib.hid (by simp; omega), by first | rfl | trivial⟩
        case round =>
          obtain ⟨L, i, rfl, rfl, hi, hL, rfl⟩ := hrel
          by_cases hlt : i < E.length
          · obtain ⟨e, he⟩ : ∃ e, E[i]? = some e := ⟨_, List.getElem?_eq_getElem hlt⟩
            obtain ⟨a0, u, rfl, hc0, hS⟩ := HE.out i e he
            obtain ⟨bo, cap2, rfl, hel, hea⟩ := hS.form
            have HS := Lib.hid hea
            clear hea hS
            have d1 : decide ((i : Int) < (E.length : Int)) = true := decide_eq_true (by omega)
            have hLn := Lib.hid (show ∀ M : Bool, M = ((L || decide (100 < e.length)) || e.any fun x => decide (1000 < x.length)) → M = (decide (100 < E.length) || (E.take (i + 1)).any longE) from fun M hM => by
              rw [hM, hL.out, any_snoc he]
              unfold longE
              simp only [Bool.or_assoc])
            have hLi := Lib.hid (show (L || decide (100 < e.length)) = ((L || decide (100 < e.length)) || (e.take 0).any fun x => decide (1000 < x.length)) by simp)
            have hMs := Lib.hid (show ∀ (k : Nat) (x : List UInt8) (M : Bool), e[k]? = some x → M = ((L || decide (100 < e.length)) || (e.take k).any fun x => decide (1000 < x.length)) → (M || decide (1000 < x.length)) = ((L || decide (100 < e.length)) || (e.take (k + 1)).any fun x => decide (1000 < x.length)) from fun k x M hx hM => by
              rw [hM, any_snoc hx]
              simp only [Bool.or_assoc])
            have hMe := Lib.hid (show ∀ (M : Bool), M = ((L || decide (100 < e.length)) || (e.take e.length).any fun x => decide (1000 < x.length)) → M = (decide (100 < E.length) || (E.take (i + 1)).any longE) from fun M hM => hLn.out M (by rw [hM, any_all]))
            have heb : e.length ≤ 9223372036854775807 := by unfold maxLen at hel; omega
            clear hL hLn HE he
            have dd : decide ((100 : Int) < (e.length : Int)) = decide (100 < e.length) := decide_eq_decide.2 (by omega)
            cases L
            all_goals
              generalize hD : decide (100 < e.length) = D at *
              clear hD
              go_wp2_with fail
              go_loopw [6, 8] (fun vl vk wx => ∃ (M : Bool) (k : Nat), vl = .bool M ∧ vk = .int .i64 k ∧ k ≤ e.length ∧ Hid (M = ((_ || D) || (e.take k).any fun x => decide (1000 < x.length))) ∧ wx = wr) (fun _ vk _ => e.length - (intOf vk).toNat)
              case atStart => exact ⟨_, 0, rfl, by go_num, by omega, hLi, by first | rfl | trivial⟩
              case round =>
                obtain ⟨M, k, rfl, rfl, hk, hM, rfl⟩ := hrel
                by_cases hkl : k < e.length
                · obtain ⟨x, hx⟩ : ∃ x, e[k]? = some x := ⟨_, List.getElem?_eq_getElem hkl⟩
                  obtain ⟨b0, rfl, hck, hxl⟩ := HS.out k x hx
                  have hN := Lib.hid (hMs.out k x M hx hM.out)
                  unfold strV at hck
                  have dx : decide ((1000 : Int) < (x.length : Int)) = decide (1000 < x.length) := decide_eq_decide.2 (by omega)
                  clear hMs hMe hM HS hx
                  cases M
                  all_goals
                    go_wp2_with fail
                    go_roundw
                    case rel =>
                      refine ⟨_, k + 1, rfl, by go_num, by omega, Lib.hid ?_, by first | rfl | trivial⟩
                      first
                        | exact hN.out
                        | (rw [dx]; exact hN.out)
                    case measure => simp [intOf]; omega
                · obtain rfl : k = e.length := by omega
                  have hN := Lib.hid (hMe.out M hM.out)
                  clear hMs hMe hM HS
                  go_wp2_with fail
                  go_roundw
                  case rel => exact ⟨M, i + 1, rfl, by go_num, by omega, hN, by first | rfl | trivial⟩
                  case measure => simp [intOf]; omega
          · obtain rfl : i = E.length := by omega
            have hLe : L = longB E := by rw [hL.out, any_all]; rfl
            rw [← hLe] at hR
            clear hL hLe
            cases L
            · have hR2 : R = if badB E = true then 1 else 0 := hR
              clear hR
              have hR3 := Lib.hid (show badB (E.drop 0) = true → R = 1 from fun hh => by rw [hR2]; exact if_pos hh)
              have hR4 := Lib.hid (show badB (E.drop 0) = false → R = 0 from fun hh => by rw [hR2]; exact if_neg (by rw [show E.drop 0 = E from rfl] at hh; rw [hh]; simp))
              have hbd := Lib.hid (fun (i : Nat) (e : List (List UInt8)) (he : E[i]? = some e) => bad_drop he)
              clear hR2
              go_wp2_with fail
              go_loopw [9] (fun vi wx => ∃ i : Nat, vi = .int .i64 i ∧ i ≤ E.length ∧ Hid (badB (E.drop 0) = badB (E.drop i)) ∧ wx = wr) (fun vi _ => E.length - (intOf vi).toNat)
              case atStart => exact ⟨0, by go_num, by omega, Lib.hid rfl, by first | rfl | trivial⟩
              case round =>
                obtain ⟨i, rfl, hi, hD, rfl⟩ := hrel
                by_cases hlt : i < E.length
                · obtain ⟨e, he⟩ : ∃ e, E[i]? = some e := ⟨_, List.getElem?_eq_getElem hlt⟩
                  obtain ⟨a0, u, rfl, hc0, hS⟩ := HE.out i e he
                  obtain ⟨bo, cap2, rfl, hel, hea⟩ := hS.form
                  have hst := hbd.out i e he
                  have d1 : decide ((i : Int) < (E.length : Int)) = true := decide_eq_true (by omega)
                  have heb : e.length ≤ 9223372036854775807 := by unfold maxLen at hel; omega
                  by_cases hz : e.length = 0
                  · have hst2 : badB (E.drop i) = (decide (i + 1 = E.length) || badB (E.drop (i + 1))) := by
                      rw [hst, List.eq_nil_of_length_eq_zero hz]
                      show ((true && decide (i + 1 = E.length) || false) || _) = _
                      rw [Bool.true_and, Bool.or_false]
                    rw [hz] at hc0
                    clear hst hea hS he hel heb hz HE hbd
                    by_cases hlast : i + 1 = E.length
                    · have hR5 : R = 1 := hR3.out (by rw [hD.out, hst2, decide_eq_true hlast]; rfl)
                      have d2 : ((i : Int) == (E.length : Int) - 1) = true := by rw [beq_iff_eq]; omega
                      clear hR3 hR4 hD hst2
                      subst hR5
                      go_wp2_with fail
                      go_ret
                      exact ⟨rfl, hB2⟩
                    · have hN := Lib.hid (show badB (E.drop 0) = badB (E.drop (i + 1)) by rw [hD.out, hst2, decide_eq_false hlast]; rfl)
                      have d2 : ((i : Int) == (E.length : Int) - 1) = false := by rw [beq_eq_false_iff_ne]; omega
                      clear hD hst2
                      go_wp2_with fail
                      go_roundw
                      case rel => exact ⟨i + 1, by go_num, by omega, hN, by first | rfl | trivial⟩
                      case measure => simp [intOf]; omega
                  · obtain ⟨x, hx⟩ : ∃ x, e[e.length - 1]? = some x := ⟨_, List.getElem?_eq_getElem (by omega)⟩
                    obtain ⟨b0, rfl, hck, hxl⟩ := hea _ x hx
                    have hla := last_at hx
                    have hemp : e.isEmpty = false := by cases e with | nil => simp at hz | cons => rfl
                    rw [hla, hemp, Bool.false_and, Bool.false_or] at hst
                    have e1 : ((e.length - 1 : Nat) : Int) = (e.length : Int) - 1 := by omega
                    have d3 : ((e.length : Int) == 0) = false := by rw [beq_eq_false_iff_ne]; omega
                    have d4 : decide ((0 : Int) < (e.length : Int)) = true := decide_eq_true (by omega)
                    unfold strV at hck
                    have ht1 : ((e.length : Int) - 1).toNat = e.length - 1 := by omega
                    clear hea hS he HE hbd hla hemp hx
                    cases hxe : x.isEmpty with
                    | true =>
                      have hR5 : R = 1 := hR3.out (by rw [hD.out, hst, hxe]; rfl)
                      have hcmp : ((⟨x.toArray⟩ : ByteArray).toList == ([] : List UInt8)) = true := by rw [ByteArray.toList_eq]; simpa using hxe
                      clear hR3 hR4 hD hst
                      subst hR5
                      go_wp2_with fail
                      go_ret
                      exact ⟨rfl, hB2⟩
                    | false =>
                      have hN := Lib.hid (show badB (E.drop 0) = badB (E.drop (i + 1)) by rw [hD.out, hst, hxe]; rfl)
                      have hcmp : ((⟨x.toArray⟩ : ByteArray).toList == ([] : List UInt8)) = false := by rw [ByteArray.toList_eq]; simpa using hxe
                      clear hD hst
                      go_wp2_with fail
                      go_roundw
                      case rel => exact ⟨i + 1, by go_num, by omega, hN, by first | rfl | trivial⟩
                      case measure => simp [intOf]; omega
                · obtain rfl : i = E.length := by omega
                  have hR5 : R = 0 := hR4.out (by rw [hD.out, List.drop_length]; rfl)
                  clear hR3 hR4 hbd hD HE
                  subst hR5
                  go_wp2_with fail
                  go_ret
                  exact ⟨rfl, hB2⟩
            · have hR2 : R = 8 := hR
              clear hR
              subst hR2
              go_wp2_with fail
              go_ret
              exact ⟨rfl, hB2⟩
      · rcases (show i = 0 ∨ i = 1 ∨ i = 2 by omega) with rfl | rfl | rfl
        · rw [show ((((0 : Nat)) : Int)) = 0 from rfl]
          rcases byte_class a with ⟨c1, b1, b2⟩ | ⟨c1, c2, b1, b2⟩ | ⟨c1, c2, b1⟩
          · have hN := Lib.hid (show TagTo a b c 1 from ⟨fun _ => c1, fun h => by omega, fun h => by omega⟩)
            have dA : decide ((65 : Int) ≤ ((((⟨#[a, b, c]⟩ : ByteArray)[0]'(by show 0 < 3; omega)).toNat) : Int)) = true := decide_eq_true (show (65 : Int) ≤ (a.toNat : Int) by omega)
            have dB : decide (((((⟨#[a, b, c]⟩ : ByteArray)[0]'(by show 0 < 3; omega)).toNat) : Int) ≤ 90) = true := decide_eq_true (show (a.toNat : Int) ≤ 90 by omega)
            have dC : decide ((48 : Int) ≤ ((((⟨#[a, b, c]⟩ : ByteArray)[0]'(by show 0 < 3; omega)).toNat) : Int)) = true := decide_eq_true (show (48 : Int) ≤ (a.toNat : Int) by omega)
            have dD : decide (((((⟨#[a, b, c]⟩ : ByteArray)[0]'(by show 0 < 3; omega)).toNat) : Int) ≤ 57) = false := decide_eq_false (show ¬ (((a.toNat : Int) ≤ 57)) by omega)
            clear hA c1 hbad hgood hE
            go_wp2_with fail
            go_quiet (fail)
            go_wp2_with fail
            go_roundw
            case rel => exact ⟨1, by go_num, by omega, hN, _, rfl⟩
            case measure => simp [intOf]
          · have hR := hbad.out (by show (letB a && _) = false; rw [c1]; rfl)
            have dA : decide ((65 : Int) ≤ ((((⟨#[a, b, c]⟩ : ByteArray)[0]'(by show 0 < 3; omega)).toNat) : Int)) = false := decide_eq_false (show ¬ (((65 : Int) ≤ (a.toNat : Int))) by omega)
            have dC : decide ((48 : Int) ≤ ((((⟨#[a, b, c]⟩ : ByteArray)[0]'(by show 0 < 3; omega)).toNat) : Int)) = true := decide_eq_true (show (48 : Int) ≤ (a.toNat : Int) by omega)
            have dD : decide (((((⟨#[a, b, c]⟩ : ByteArray)[0]'(by show 0 < 3; omega)).toNat) : Int) ≤ 57) = true := decide_eq_true (show (a.toNat : Int) ≤ 57 by omega)
            clear hA c1 c2 hbad hgood hE
            subst hR
            go_wp2_with fail
            go_quiet (fail)
            go_wp2_with fail
            go_ret
            exact ⟨rfl, below_drewN hB0 _⟩
          · have hR := hbad.out (by show (letB a && _) = false; rw [c1]; rfl)
            clear hA c1 c2 hbad hgood hE
            subst hR
            rcases b1 with b1 | b1 | b1
            · have dA : decide ((65 : Int) ≤ ((((⟨#[a, b, c]⟩ : ByteArray)[0]'(by show 0 < 3; omega)).toNat) : Int)) = false := decide_eq_false (show ¬ (((65 : Int) ≤ (a.toNat : Int))) by omega)
              have dC : decide ((48 : Int) ≤ ((((⟨#[a, b, c]⟩ : ByteArray)[0]'(by show 0 < 3; omega)).toNat) : Int)) = false := decide_eq_false (show ¬ (((48 : Int) ≤ (a.toNat : Int))) by omega)
              go_wp2_with fail
              go_quiet (fail)
              go_wp2_with fail
              go_ret
              exact ⟨rfl, below_drewN hB0 _⟩
            · have dA : decide ((65 : Int) ≤ ((((⟨#[a, b, c]⟩ : ByteArray)[0]'(by show 0 < 3; omega)).toNat) : Int)) = false := decide_eq_false (show ¬ (((65 : Int) ≤ (a.toNat : Int))) by omega)
              have dC : decide ((48 : Int) ≤ ((((⟨#[a, b, c]⟩ : ByteArray)[0]'(by show 0 < 3; omega)).toNat) : Int)) = true := decide_eq_true (show (48 : Int) ≤ (a.toNat : Int) by omega)
              have dD : decide (((((⟨#[a, b, c]⟩ : ByteArray)[0]'(by show 0 < 3; omega)).toNat) : Int) ≤ 57) = false := decide_eq_false (show ¬ (((a.toNat : Int) ≤ 57)) by omega)
              go_wp2_with fail
              go_quiet (fail)
              go_wp2_with fail
              go_ret
              exact ⟨rfl, below_drewN hB0 _⟩
            · have dA : decide ((65 : Int) ≤ ((((⟨#[a, b, c]⟩ : ByteArray)[0]'(by show 0 < 3; omega)).toNat) : Int)) = true := decide_eq_true (show (65 : Int) ≤ (a.toNat : Int) by omega)
              have dB : decide (((((⟨#[a, b, c]⟩ : ByteArray)[0]'(by show 0 < 3; omega)).toNat) : Int) ≤ 90) = false := decide_eq_false (show ¬ (((a.toNat : Int) ≤ 90)) by omega)
              have dC : decide ((48 : Int) ≤ ((((⟨#[a, b, c]⟩ : ByteArray)[0]'(by show 0 < 3; omega)).toNat) : Int)) = true := decide_eq_true (show (48 : Int) ≤ (a.toNat : Int) by omega)
              have dD : decide (((((⟨#[a, b, c]⟩ : ByteArray)[0]'(by show 0 < 3; omega)).toNat) : Int) ≤ 57) = false := decide_eq_false (show ¬ (((a.toNat : Int) ≤ 57)) by omega)
              go_wp2_with fail
              go_quiet (fail)
              go_wp2_with fail
              go_ret
              exact ⟨rfl, below_drewN hB0 _⟩
        · rw [show ((((1 : Nat)) : Int)) = 1 from rfl]
          rcases byte_class b with ⟨c1, b1, b2⟩ | ⟨c1, c2, b1, b2⟩ | ⟨c1, c2, b1⟩
          · have hN := Lib.hid (show TagTo a b c 2 from ⟨fun _ => hA.out.1 (by omega), fun _ => by rw [c1]; rfl, fun h => by omega⟩)
            have dA : decide ((65 : Int) ≤ ((((⟨#[a, b, c]⟩ : ByteArray)[1]'(by show 1 < 3; omega)).toNat) : Int)) = true := decide_eq_true (show (65 : Int) ≤ (b.toNat : Int) by omega)
            have dB : decide (((((⟨#[a, b, c]⟩ : ByteArray)[1]'(by show 1 < 3; omega)).toNat) : Int) ≤ 90) = true := decide_eq_true (show (b.toNat : Int) ≤ 90 by omega)
            have dC : decide ((48 : Int) ≤ ((((⟨#[a, b, c]⟩ : ByteArray)[1]'(by show 1 < 3; omega)).toNat) : Int)) = true := decide_eq_true (show (48 : Int) ≤ (b.toNat : Int) by omega)
            have dD : decide (((((⟨#[a, b, c]⟩ : ByteArray)[1]'(by show 1 < 3; omega)).toNat) : Int) ≤ 57) = false := decide_eq_false (show ¬ (((b.toNat : Int) ≤ 57)) by omega)
            clear hA c1 hbad hgood hE
            go_wp2_with fail
            go_quiet (fail)
            go_wp2_with fail
            go_roundw
            case rel => exact ⟨2, by go_num, by omega, hN, _, rfl⟩
            case measure => simp [intOf]
          · have hN := Lib.hid (show TagTo a b c 2 from ⟨fun _ => hA.out.1 (by omega), fun _ => by rw [c1, c2]; rfl, fun h => by omega⟩)
            have dA : decide ((65 : Int) ≤ ((((⟨#[a, b, c]⟩ : ByteArray)[1]'(by show 1 < 3; omega)).toNat) : Int)) = false := decide_eq_false (show ¬ (((65 : Int) ≤ (b.toNat : Int))) by omega)
            have dC : decide ((48 : Int) ≤ ((((⟨#[a, b, c]⟩ : ByteArray)[1]'(by show 1 < 3; omega)).toNat) : Int)) = true := decide_eq_true (show (48 : Int) ≤ (b.toNat : Int) by omega)
            have dD : decide (((((⟨#[a, b, c]⟩ : ByteArray)[1]'(by show 1 < 3; omega)).toNat) : Int) ≤ 57) = true := decide_eq_true (show (b.toNat : Int) ≤ 57 by omega)
            clear hA c1 c2 hbad hgood hE
            go_wp2_with fail
            go_quiet (fail)
            go_wp2_with fail
            go_roundw
            case rel => exact ⟨2, by go_num, by omega, hN, _, rfl⟩
            case measure => simp [intOf]
          · have hR := hbad.out (by show (letB a && ((letB b || digB b) && _)) = false; rw [c1, c2]; simp)
            clear hA c1 c2 hbad hgood hE
            subst hR
            rcases b1 with b1 | b1 | b1
            · have dA : decide ((65 : Int) ≤ ((((⟨#[a, b, c]⟩ : ByteArray)[1]'(by show 1 < 3; omega)).toNat) : Int)) = false := decide_eq_false (show ¬ (((65 : Int) ≤ (b.toNat : Int))) by omega)
              have dC : decide ((48 : Int) ≤ ((((⟨#[a, b, c]⟩ : ByteArray)[1]'(by show 1 < 3; omega)).toNat) : Int)) = false := decide_eq_false (show ¬ (((48 : Int) ≤ (b.toNat : Int))) by omega)
              go_wp2_with fail
              go_quiet (fail)
              go_wp2_with fail
              go_ret
              exact ⟨rfl, below_drewN hB0 _⟩
            · have dA : decide ((65 : Int) ≤ ((((⟨#[a, b, c]⟩ : ByteArray)[1]'(by show 1 < 3; omega)).toNat) : Int)) = false := decide_eq_false (show ¬ (((65 : Int) ≤ (b.toNat : Int))) by omega)
              have dC : decide ((48 : Int) ≤ ((((⟨#[a, b, c]⟩ : ByteArray)[1]'(by show 1 < 3; omega)).toNat) : Int)) = true := decide_eq_true (show (48 : Int) ≤ (b.toNat : Int) by omega)
              have dD : decide (((((⟨#[a, b, c]⟩ : ByteArray)[1]'(by show 1 < 3; omega)).toNat) : Int) ≤ 57) = false := decide_eq_false (show ¬ (((b.toNat : Int) ≤ 57)) by omega)
              go_wp2_with fail
              go_quiet (fail)
              go_wp2_with fail
              go_ret
              exact ⟨rfl, below_drewN hB0 _⟩
            · have dA : decide ((65 : Int) ≤ ((((⟨#[a, b, c]⟩ : ByteArray)[1]'(by show 1 < 3; omega)).toNat) : Int)) = true := decide_eq_true (show (65 : Int) ≤ (b.toNat : Int) by omega)
              have dB : decide (((((⟨#[a, b, c]⟩ : ByteArray)[1]'(by show 1 < 3; omega)).toNat) : Int) ≤ 90) = false := decide_eq_false (show ¬ (((b.toNat : Int) ≤ 90)) by omega)
              have dC : decide ((48 : Int) ≤ ((((⟨#[a, b, c]⟩ : ByteArray)[1]'(by show 1 < 3; omega)).toNat) : Int)) = true := decide_eq_true (show (48 : Int) ≤ (b.toNat : Int) by omega)
              have dD : decide (((((⟨#[a, b, c]⟩ : ByteArray)[1]'(by show 1 < 3; omega)).toNat) : Int) ≤ 57) = false := decide_eq_false (show ¬ (((b.toNat : Int) ≤ 57)) by omega)
              go_wp2_with fail
              go_quiet (fail)
              go_wp2_with fail
              go_ret
              exact ⟨rfl, below_drewN hB0 _⟩
        · rw [show ((((2 : Nat)) : Int)) = 2 from rfl]
          rcases byte_class c with ⟨c1, b1, b2⟩ | ⟨c1, c2, b1, b2⟩ | ⟨c1, c2, b1⟩
          · have hN := Lib.hid (show TagTo a b c 3 from ⟨fun _ => hA.out.1 (by omega), fun _ => hA.out.2.1 (by omega), fun _ => by rw [c1]; rfl⟩)
            have dA : decide ((65 : Int) ≤ ((((⟨#[a, b, c]⟩ : ByteArray)[2]'(by show 2 < 3; omega)).toNat) : Int)) = true := decide_eq_true (show (65 : Int) ≤ (c.toNat : Int) by omega)
            have dB : decide (((((⟨#[a, b, c]⟩ : ByteArray)[2]'(by show 2 < 3; omega)).toNat) : Int) ≤ 90) = true := decide_eq_true (show (c.toNat : Int) ≤ 90 by omega)
            have dC : decide ((48 : Int) ≤ ((((⟨#[a, b, c]⟩ : ByteArray)[2]'(by show 2 < 3; omega)).toNat) : Int)) = true := decide_eq_true (show (48 : Int) ≤ (c.toNat : Int) by omega)
            have dD : decide (((((⟨#[a, b, c]⟩ : ByteArray)[2]'(by show 2 < 3; omega)).toNat) : Int) ≤ 57) = false := decide_eq_false (show ¬ (((c.toNat : Int) ≤ 57)) by omega)
            clear hA c1 hbad hgood hE
            go_wp2_with fail
            go_quiet (fail)
            go_wp2_with fail
            go_roundw
            case rel => exact ⟨3, by go_num, by omega, hN, _, rfl⟩
            case measure => simp [intOf]
          · have hN := Lib.hid (show TagTo a b c 3 from ⟨fun _ => hA.out.1 (by omega), fun _ => hA.out.2.1 (by omega), fun _ => by rw [c1, c2]; rfl⟩)
            have dA : decide ((65 : Int) ≤ ((((⟨#[a, b, c]⟩ : ByteArray)[2]'(by show 2 < 3; omega)).toNat) : Int)) = false := decide_eq_false (show ¬ (((65 : Int) ≤ (c.toNat : Int))) by omega)
            have dC : decide ((48 : Int) ≤ ((((⟨#[a, b, c]⟩ : ByteArray)[2]'(by show 2 < 3; omega)).toNat) : Int)) = true := decide_eq_true (show (48 : Int) ≤ (c.toNat : Int) by omega)
            have dD : decide (((((⟨#[a, b, c]⟩ : ByteArray)[2]'(by show 2 < 3; omega)).toNat) : Int) ≤ 57) = true := decide_eq_true (show (c.toNat : Int) ≤ 57 by omega)
            clear hA c1 c2 hbad hgood hE
            go_wp2_with fail
            go_quiet (fail)
            go_wp2_with fail
            go_roundw
            case rel => exact ⟨3, by go_num, by omega, hN, _, rfl⟩
            case measure => simp [intOf]
          · have hR := hbad.out (by show (letB a && (_ && (letB c || digB c))) = false; rw [c1, c2]; simp)
            clear hA c1 c2 hbad hgood hE
            subst hR
            rcases b1 with b1 | b1 | b1
            · have dA : decide ((65 : Int) ≤ ((((⟨#[a, b, c]⟩ : ByteArray)[2]'(by show 2 < 3; omega)).toNat) : Int)) = false := decide_eq_false (show ¬ (((65 : Int) ≤ (c.toNat : Int))) by omega)
              have dC : decide ((48 : Int) ≤ ((((⟨#[a, b, c]⟩ : ByteArray)[2]'(by show 2 < 3; omega)).toNat) : Int)) = false := decide_eq_false (show ¬ (((48 : Int) ≤ (c.toNat : Int))) by omega)
              go_wp2_with fail
              go_quiet (fail)
              go_wp2_with fail
              go_ret
              exact ⟨rfl, below_drewN hB0 _⟩
            · have dA : decide ((65 : Int) ≤ ((((⟨#[a, b, c]⟩ : ByteArray)[2]'(by show 2 < 3; omega)).toNat) : Int)) = false := decide_eq_false (show ¬ (((65 : Int) ≤ (c.toNat : Int))) by omega)
              have dC : decide ((48 : Int) ≤ ((((⟨#[a, b, c]⟩ : ByteArray)[2]'(by show 2 < 3; omega)).toNat) : Int)) = true := decide_eq_true (show (48 : Int) ≤ (c.toNat : Int) by omega)
              have dD : decide (((((⟨#[a, b, c]⟩ : ByteArray)[2]'(by show 2 < 3; omega)).toNat) : Int) ≤ 57) = false := decide_eq_false (show ¬ (((c.toNat : Int) ≤ 57)) by omega)
              go_wp2_with fail
              go_quiet (fail)
              go_wp2_with fail
              go_ret
              exact ⟨rfl, below_drewN hB0 _⟩
            · have dA : decide ((65 : Int) ≤ ((((⟨#[a, b, c]⟩ : ByteArray)[2]'(by show 2 < 3; omega)).toNat) : Int)) = true := decide_eq_true (show (65 : Int) ≤ (c.toNat : Int) by omega)
              have dB : decide (((((⟨#[a, b, c]⟩ : ByteArray)[2]'(by show 2 < 3; omega)).toNat) : Int) ≤ 90) = false := decide_eq_false (show ¬ (((c.toNat : Int) ≤ 90)) by omega)
              have dC : decide ((48 : Int) ≤ ((((⟨#[a, b, c]⟩ : ByteArray)[2]'(by show 2 < 3; omega)).toNat) : Int)) = true := decide_eq_true (show (48 : Int) ≤ (c.toNat : Int) by omega)
              have dD : decide (((((⟨#[a, b, c]⟩ : ByteArray)[2]'(by show 2 < 3; omega)).toNat) : Int) ≤ 57) = false := decide_eq_false (show ¬ (((c.toNat : Int) ≤ 57)) by omega)
              go_wp2_with fail
              go_quiet (fail)
              go_wp2_with fail
              go_ret
              exact ⟨rfl, below_drewN hB0 _⟩
  · have e0 : segE ⟨t, E⟩ = 1 := by
      refine if_neg fun hc => hl ?_
      obtain ⟨a, b, c, hh, _⟩ := tag_shape hc
      have : t = [a, b, c] := hh
      rw [this]; rfl
    rw [e0]
    have d0 : ((t.length : Int) != 3) = true := by rw [bne_iff_ne]; omega
    go_enter Try.func10, Try.ntmps10
    go_wp2_with fail
    go_ret
    exact ⟨rfl, (Below.refl _ _).alloc (Nat.le_refl _) _⟩
end Go.Proofs.Ytenlfapdmknkjaa
