/- What the landed isDigit, isLetter, isTag, isWithinLimits, hasEmptyEnd and Validate of package segment return: the error of a segment. Condition: the segment's cells are known. -/
import Derived.Test.YtenlfapdmknkjaaSegVal
import Derived.Test.YtenlfapdmknkjaaSegText
namespace Go.Proofs.Ytenlfapdmknkjaa
open Go.RowKit

theorem segDigit_any (c : UInt8) (w : World) : Calls Try.prog 34 #[byteV c] w fun e w' => e = .returned (.bool (digB c)) ∧ w = w' := by
  unfold byteV digB
  have d1 : decide ((48 : Int) ≤ (c.toNat : Int)) = decide (48 ≤ c.toNat) := decide_eq_decide.2 (by omega)
  have d2 : decide ((c.toNat : Int) ≤ 57) = decide (c.toNat ≤ 57) := decide_eq_decide.2 (by omega)
  generalize decide (48 ≤ c.toNat) = A at *
  generalize decide (c.toNat ≤ 57) = B at *
  generalize (c.toNat : Int) = x at *
  cases A <;> cases B
  all_goals
    go_enter Try.func34, Try.ntmps34
    go_wp2_with fail
    go_ret
    exact ⟨rfl, rfl⟩
theorem segLetter_any (c : UInt8) (w : World) : Calls Try.prog 35 #[byteV c] w fun e w' => e = .returned (.bool (letB c)) ∧ w = w' := by
  unfold byteV letB
  have d1 : decide ((65 : Int) ≤ (c.toNat : Int)) = decide (65 ≤ c.toNat) := decide_eq_decide.2 (by omega)
  have d2 : decide ((c.toNat : Int) ≤ 90) = decide (c.toNat ≤ 90) := decide_eq_decide.2 (by omega)
  generalize decide (65 ≤ c.toNat) = A at *
  generalize decide (c.toNat ≤ 90) = B at *
  generalize (c.toNat : Int) = x at *
  cases A <;> cases B
  all_goals
    go_enter Try.func35, Try.ntmps35
    go_wp2_with fail
    go_ret
    exact ⟨rfl, rfl⟩
set_option maxHeartbeats 800000 in
set_option maxHeartbeats 800000 in
set_option maxHeartbeats 800000 in
theorem segTag_any (t : List UInt8) (w : World) (ht : t.length ≤ maxLen) : Calls Try.prog 21 #[strV t] w fun e w' => e = .returned (.bool (tagB t)) ∧ w = w' := by
  unfold strV
  by_cases hl : t.length = 3
  · obtain ⟨a, b, c, rfl⟩ : ∃ a b c, t = [a, b, c] := by
      match t, hl with
      | [a, b, c], _ => exact ⟨a, b, c, rfl⟩
    have D0 := Lib.hid (fun w => segDigit_any ((⟨#[a, b, c]⟩ : ByteArray)[0]'(by show 0 < 3; omega)) w)
    have D1 := Lib.hid (fun w => segDigit_any ((⟨#[a, b, c]⟩ : ByteArray)[1]'(by show 1 < 3; omega)) w)
    have D2 := Lib.hid (fun w => segDigit_any ((⟨#[a, b, c]⟩ : ByteArray)[2]'(by show 2 < 3; omega)) w)
    have L0 := Lib.hid (fun w => segLetter_any ((⟨#[a, b, c]⟩ : ByteArray)[0]'(by show 0 < 3; omega)) w)
    have L1 := Lib.hid (fun w => segLetter_any ((⟨#[a, b, c]⟩ : ByteArray)[1]'(by show 1 < 3; omega)) w)
    have L2 := Lib.hid (fun w => segLetter_any ((⟨#[a, b, c]⟩ : ByteArray)[2]'(by show 2 < 3; omega)) w)
    unfold byteV at D0 D1 D2 L0 L1 L2
    have e0 : ((⟨#[a, b, c]⟩ : ByteArray)[0]'(by show 0 < 3; omega)) = a := rfl
    have e1 : ((⟨#[a, b, c]⟩ : ByteArray)[1]'(by show 1 < 3; omega)) = b := rfl
    have e2 : ((⟨#[a, b, c]⟩ : ByteArray)[2]'(by show 2 < 3; omega)) = c := rfl
    obtain ⟨R, hR⟩ : ∃ R, R = tagB [a, b, c] := ⟨_, rfl⟩
    have hRv : R = (letB a && ((letB b || digB b) && (letB c || digB c))) := hR
    rw [← hR]
    clear hR
    have hx : digB a = true → letB a = false := by
      intro h
      rcases byte_class a with ⟨_, h1, h2⟩ | ⟨h1, _⟩ | ⟨h1, _⟩
      · unfold digB at h
        simp at h
        omega
      · exact h1
      · exact h1
    cases hda : digB a with
    | true =>
      rw [e0, hda] at D0
      rw [hx hda, Bool.false_and] at hRv
      subst hRv
      clear hda hx D1 D2 L0 L1 L2
      go_enter Try.func21, Try.ntmps21
      go_wp2_with fail
      refine (D0.out _).mono ?_
      rintro e w1 ⟨rfl, rfl⟩
      go_wp2_with fail
      go_ret
      exact ⟨rfl, rfl⟩
    | false =>
      have hgood := Lib.hid (show TagTo a b c 3 → R = true from fun h => by
        rw [hRv, h.1 (by omega), h.2.1 (by omega), h.2.2 (by omega)]
        rfl)
      have hbad := Lib.hid (show ∀ i : Nat, (i = 0 ∧ letB a = false) ∨ (i = 1 ∧ letB b = false ∧ digB b = false) ∨ (i = 2 ∧ letB c = false ∧ digB c = false) → R = false from fun i h => by
        rw [hRv]
        rcases h with ⟨_, h⟩ | ⟨_, h, h2⟩ | ⟨_, h, h2⟩
        · rw [h]; rfl
        · rw [h, h2]; simp
        · rw [h, h2]; simp)
      rw [e0, hda] at D0
      clear hRv hx
      have hRv : True := trivial
      go_enter Try.func21, Try.ntmps21
      go_wp2_with fail
      refine (D0.out _).mono ?_
      rintro e w1 ⟨rfl, rfl⟩
      go_wp2_with fail
      go_loopw [14] (fun vi wx => ∃ i : Nat, vi = .int .i64 i ∧ i ≤ 3 ∧ Hid (TagTo a b c i) ∧ wx = w) (fun vi _ => 3 - (intOf vi).toNat)
      case atStart => exact ⟨0, by go_num, by omega, Lib.hid (show TagTo a b c 0 from ⟨fun h => by omega, fun h => by omega, fun h => by omega⟩), rfl⟩
      case round =>
        obtain ⟨i, rfl, hi, hA, rfl⟩ := hrel
        rcases (show i = 3 ∨ i = 0 ∨ i = 1 ∨ i = 2 by omega) with rfl | rfl | rfl | rfl
        · have hR := hgood.out hA.out
          rw [show (((3 : Nat)) : Int) = 3 from rfl]
          clear hA hRv hgood hbad
          subst hR
          go_wp2_with fail
          go_ret
          exact ⟨rfl, rfl⟩
        · rw [show (((0 : Nat)) : Int) = 0 from rfl]
          cases hl0 : letB a with
          | true =>
            have hN := Lib.hid (show TagTo a b c 1 from ⟨fun _ => hl0, fun h => by omega, fun h => by omega⟩)
            rw [e0, hl0] at L0
            clear hA hRv hgood hbad D0 D1 D2
            go_wp2_with fail
            refine (L0.out _).mono ?_
            rintro e w1 ⟨rfl, rfl⟩
            go_wp2_with fail
            go_roundw
            case rel => exact ⟨1, by go_num, by omega, hN, by first | rfl | trivial⟩
            case measure => simp [intOf]
          | false =>
            cases hd0 : digB a with
            | true =>
              exact absurd hda (by rw [hd0]; simp)
            | false =>
              have hR := hbad.out 0 (by first | exact .inl ⟨rfl, hl0⟩ | exact .inr (.inl ⟨rfl, hl0, hd0⟩) | exact .inr (.inr ⟨rfl, hl0, hd0⟩))
              rw [e0, hl0] at L0
              clear hA hRv hgood hbad
              subst hR
              go_wp2_with fail
              refine (L0.out _).mono ?_
              rintro e w1 ⟨rfl, rfl⟩
              go_wp2_with fail
              refine (D0.out _).mono ?_
              rintro e w1 ⟨rfl, rfl⟩
              go_wp2_with fail
              go_ret
              exact ⟨rfl, rfl⟩
        · rw [show (((1 : Nat)) : Int) = 1 from rfl]
          cases hl1 : letB b with
          | true =>
            have hN := Lib.hid (show TagTo a b c 2 from ⟨fun _ => hA.out.1 (by omega), fun _ => by rw [hl1]; rfl, fun h => by omega⟩)
            rw [e1, hl1] at L1
            clear hA hRv hgood hbad D0 D1 D2
            go_wp2_with fail
            refine (L1.out _).mono ?_
            rintro e w1 ⟨rfl, rfl⟩
            go_wp2_with fail
            go_roundw
            case rel => exact ⟨2, by go_num, by omega, hN, by first | rfl | trivial⟩
            case measure => simp [intOf]
          | false =>
            cases hd1 : digB b with
            | true =>
              have hN := Lib.hid (show TagTo a b c 2 from ⟨fun _ => hA.out.1 (by omega), fun _ => by first | (rw [hl1]; rfl) | (rw [hl1, hd1]; rfl), fun h => by omega⟩)
              rw [e1, hl1] at L1
              rw [e1, hd1] at D1
              clear hA hRv hgood hbad
              go_wp2_with fail
              refine (L1.out _).mono ?_
              rintro e w1 ⟨rfl, rfl⟩
              go_wp2_with fail
              refine (D1.out _).mono ?_
              rintro e w1 ⟨rfl, rfl⟩
              go_wp2_with fail
              go_roundw
              case rel => exact ⟨2, by go_num, by omega, hN, by first | rfl | trivial⟩
              case measure => simp [intOf]
            | false =>
              have hR := hbad.out 1 (by first | exact .inl ⟨rfl, hl1⟩ | exact .inr (.inl ⟨rfl, hl1, hd1⟩) | exact .inr (.inr ⟨rfl, hl1, hd1⟩))
              rw [e1, hl1] at L1
              rw [e1, hd1] at D1
              clear hA hRv hgood hbad
              subst hR
              go_wp2_with fail
              refine (L1.out _).mono ?_
              rintro e w1 ⟨rfl, rfl⟩
              go_wp2_with fail
              refine (D1.out _).mono ?_
              rintro e w1 ⟨rfl, rfl⟩
              go_wp2_with fail
              go_ret
              exact ⟨rfl, rfl⟩
        · rw [show (((2 : Nat)) : Int) = 2 from rfl]
          cases hl2 : letB c with
          | true =>
            have hN := Lib.hid (show TagTo a b c 3 from ⟨fun _ => hA.out.1 (by omega), fun _ => hA.out.2.1 (by omega), fun _ => by rw [hl2]; rfl⟩)
            rw [e2, hl2] at L2
            clear hA hRv hgood hbad D0 D1 D2
            go_wp2_with fail
            refine (L2.out _).mono ?_
            rintro e w1 ⟨rfl, rfl⟩
            go_wp2_with fail
            go_roundw
            case rel => exact ⟨3, by go_num, by omega, hN, by first | rfl | trivial⟩
            case measure => simp [intOf]
          | false =>
            cases hd2 : digB c with
            | true =>
              have hN := Lib.hid (show TagTo a b c 3 from ⟨fun _ => hA.out.1 (by omega), fun _ => hA.out.2.1 (by omega), fun _ => by rw [hl2, hd2]; rfl⟩)
              rw [e2, hl2] at L2
              rw [e2, hd2] at D2
              clear hA hRv hgood hbad
              go_wp2_with fail
              refine (L2.out _).mono ?_
              rintro e w1 ⟨rfl, rfl⟩
              go_wp2_with fail
              refine (D2.out _).mono ?_
              rintro e w1 ⟨rfl, rfl⟩
              go_wp2_with fail
              go_roundw
              case rel => exact ⟨3, by go_num, by omega, hN, by first | rfl | trivial⟩
              case measure => simp [intOf]
            | false =>
              have hR := hbad.out 2 (by first | exact .inl ⟨rfl, hl2⟩ | exact .inr (.inl ⟨rfl, hl2, hd2⟩) | exact .inr (.inr ⟨rfl, hl2, hd2⟩))
              rw [e2, hl2] at L2
              rw [e2, hd2] at D2
              clear hA hRv hgood hbad
              subst hR
              go_wp2_with fail
              refine (L2.out _).mono ?_
              rintro e w1 ⟨rfl, rfl⟩
              go_wp2_with fail
              refine (D2.out _).mono ?_
              rintro e w1 ⟨rfl, rfl⟩
              go_wp2_with fail
              go_ret
              exact ⟨rfl, rfl⟩
  · have e0 : tagB t = false := by
      cases h : tagB t with
      | false => rfl
      | true =>
        obtain ⟨a, b, c, hh, _⟩ := tag_shape h
        rw [hh] at hl
        exact absurd rfl hl
    rw [e0]
    have d0 : ((t.length : Int) != 3) = true := by rw [bne_iff_ne]; omega
    go_enter Try.func21, Try.ntmps21
    go_wp2_with fail
    go_ret
    exact ⟨rfl, rfl⟩

set_option maxRecDepth 100000 in
set_option maxHeartbeats 1600000 in
theorem segLimits_any (v : Value) (E : List (List (List UInt8))) (w : World) (h : ElemsIn (Has_ w) w v E) : Calls Try.prog 22 #[v] w fun e w' => e = .returned (.bool (!longB E)) ∧ w = w' := by
  obtain ⟨R, hR⟩ : ∃ R, R = !longB E := ⟨_, rfl⟩
  rw [← hR]
  obtain ⟨ao, cap, rfl, hEl, hEa⟩ := h.form
  have hEb : E.length ≤ 9223372036854775807 := by unfold maxLen at hEl; omega
  by_cases hn : 100 < E.length
  · have hR2 : R = false := by
      rw [hR]
      unfold longB
      rw [decide_eq_true hn]
      rfl
    have d0 : decide ((100 : Int) < (E.length : Int)) = true := decide_eq_true (by omega)
    clear hR hEa h
    subst hR2
    go_enter Try.func22, Try.ntmps22
    go_wp2_with fail
    go_ret
    exact ⟨rfl, rfl⟩
  · have d0 : decide ((100 : Int) < (E.length : Int)) = false := decide_eq_false (by omega)
    have HE := Lib.hid hEa
    have hR2 : R = !(E.any longE) := by
      rw [hR]
      unfold longB
      rw [decide_eq_false hn]
      rfl
    have hbad := Lib.hid (show ∀ (i : Nat) (e : List (List UInt8)), E[i]? = some e → longE e = true → R = false from fun i e he hl => by
      rw [hR2, List.any_eq_true.2 ⟨e, List.mem_of_getElem? he, hl⟩]
      rfl)
    have hgood := Lib.hid (show (E.take E.length).any longE = false → R = true from fun hh => by
      rw [List.take_length] at hh
      rw [hR2, hh]
      rfl)
    clear hR hR2 hEa h
    go_enter Try.func22, Try.ntmps22
    go_wp2_with fail
    go_loopw [12] (fun vi wx => ∃ i : Nat, vi = .int .i64 i ∧ i ≤ E.length ∧ Hid ((E.take i).any longE = false) ∧ wx = w) (fun vi _ => E.length - (intOf vi).toNat)
    case atStart => exact ⟨0, by go_num, by omega, Lib.hid rfl, by first | rfl | trivial⟩
    case round =>
      obtain ⟨i, rfl, hi, hA, rfl⟩ := hrel
      by_cases hlt : i < E.length
      · obtain ⟨e, he⟩ : ∃ e, E[i]? = some e := ⟨_, List.getElem?_eq_getElem hlt⟩
        obtain ⟨a0, u, rfl, hc0, hS⟩ := HE.out i e he
        obtain ⟨bo, cap2, rfl, hel, hea⟩ := hS.form
        have HS := Lib.hid hea
        have heb : e.length ≤ 9223372036854775807 := by unfold maxLen at hel; omega
        have d1 : decide ((i : Int) < (E.length : Int)) = true := decide_eq_true (by omega)
        have hB2 := Lib.hid (hbad.out i e he)
        have hN := Lib.hid (show longE e = false → (E.take (i + 1)).any longE = false from fun hh => by rw [any_snoc he, hA.out, hh]; rfl)
        clear hea hS he HE hbad hgood hA
        by_cases hm : 100 < e.length
        · have hR3 := hB2.out (by unfold longE; rw [decide_eq_true hm]; rfl)
          have d2 : decide ((100 : Int) < (e.length : Int)) = true := decide_eq_true (by omega)
          clear hB2 hN HS
          subst hR3
          go_wp2_with fail
          go_ret
          exact ⟨rfl, rfl⟩
        · have d2 : decide ((100 : Int) < (e.length : Int)) = false := decide_eq_false (by omega)
          have hx1 := Lib.hid (show ∀ (k : Nat) (x : List UInt8), e[k]? = some x → 1000 < x.length → R = false from fun k x hx hl => hB2.out (by
            unfold longE
            rw [List.any_eq_true.2 ⟨x, List.mem_of_getElem? hx, decide_eq_true hl⟩]
            simp))
          have hx2 := Lib.hid (show (e.take e.length).any (fun x => decide (1000 < x.length)) = false → (E.take (i + 1)).any longE = false from fun hh => hN.out (by
            rw [List.take_length] at hh
            unfold longE
            rw [decide_eq_false hm, hh]
            rfl))
          clear hB2 hN
          go_wp2_with fail
          go_loopw [21] (fun vk wx => ∃ k : Nat, vk = .int .i64 k ∧ k ≤ e.length ∧ Hid ((e.take k).any (fun x => decide (1000 < x.length)) = false) ∧ wx = wr) (fun vk _ => e.length - (intOf vk).toNat)
          case atStart => exact ⟨0, by go_num, by omega, Lib.hid rfl, by first | rfl | trivial⟩
          case round =>
            obtain ⟨k, rfl, hk, hK, rfl⟩ := hrel
            by_cases hkl : k < e.length
            · obtain ⟨x, hx⟩ : ∃ x, e[k]? = some x := ⟨_, List.getElem?_eq_getElem hkl⟩
              obtain ⟨b0, rfl, hck, hxl⟩ := HS.out k x hx
              unfold strV at hck
              have d3 : decide ((k : Int) < (e.length : Int)) = true := decide_eq_true (by omega)
              by_cases hxx : 1000 < x.length
              · have hR3 := hx1.out k x hx hxx
                have d4 : decide ((1000 : Int) < (x.length : Int)) = true := decide_eq_true (by omega)
                clear hx1 hx2 HS hK hx
                subst hR3
                go_wp2_with fail
                go_ret
                exact ⟨rfl, rfl⟩
              · have hN := Lib.hid (show (e.take (k + 1)).any (fun x => decide (1000 < x.length)) = false by rw [any_snoc hx, hK.out, decide_eq_false hxx]; rfl)
                have d4 : decide ((1000 : Int) < (x.length : Int)) = false := decide_eq_false (by omega)
                clear hx1 hx2 HS hK hx
                go_wp2_with fail
                go_roundw
                case rel => exact ⟨k + 1, by go_num, by omega, hN, by first | rfl | trivial⟩
                case measure => simp [intOf]; omega
            · obtain rfl : k = e.length := by omega
              have hN := Lib.hid (hx2.out hK.out)
              have d3 : decide ((e.length : Int) < (e.length : Int)) = false := decide_eq_false (by omega)
              clear hx1 hx2 HS hK
              go_wp2_with fail
              go_roundw
              case rel => exact ⟨i + 1, by go_num, by omega, hN, by first | rfl | trivial⟩
              case measure => simp [intOf]; omega
      · obtain rfl : i = E.length := by omega
        have hR3 := hgood.out hA.out
        have d1 : decide ((E.length : Int) < (E.length : Int)) = false := decide_eq_false (by omega)
        clear hbad hgood hA HE
        subst hR3
        go_wp2_with fail
        go_ret
        exact ⟨rfl, rfl⟩

set_option maxRecDepth 100000 in
set_option maxHeartbeats 1600000 in
theorem segEmpty_any (v : Value) (E : List (List (List UInt8))) (w : World) (h : ElemsIn (Has_ w) w v E) : Calls Try.prog 23 #[v] w fun e w' => e = .returned (.bool (badB E)) ∧ w = w' := by
  obtain ⟨R, hR⟩ : ∃ R, R = badB E := ⟨_, rfl⟩
  rw [← hR]
  have hR3 := Lib.hid (show badB (E.drop 0) = R from hR.symm)
  have hbd := Lib.hid (fun (i : Nat) (e : List (List UInt8)) (he : E[i]? = some e) => bad_drop he)
  obtain ⟨ao, cap, rfl, hEl, hEa⟩ := h.form
  have hEb : E.length ≤ 9223372036854775807 := by unfold maxLen at hEl; omega
  have HE := Lib.hid hEa
  clear hR hEa h
  go_enter Try.func23, Try.ntmps23
  go_wp2_with fail
  go_loopw [8] (fun vi wx => ∃ i : Nat, vi = .int .i64 i ∧ i ≤ E.length ∧ Hid (badB (E.drop i) = R) ∧ wx = w) (fun vi _ => E.length - (intOf vi).toNat)
  case atStart => exact ⟨0, by go_num, by omega, hR3, by first | rfl | trivial⟩
  case round =>
    obtain ⟨i, rfl, hi, hA, rfl⟩ := hrel
    clear hR3
    by_cases hlt : i < E.length
    · obtain ⟨e, he⟩ : ∃ e, E[i]? = some e := ⟨_, List.getElem?_eq_getElem hlt⟩
      obtain ⟨a0, u, rfl, hc0, hS⟩ := HE.out i e he
      obtain ⟨bo, cap2, rfl, hel, hea⟩ := hS.form
      have hst := hbd.out i e he
      rw [hA.out] at hst
      have d1 : decide ((i : Int) < (E.length : Int)) = true := decide_eq_true (by omega)
      have heb : e.length ≤ 9223372036854775807 := by unfold maxLen at hel; omega
      by_cases hz : e.length = 0
      · have hst2 : R = (decide (i + 1 = E.length) || badB (E.drop (i + 1))) := by
          rw [hst, List.eq_nil_of_length_eq_zero hz]
          show ((true && decide (i + 1 = E.length) || false) || _) = _
          rw [Bool.true_and, Bool.or_false]
        rw [hz] at hc0
        clear hst hea hS he hel heb hz HE hbd hA
        by_cases hlast : i + 1 = E.length
        · have hR5 : R = true := by rw [hst2, decide_eq_true hlast]; rfl
          have d2 : ((i : Int) == (E.length : Int) - 1) = true := by rw [beq_iff_eq]; omega
          clear hst2
          subst hR5
          go_wp2_with fail
          go_ret
          exact ⟨rfl, rfl⟩
        · have hN := Lib.hid (show badB (E.drop (i + 1)) = R by rw [hst2, decide_eq_false hlast]; rfl)
          have d2 : ((i : Int) == (E.length : Int) - 1) = false := by rw [beq_eq_false_iff_ne]; omega
          clear hst2
          go_wp2_with fail
          go_roundw
          case rel => exact ⟨i + 1, by go_num, by omega, hN, by first | rfl | trivial⟩
          case measure => simp [intOf]; omega
      · obtain ⟨x, hx⟩ : ∃ x, e[e.length - 1]? = some x := ⟨_, List.getElem?_eq_getElem (by omega)⟩
        obtain ⟨b0, rfl, hck, hxl⟩ := hea _ x hx
        have hla := last_at hx
        have hemp : e.isEmpty = false := by cases e with | nil => simp at hz | cons => rfl
        rw [hla, hemp, Bool.false_and, Bool.false_or] at hst
        have e1 : ((e.length - 1 : Nat) : Int) = (e.length : Int) - 1 := by omega
        have d3 : ((e.length : Int) == 0) = false := by rw [beq_eq_false_iff_ne]; omega
        have d4 : decide ((0 : Int) < (e.length : Int)) = true := decide_eq_true (by omega)
        unfold strV at hck
        have ht1 : ((e.length : Int) - 1).toNat = e.length - 1 := by omega
        clear hea hS he HE hbd hla hemp hx hA
        cases hxe : x.isEmpty with
        | true =>
          have hR5 : R = true := by rw [hst, hxe]; rfl
          have hcmp : ((⟨x.toArray⟩ : ByteArray).toList == ([] : List UInt8)) = true := by rw [ByteArray.toList_eq]; simpa using hxe
          clear hst
          subst hR5
          go_wp2_with fail
          go_ret
          exact ⟨rfl, rfl⟩
        | false =>
          have hN := Lib.hid (show badB (E.drop (i + 1)) = R by rw [hst, hxe]; rfl)
          have hcmp : ((⟨x.toArray⟩ : ByteArray).toList == ([] : List UInt8)) = false := by rw [ByteArray.toList_eq]; simpa using hxe
          clear hst
          go_wp2_with fail
          go_roundw
          case rel => exact ⟨i + 1, by go_num, by omega, hN, by first | rfl | trivial⟩
          case measure => simp [intOf]; omega
    · obtain rfl : i = E.length := by omega
      have hR5 : R = false := by rw [← hA.out, List.drop_length]; rfl
      have d1 : decide ((E.length : Int) < (E.length : Int)) = false := decide_eq_false (by omega)
      clear hbd hA HE
      subst hR5
      go_wp2_with fail
      go_ret
      exact ⟨rfl, rfl⟩

set_option maxHeartbeats 800000 in
theorem segValidate_any (t : List UInt8) (ht : t.length ≤ maxLen) (v : Value) (E : List (List (List UInt8))) (w : World) (h : ElemsIn (Has_ w) w v E) :
    Calls Try.prog 9 #[.agg #[strV t, v]] w fun e w' => e = .returned (.int .i64 (segE ⟨t, E⟩)) ∧ Below w.heap.size w w' := by
  have HT := Lib.hid (fun w => segTag_any t w ht)
  have hB0 : Below w.heap.size w (w.alloc (.cells #[strV t, v] 24)) := (Below.refl _ _).alloc (Nat.le_refl _) _
  have hE := h.keep (has_keep hB0)
  have HL := Lib.hid (segLimits_any v E _ hE)
  have HM := Lib.hid (segEmpty_any v E _ hE)
  obtain ⟨ao, cap, rfl, _⟩ := h.form
  have q0 : (w.alloc (.cells #[strV t, .slice ao E.length cap] 24)).cell? ⟨w.heap.size, 0, none⟩ = some (strV t) := by simp [go_sem]
  have q1 : (w.alloc (.cells #[strV t, .slice ao E.length cap] 24)).cell? ⟨w.heap.size, 1, none⟩ = some (.slice ao E.length cap) := by simp [go_sem]
  have hF : segE ⟨t, E⟩ = if tagB t then (if longB E then 8 else if badB E then 1 else 0) else 1 := rfl
  rw [hF]
  clear hF h hE
  unfold strV at *
  generalize tagB t = A at *
  generalize longB E = B at *
  generalize badB E = C at *
  cases A <;> cases B <;> cases C
  all_goals
    go_enter Try.func9, Try.ntmps9
    go_wp2_with fail
    generalize w.alloc (.cells #[.string ⟨t.toArray⟩, .slice ao E.length cap] 24) = W at *
    refine (HT.out _).mono ?_
    rintro e w1 ⟨rfl, rfl⟩
    go_wp2_with fail
    first
      | (go_ret; exact ⟨rfl, hB0⟩)
      | (refine HL.out.mono ?_
         rintro e w1 ⟨rfl, rfl⟩
         go_wp2_with fail
         first
           | (go_ret; exact ⟨rfl, hB0⟩)
           | (refine HM.out.mono ?_
              rintro e w1 ⟨rfl, rfl⟩
              go_wp2_with fail
              go_ret
              exact ⟨rfl, hB0⟩))
end Go.Proofs.Ytenlfapdmknkjaa
