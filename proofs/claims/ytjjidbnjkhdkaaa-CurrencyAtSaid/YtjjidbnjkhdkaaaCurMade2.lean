/- The walk through Table of the made inputs. Condition: the list's cells are known. -/
import Derived.Test.YtjjidbnjkhdkaaaCurMade
namespace Go.Proofs.Ytjjidbnjkhdkaaa
open Go.RowKit

/-- The words of one rate, as they lie in a block. -/
theorem exch_news {w : World} {b : Nat} {s : ByteArray} {f r : Int} (h : w.cell? ⟨b, 0, none⟩ = some (.string s) ∧ w.cell? ⟨b, 1, none⟩ = some (.int .i64 f) ∧ w.cell? ⟨b, 2, none⟩ = some (.int .i64 r)) :
    ∀ ad, some (⟨b, 0, none⟩ : Addr) = some ad → ∀ j u, ([.string s, .int .i64 f, .int .i64 r] : List Value)[j]? = some u → w.cell? (ad.add j) = some u := by
  intro ad e j u hu
  obtain rfl := Option.some.inj e
  rw [Addr.add_lit, Nat.zero_add]
  obtain rfl | rfl | rfl | hj : j = 0 ∨ j = 1 ∨ j = 2 ∨ 3 ≤ j := by omega
  · simp at hu; subst hu; exact h.1
  · simp at hu; subst hu; exact h.2.1
  · simp at hu; subst hu; exact h.2.2
  · rw [List.getElem?_eq_none (by simpa using hj)] at hu
    cases hu
theorem exch_one (s : ByteArray) (f r : Int) : ∀ u ∈ ([.string s, .int .i64 f, .int .i64 r] : List Value), u.oneCell' = true := by
  intro u hu
  simp at hu
  rcases hu with rfl | rfl | rfl <;> rfl
/-- What the drawn statement keeps: the currency's word, the making as it stands. -/
structure RowAt (W0 : World) (SB CB i : Nat) (u : Value) (L : List Exch) (w : World) : Prop where
  cell : w.cell? ⟨CB, i, none⟩ = some (.string (cur3 i))
  made : MadeAt W0 w SB CB u L
theorem RowAt.of {W0 w : World} {SB CB i : Nat} {u : Value} {L : List Exch} (h : MadeAt W0 w SB CB u L) (hi : i < 3) : RowAt W0 SB CB i u L w := ⟨h.cur i hi, h⟩
theorem MadeAt.alloc {W0 w : World} {SB CB : Nat} {u : Value} {L : List Exch} (h : MadeAt W0 w SB CB u L) (o : Obj) : MadeAt W0 (w.alloc o) SB CB u L := by
  have hb : Below w.heap.size w (w.alloc o) := (Below.refl _ _).alloc (Nat.le_refl _) _
  exact ⟨h.src.keep hb, fun j hj => (hb.cell (p := ⟨CB, j, none⟩) h.lt).trans (h.cur j hj), h.row.alloc o, h.le, Nat.lt_of_lt_of_le h.lt hb.size⟩

set_option maxRecDepth 100000 in
set_option maxHeartbeats 3200000 in
theorem madeTable_any (v : Value) (n : Nat) (f : Nat → Int) (w : World) (h : ListAt w .i64 v n f) :
    Calls Try.prog 10 #[v] w fun e w' => ∃ (u : Value) (L : List Exch) (SB CB : Nat), e = .returned u ∧ L.length ≤ 9 ∧ GoodX L ∧ LastX L 3 0 ∧ MadeAt w w' SB CB u L := by
  have HCut := Lib.hid (cut_any 40 v n f w h)
  have HCur := Lib.hid (fun w => currencies_any w)
  have HN := Lib.hid (fun (k : Int) (h1 : 0 < k) (h2 : k ≤ 1000000000000) (SB : Nat) (w1 : World) (h : SourceAt w w1 SB) => next_any k h1 h2 SB w w1 h)
  clear h
  obtain ⟨i0, hi0, hz0, hz1, hz2⟩ := info_parts info_exch
  go_enter Try.func10, Try.ntmps10
  go_wp2_with fail
  refine HCut.out.mono ?_
  rintro e w1 ⟨u, rfl, hu, rfl⟩
  have H0 := Lib.hid (made_start u (min n 40) f (by omega) w hu)
  have hform : ∃ b cap, u = .slice b (min n 40) cap := by
    rcases hu with ⟨h, h0⟩ | ⟨a, cap, h, _⟩
    · exact ⟨none, 0, by rw [h, h0]⟩
    · exact ⟨some a, cap, h⟩
  obtain ⟨b, cap, rfl⟩ := hform
  clear hu HCut
  go_wp2_with fail
  refine (HCur.out _).mono ?_
  rintro e w2 ⟨rfl, rfl⟩
  clear HCur
  go_wp2_with fail
  generalize (w.alloc (.cells #[.slice b (min n 40) cap, .int .i64 0] 49)).alloc (.cells #[.string ⟨#[67, 72, 70]⟩, .string ⟨#[71, 66, 80]⟩, .string ⟨#[85, 83, 68]⟩] 9) = W1 at *
  obtain ⟨SB, hSB⟩ : ∃ SB, SB = w.heap.size := ⟨_, rfl⟩
  rw [← hSB] at H0 ⊢
  obtain ⟨CB, hCB⟩ : ∃ CB, CB = SB + 1 := ⟨_, rfl⟩
  rw [← hCB] at H0 ⊢
  clear hSB hCB
  go_loopw [4, 6] (fun vu vi wx => ∃ (i : Nat) (u : Value) (L : List Exch), vi = .int .i64 i ∧ u = vu ∧ i ≤ 3 ∧ L.length ≤ 3 * i ∧ Hid (GoodX L) ∧ Hid (∀ d, LastX L i d) ∧ Hid (MadeAt w wx SB CB u L)) (fun _ vi _ => 3 - (intOf vi).toNat)
  case atStart => exact ⟨0, _, [], by go_num, rfl, by omega, Nat.le_refl _, Lib.hid GoodX.nil, Lib.hid (fun d => .inl rfl), H0⟩
  case round =>
    clear H0
    obtain ⟨i, u, L, rfl, rfl, hi, hL, hG, hLa, hM⟩ := hrel
    by_cases hlt : i < 3
    · have b1 : (i : Int) < 3 := by omega
      have HN1 := Lib.hid (HN.out 20 (by omega) (by omega) SB _ hM.out.src)
      go_wp2_with fail
      refine HN1.out.mono ?_
      rintro e w3 ⟨d0, rfl, e1, e2, hs3, hn3⟩
      have HM3 := Lib.hid (hM.out.next hs3 hn3)
      have HN2 := Lib.hid (HN.out 4 (by omega) (by omega) SB _ hs3)
      clear hs3 hn3 HN1 hM
      go_wp2_with fail
      refine HN2.out.mono ?_
      rintro e w4 ⟨k0, rfl, e3, e4, hs4, hn4⟩
      have HM4 := Lib.hid (HM3.out.next hs4 hn4)
      clear hs4 hn4 HN2 HM3
      go_wp2_with fail
      go_loopw [4, 7, 8] (fun vu vd vk wx => ∃ (k : Nat) (d : Int) (u : Value) (L : List Exch), vk = .int .i64 k ∧ vd = .int .i64 d ∧ u = vu ∧ k ≤ 3 ∧ 0 ≤ d ∧ d + 21 * k ≤ 100 ∧ L.length + k ≤ 3 * i + 3 ∧ Hid (GoodX L) ∧ Hid (LastX L i d) ∧ Hid (MadeAt w wx SB CB u L)) (fun _ _ vk _ => (intOf vk).toNat)
      case atStart => exact ⟨k0.toNat, d0, _, L, by go_num, rfl, rfl, by omega, e1, by omega, by omega, hG, Lib.hid (hLa.out d0), HM4⟩
      case round =>
        clear HM4 hG hLa
        obtain ⟨k, d, u, L, rfl, rfl, rfl, hk, hd0, hd1, hLk, hG, hLa, hM⟩ := hrel
        by_cases hk0 : 0 < k
        · obtain ⟨k, rfl⟩ : ∃ j, k = j + 1 := ⟨k - 1, by omega⟩
          have g1 : decide ((0 : Int) < (k : Int) + 1) = true := decide_eq_true (by omega)
          have g2 : decide (0 < k + 1) = true := decide_eq_true (by omega)
          have hcell : wr.cell? ⟨CB, i, none⟩ = some (.string (cur3 i)) := hM.out.cur i hlt
          go_wp2_with fail
          go_region_held3 (fun w' => w'.cell? ⟨CB, i, none⟩ = some (.string (cur3 i)))
            (first | go_keep | exact hM3.cur i hlt | exact (MadeAt.alloc hM3 _).cur i hlt | exact hM4.cur i hlt)
            (first
              | (go_at_call 24; refine (HN.out 1000000000 (by omega) (by omega) SB _ (hM.out.drewN 1).src).mono ?_; rintro e w5 ⟨r, rfl, e5, e6, hs5, hn5⟩; have hM3 : MadeAt w w5 SB CB u L := (hM.out.drewN 1).next hs5 hn5; have wr1 : IntKind.i64.wrap (1 + r) = 1 + r := by rw [IntKind.wrap_i64]; omega)
              | (refine step_append_own rfl (.tmp 28) (.tmp 38) 22 rfl (CB + 1) 25 i0 _ 3 32 Try.underlying22 hi0 hz0 hz1 hz2 rfl (by omega) u L.length (cellsX L) rfl (MadeAt.alloc hM3 _).row (MadeAt.alloc hM3 _).lt (some ⟨w5.heap.size, 0, none⟩) 1 1 [.string (cur3 i), .int .i64 d, .int .i64 (1 + r)] rfl rfl (fun h => by cases h) (exch_news ⟨by simp, by simp, by simp⟩) (exch_one _ _ _) (by unfold maxLen; omega) (by omega) ?_; intro u1 w6 own1 grow1; have hM4 : MadeAt w w6 SB CB u1 (L ++ [⟨cur3 i, d, 1 + r⟩]) := (MadeAt.alloc hM3 _).grown grow1 (by rw [cellsX_snoc, List.length_append]; exact own1)))
          have hlen : (L ++ [(⟨cur3 i, d, 1 + r⟩ : Exch)]).length = L.length + 1 := by simp
          have HG4 := Lib.hid (hG.out.snoc (e := ⟨cur3 i, d, 1 + r⟩) (cur3_good i hlt).1 ((dayB_iff d).2 ⟨hd0, by omega⟩) ⟨by show 1 ≤ 1 + r; omega, by show 1 + r ≤ 1000000000; omega⟩ (hLa.out.follows hlt))
          have HL4 := Lib.hid (fun d2 (h : d < d2) => LastX.snoc L i d (1 + r) d2 h (by omega))
          have HM4 := Lib.hid hM4
          have HN4 := Lib.hid (HN.out 20 (by omega) (by omega) SB _ hM4.src)
          clear hG hLa hM hM3 hM4 hs5 hn5 own1 grow1 hcell
          generalize L ++ [(⟨cur3 i, d, 1 + r⟩ : Exch)] = L2 at *
          go_wp2_with fail
          refine HN4.out.mono ?_
          rintro e w7 ⟨r2, rfl, e7, e8, hs7, hn7⟩
          have HM5 := Lib.hid (HM4.out.next hs7 hn7)
          clear hs7 hn7 HN4 HM4
          go_wp2_with fail
          go_roundw
          case rel => exact ⟨k, d + 1 + r2, _, L2, by go_num, by first | rfl | go_num, rfl, by omega, by omega, by omega, by omega, HG4, Lib.hid (HL4.out _ (by omega)), HM5⟩
          case measure => simp [intOf]
        · obtain rfl : k = 0 := by omega
          have g1 : decide ((0 : Int) < 0) = false := decide_eq_false (by omega)
          go_wp2_with fail
          go_roundw
          case rel => exact ⟨i + 1, _, L, by go_num, rfl, by omega, by omega, hG, Lib.hid (fun d2 => hLa.out.next d2), hM⟩
          case measure => simp [intOf]; omega
    · obtain rfl : i = 3 := by omega
      go_wp2_with fail
      go_ret
      exact ⟨_, L, SB, CB, rfl, by omega, hG.out, hLa.out 0, hM.out⟩
end Go.Proofs.Ytjjidbnjkhdkaaa
