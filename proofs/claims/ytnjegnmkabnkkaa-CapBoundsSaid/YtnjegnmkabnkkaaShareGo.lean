/- What the function Share of the package apportion returns. Condition: the list's cells are known. -/
import Derived.Test.YtnjegnmkabnkkaaShareDiv
import Derived.Test.YtnjegnmkabnkkaaSortBy
import Derived.Test.YtnjegnmkabnkkaaShareCap
namespace Go.Proofs.Ytnjegnmkabnkkaa
open Go.RowKit

theorem DivIs.form {w : World} {D v : Value} {n : Nat} {g : Nat → Int} (h : DivIs w D v n g) : ∃ (W : Int) (F : Fn) (a b : Array Value), D = .agg #[.int .i64 W, .func F a b] := by
  rcases h with ⟨_, h⟩ | ⟨_, C, h, _⟩
  · exact ⟨_, _, _, _, h⟩
  · exact ⟨_, _, _, _, h⟩

theorem Words.congr {w : World} {b n : Nat} {f g : Nat → Nat} (h : Words w b n f) (e : ∀ i, i < n → f i = g i) : Words w b n g :=
  ⟨fun j hj => by rw [← e j hj]; exact h.1 j hj, h.2⟩

/-- The shares and the remainders while Share makes them, and the division that it holds. -/
structure ShareAt (w1 wx : World) (DB BP BR n : Nat) (x y : Value) (f : Nat → Int) (r : Nat → Nat) : Prop where
  parts : Ints wx BP n f
  rests : Words wx BR n r
  d0 : wx.cell? ⟨DB, 0, none⟩ = some x
  d1 : wx.cell? ⟨DB, 1, none⟩ = some y
  ne1 : BP ≠ BR
  ne2 : BP ≠ DB
  ne3 : BR ≠ DB
  newP : w1.heap.size ≤ BP
  newR : w1.heap.size ≤ BR
  below : Below w1.heap.size w1 wx
theorem ShareAt.keep {w1 wx wy : World} {DB BP BR n : Nat} {x y : Value} {f : Nat → Int} {r : Nat → Nat} (h : ShareAt w1 wx DB BP BR n x y f r) (hb : Below wx.heap.size wx wy) : ShareAt w1 wy DB BP BR n x y f r :=
  ⟨h.parts.keep hb, h.rests.keep hb, (hb.cell (World.block_lt_of_cell? wx _ h.d0)).trans h.d0, (hb.cell (World.block_lt_of_cell? wx _ h.d1)).trans h.d1, h.ne1, h.ne2, h.ne3, h.newP, h.newR, h.below.trans (hb.mono h.below.size)⟩
theorem ShareAt.set {w1 wx : World} {DB BP BR n : Nat} {x y : Value} {f : Nat → Int} {r : Nat → Nat} (h : ShareAt w1 wx DB BP BR n x y f r) (i : Nat) (p : Int) (q : Nat) (f' : Nat → Int) (r' : Nat → Nat) (hf : ∀ j, j < n → f' j = if j = i then p else f j) (hr : ∀ j, j < n → r' j = if j = i then q else r j) :
    ShareAt w1 ((wx.setCell ⟨BP, i, none⟩ (.int .i64 p)).setCell ⟨BR, i, none⟩ (.int .u64 q)) DB BP BR n x y f' r' := by
  have o : ∀ (W : World) (B o k : Nat) (v u : Value), B ≠ DB → W.cell? ⟨DB, k, none⟩ = some u → (W.setCell ⟨B, o, none⟩ v).cell? ⟨DB, k, none⟩ = some u := fun W B o k v u hne hc =>
    (World.cell?_setCell_other W _ _ _ (fun e => hne (by injection e))).trans hc
  exact ⟨(h.parts.set i p f' hf).other (fun e => h.ne1 e.symm), (h.rests.other h.ne1).set i q r' hr, o _ _ _ _ _ _ h.ne3 (o _ _ _ _ _ _ h.ne2 h.d0), o _ _ _ _ _ _ h.ne3 (o _ _ _ _ _ _ h.ne2 h.d1), h.ne1, h.ne2, h.ne3, h.newP, h.newR,
    (h.below.setCell h.newP _).setCell h.newR _⟩
theorem share_start (n : Nat) (hn : n ≤ 1000) (x y : Value) (w1 : World) :
    ShareAt w1 (((w1.alloc (.cells #[x, y] 37)).alloc (.cells (madeCells #[.int .i64 0] n) 3)).alloc (.cells (madeCells #[.int .u64 0] n) 40)) w1.heap.size (w1.heap.size + 1) (w1.heap.size + 1 + 1) n x y (fun _ => 0) (fun _ => 0) := by
  have s1 : (w1.alloc (.cells #[x, y] 37)).heap.size = w1.heap.size + 1 := by simp
  have c0 : (w1.alloc (.cells #[x, y] 37)).cell? ⟨w1.heap.size, 0, none⟩ = some x := by simp
  have c1 : (w1.alloc (.cells #[x, y] 37)).cell? ⟨w1.heap.size, 1, none⟩ = some y := by simp
  have b1 : Below w1.heap.size w1 (w1.alloc (.cells #[x, y] 37)) := (Below.refl _ _).alloc (Nat.le_refl _) _
  generalize w1.alloc (.cells #[x, y] 37) = w2 at *
  have i1 := (ints_made n (by omega) w2).2
  have s2 : (w2.alloc (.cells (madeCells #[.int .i64 0] n) 3)).heap.size = w2.heap.size + 1 := by simp
  have b2 : Below w2.heap.size w2 (w2.alloc (.cells (madeCells #[.int .i64 0] n) 3)) := (Below.refl _ _).alloc (Nat.le_refl _) _
  generalize w2.alloc (.cells (madeCells #[.int .i64 0] n) 3) = w3 at *
  have i2 := (words_made n (by omega) w3).2
  have b3 : Below w3.heap.size w3 (w3.alloc (.cells (madeCells #[.int .u64 0] n) 40)) := (Below.refl _ _).alloc (Nat.le_refl _) _
  generalize w3.alloc (.cells (madeCells #[.int .u64 0] n) 40) = w4 at *
  rw [s1] at i1 s2
  rw [s2] at i2
  have k0 : w4.cell? ⟨w1.heap.size, 0, none⟩ = some x := (b3.cell (by show w1.heap.size < w3.heap.size; omega)).trans ((b2.cell (by show w1.heap.size < w2.heap.size; omega)).trans c0)
  have k1 : w4.cell? ⟨w1.heap.size, 1, none⟩ = some y := (b3.cell (by show w1.heap.size < w3.heap.size; omega)).trans ((b2.cell (by show w1.heap.size < w2.heap.size; omega)).trans c1)
  exact ⟨i1.keep b3, i2, k0, k1, by omega, by omega, by omega, by omega, by omega, (b1.trans (b2.mono b1.size)).trans (b3.mono (by omega))⟩

/-- The remainders of the first k weights. -/
def restTo (r : Nat → Nat) (k i : Nat) : Nat := if i < k then r i else 0
theorem upTo_next (f : Nat → Nat) (k j : Nat) : upTo f (k + 1) j = if j = k then (f k : Int) else upTo f k j := by
  unfold upTo
  by_cases h1 : j = k
  · subst h1; simp
  · by_cases h2 : j < k
    · rw [if_pos (by omega), if_neg h1, if_pos h2]
    · rw [if_neg (by omega), if_neg h1, if_neg h2]
theorem restTo_next (f : Nat → Nat) (k j : Nat) : restTo f (k + 1) j = if j = k then f k else restTo f k j := by
  unfold restTo
  by_cases h1 : j = k
  · subst h1; simp
  · by_cases h2 : j < k
    · rw [if_pos (by omega), if_neg h1, if_pos h2]
    · rw [if_neg (by omega), if_neg h1, if_neg h2]

set_option maxRecDepth 100000 in
set_option maxHeartbeats 1600000 in
theorem share_ok (t : Nat) (v : Value) (n : Nat) (g : Nat → Int) (w : World) (h : ListAt w .i64 v n g) (hn : n ≤ 1000) (ht : t ≤ 1000000000000) (hg : amts0 g n = true) (h1 : 1 ≤ n ∨ t = 0) (hv : vaE (t : Int) n g = 0) :
    Calls Try.prog 12 #[.int .i64 (t : Int), v] w fun e w' => ∃ B : Nat, e = .returned (.tuple #[.slice (some ⟨B, 0, none⟩) n n, .int .i64 0]) ∧ Ints w' B n (fun i => (shV t (wN g) n i : Int)) ∧ w.heap.size ≤ B ∧ Below w.heap.size w w' := by
  have hm1 := fun W => (ints_made n (by omega) W).1
  have hm2 := fun W => (words_made n (by omega) W).1
  have HV := validate_any (t : Int) v n g w h
  rw [hv] at HV
  have HV2 := Lib.hid HV
  have HD := Lib.hid (divisionBy_any v n g hn hg w h)
  have HL := Lib.hid h
  have hlen : ∃ a cap, v = .slice a n cap := by
    rcases h with ⟨h, h0⟩ | ⟨a, cap, h, _⟩
    · exact ⟨none, 0, by rw [h, h0]⟩
    · exact ⟨some a, cap, h⟩
  obtain ⟨a, cap, rfl⟩ := hlen
  clear h HV hv
  have hz : (((n : Int) == 0) = false ∧ decide (0 < 1) = true) ∨ (((n : Int) == 0) = true ∧ decide (0 < t) = false) := by
    by_cases hz : n = 0
    · exact .inr ⟨by rw [beq_iff_eq]; omega, decide_eq_false (by omega)⟩
    · exact .inl ⟨by rw [beq_eq_false_iff_ne]; omega, rfl⟩
  rcases hz with ⟨e1, e2⟩ | ⟨e1, e2⟩
  all_goals
    go_enter Try.func12, Try.ntmps12
    go_wp2_with fail
    refine HV2.out.mono ?_
    rintro x w0 ⟨rfl, rfl⟩
    go_wp2_with fail
    refine HD.out.mono ?_
    rintro x w1 ⟨D, rfl, hD, hB⟩
    obtain ⟨W, F, u1, u2, rfl⟩ := hD.form
    have HDiv := Lib.hid hD
    have HB := Lib.hid hB
    have HS := Lib.hid (share_start n hn (.int .i64 W) (.func F u1 u2) w1)
    clear hD hB HV2 HD
    go_wp2_with fail
    clear hm1 hm2 e1 e2
    generalize ((w1.alloc (.cells #[.int .i64 W, .func F u1 u2] 37)).alloc (.cells (madeCells #[.int .i64 0] n) 3)).alloc (.cells (madeCells #[.int .u64 0] n) 40) = W3 at *
    obtain ⟨DB, hDB⟩ : ∃ DB, DB = w1.heap.size := ⟨_, rfl⟩
    rw [← hDB] at HS ⊢
    obtain ⟨BP, hBP⟩ : ∃ BP, BP = DB + 1 := ⟨_, rfl⟩
    rw [← hBP] at HS ⊢
    obtain ⟨BR, hBR⟩ : ∃ BR, BR = BP + 1 := ⟨_, rfl⟩
    rw [← hBR] at HS ⊢
    clear hDB hBP hBR
    go_loopw [10, 38] (fun vl vk wx => ∃ k : Nat, vk = .int .i64 k ∧ k ≤ n ∧ vl = .int .i64 ((t : Int) - (sumN (shQ t (wN g) n) k : Nat)) ∧ Hid (ShareAt w1 wx DB BP BR n (.int .i64 W) (.func F u1 u2) (upTo (shQ t (wN g) n) k) (restTo (shR t (wN g) n) k))) (fun _ vk _ => n - (intOf vk).toNat)
    case atStart => exact ⟨0, by go_num, by omega, by simp [sumN], HS⟩
    case round =>
      clear HS
      obtain ⟨k, rfl, hk, rfl, hS⟩ := hrel
      by_cases hlt : k < n
      · have hsle := sh_sum_le t (wN g) n (by omega)
        have hspre := sum_prefix (shQ t (wN g) n) (k + 1) n (by omega)
        have hsnext : sumN (shQ t (wN g) n) (k + 1) = sumN (shQ t (wN g) n) k + shQ t (wN g) n k := rfl
        have HP := Lib.hid (part_any t _ _ n k g hn hlt ht hg wr (HDiv.out.keep hS.out.below) (HL.out.keep (HB.out.trans (hS.out.below.mono HB.out.size))))
        have d0 := hS.out.d0
        have d1 := hS.out.d1
        have NS := Lib.hid (fun w2 (hb : Below wr.heap.size wr w2) => (hS.out.keep hb).set k (shQ t (wN g) n k) (shR t (wN g) n k) (upTo (shQ t (wN g) n) (k + 1)) (restTo (shR t (wN g) n) (k + 1)) (fun j _ => upTo_next _ _ _) (fun j _ => restTo_next _ _ _))
        have KS := Lib.hid (fun w2 (hb : Below wr.heap.size wr w2) => hS.out.keep hb)
        clear hS
        go_wp2_with fail
        refine HP.out.mono ?_
        rintro x w2 ⟨rfl, hb⟩
        clear HP d0 d1
        have hk2 := KS.out w2 hb
        have HN := Lib.hid (NS.out w2 hb)
        obtain ⟨p1, p2⟩ := hk2.parts.1 k hlt
        obtain ⟨p3, p4⟩ := hk2.rests.1 k hlt
        have p5 := (hk2.rests.other (o := k) (v := .int .i64 (shQ t (wN g) n k)) hk2.ne1).1 k hlt
        obtain ⟨p5, p6⟩ := p5
        clear NS KS hk2 hb
        have p7 := (HN.out.parts.1 k hlt).1
        rw [show upTo (shQ t (wN g) n) (k + 1) k = (shQ t (wN g) n k : Int) from if_pos (Nat.lt_succ_self k)] at p7
        have hq : shQ t (wN g) n k ≤ t := by omega
        rw [hsnext] at hspre
        have hse := Lib.hid hsnext
        clear hsnext
        generalize shQ t (wN g) n k = q at *
        generalize shR t (wN g) n k = r at *
        generalize sumN (shQ t (wN g) n) k = s at *
        go_wp2_with fail
        go_roundw
        case rel => exact ⟨k + 1, by go_num, by omega, int_eq (by rw [hse.out]; omega), HN⟩
        case measure => simp [intOf]; omega
      · obtain rfl : k = n := by omega
        have hsle : sumN (shQ t (wN g) k) k ≤ t := by
          by_cases h0 : k = 0
          · subst h0; exact Nat.zero_le _
          · exact sh_sum_le t (wN g) k (by omega)
        have hleft : shLeft t (wN g) k ≤ k := by
          by_cases h0 : k = 0
          · subst h0
            have : t = 0 := by omega
            unfold shLeft; omega
          · exact left_n t (wN g) k (by omega)
        have hl : (t : Int) - (sumN (shQ t (wN g) k) k : Nat) = (shLeft t (wN g) k : Nat) := by unfold shLeft; omega
        rw [hl]
        have hR := hS.out.rests.congr (g := shR t (wN g) k) (fun i hi => if_pos hi)
        have HR := Lib.hid (rests_any BR k k (shR t (wN g) k) hn wr hR)
        have HPt := Lib.hid (hS.out.parts.congr (g := fun i => (shQ t (wN g) k i : Int)) (fun i hi => if_pos hi))
        have hqt := Lib.hid (fun i (hi : i < k) => Nat.le_trans (sum_at_le (shQ t (wN g) k) k i hi) hsle)
        have HX := Lib.hid (⟨hS.out.newP, hS.out.below⟩ : w1.heap.size ≤ BP ∧ Below w1.heap.size w1 wr)
        have hsh : Hid (∀ i, shV t (wN g) k i = shQ t (wN g) k i + (if rankN (shR t (wN g) k) k i < shLeft t (wN g) k then 1 else 0)) := Lib.hid (fun i => rfl)
        clear hl hsle hR hS
        generalize shLeft t (wN g) k = L at *
        go_wp2_with fail
        refine HR.out.mono ?_
        rintro x w2 ⟨u, rfl, BO, d, rfl, o1, o2, o3, o4, o5⟩
        have hvd := Lib.hid (fun i hi => moved_vals o2 i hi)
        have hrk := Lib.hid (among_rank (fun i hi => moved_vals o2 i hi) (fun i j _ _ e => moved_inj o2 i j e) o3)
        have hfr : Hid (∀ p, p < k → among d p (d p) = false) := Lib.hid (fun p _ => by
          cases hh : among d p (d p) with
          | false => rfl
          | true =>
            obtain ⟨q, q1, q2⟩ := (among_iff d (d p) p).1 hh
            have := moved_inj o2 _ _ q2
            omega)
        have HP2 := Lib.hid (HPt.out.keep o5)
        have hne : BP ≠ BO := by have := HPt.out.2; omega
        have HB2 := Lib.hid (HX.out.2.trans (o5.mono HX.out.2.size))
        have HO := Lib.hid o4
        have HXP := HX.out.1
        clear o1 o2 o3 o4 o5 HR HPt HX
        go_wp2_with fail
        go_loopw [66] (fun vp wx => ∃ p : Nat, vp = .int .i64 p ∧ p ≤ L ∧ Hid (Ints wx BP k (fun i => (shQ t (wN g) k i : Int) + (if among d p i then 1 else 0))) ∧ Hid (Ints wx BO k (fun i => (d i : Int))) ∧ Hid (Below w1.heap.size w1 wx)) (fun vp _ => L - (intOf vp).toNat)
        case atStart => exact ⟨0, by go_num, by omega, Lib.hid (HP2.out.congr (fun i _ => by show (shQ t (wN g) k i : Int) = (shQ t (wN g) k i : Int) + 0; omega)), HO, HB2⟩
        case round =>
          clear HP2 HO HB2
          obtain ⟨p, rfl, hp, hA, hD, hBl⟩ := hrel
          by_cases hlt : p < L
          · have hpk : p < k := by omega
            have hdk := hvd.out p hpk
            have r1 : wr.cell? ⟨BO, p, none⟩ = some (.int .i64 (d p : Int)) := (hD.out.1 p hpk).1
            obtain ⟨r3a, r4⟩ := hA.out.1 (d p) hdk
            have r3 : wr.cell? ⟨BP, d p, none⟩ = some (.int .i64 (shQ t (wN g) k (d p) : Int)) := by
              rw [r3a]
              show some (Value.int .i64 ((shQ t (wN g) k (d p) : Int) + (if among d p (d p) then 1 else 0))) = _
              rw [hfr.out p hpk]
              simp
            have hq := hqt.out (d p) hdk
            have N1 := Lib.hid (hA.out.set (d p) ((shQ t (wN g) k (d p) : Int) + 1) (fun i => (shQ t (wN g) k i : Int) + (if among d (p + 1) i then 1 else 0)) (fun j _ => by
              show (shQ t (wN g) k j : Int) + (if (among d p j || j == d p) then 1 else 0) = _
              by_cases e : j = d p
              · subst e; simp
              · have : (j == d p) = false := by rw [beq_eq_false_iff_ne]; exact e
                rw [this, Bool.or_false, if_neg e]))
            have N2 := Lib.hid (hD.out.other (d := BP) (o := d p) (v := .int .i64 ((shQ t (wN g) k (d p) : Int) + 1)) hne)
            have N3 := Lib.hid (hBl.out.setCell (p := ⟨BP, d p, none⟩) HXP (.int .i64 ((shQ t (wN g) k (d p) : Int) + 1)))
            clear hA hD hBl hvd hfr hqt hrk hsh r3a
            generalize shQ t (wN g) k (d p) = q at *
            generalize d p = x at *
            go_wp2_with fail
            go_roundw
            case rel => exact ⟨p + 1, by go_num, by omega, N1, N2, N3⟩
            case measure => simp [intOf]; omega
          · obtain rfl : p = L := by omega
            have HF := Lib.hid (hA.out.congr (g := fun i => (shV t (wN g) k i : Int)) (fun i hi => by
              show (shQ t (wN g) k i : Int) + (if among d p i then 1 else 0) = (shV t (wN g) k i : Nat)
              rw [hsh.out i, hrk.out p hleft i hi]
              by_cases hc : rankN (shR t (wN g) k) k i < p <;> simp [hc]))
            clear hA hD hvd hfr hqt hrk hsh
            go_wp2_with fail
            go_ret2
            exact ⟨BP, rfl, HF.out, Nat.le_trans HB.out.size HXP, HB.out.trans (hBl.out.mono HB.out.size)⟩
end Go.Proofs.Ytnjegnmkabnkkaa
