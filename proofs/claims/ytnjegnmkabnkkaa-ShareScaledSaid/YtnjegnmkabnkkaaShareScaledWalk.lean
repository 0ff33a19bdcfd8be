/- The law ShareScaled, walked: it returns true at every input. No condition. -/
import Derived.Test.YtnjegnmkabnkkaaShareSumWalk
namespace Go.Proofs.Ytnjegnmkabnkkaa
open Go.RowKit

/-- All weights times a factor: the same shares. -/
theorem scaled_facts {T : Int} {n K : Nat} {g : Nat → Int} (hg : ∀ i, 0 ≤ g i ∧ g i < 1000000) (hK : 1 ≤ K) (hK2 : K ≤ 1000) :
    (∀ i, 0 ≤ (K : Int) * g i ∧ (K : Int) * g i ≤ 1000000000) ∧ shE T n (fun i => (K : Int) * g i) = shE T n g ∧ shN T n (fun i => (K : Int) * g i) = shN T n g ∧ ∀ i, shI T n g i = shI T n (fun i => (K : Int) * g i) i := by
  have hb : ∀ i, 0 ≤ (K : Int) * g i ∧ (K : Int) * g i ≤ 1000000000 := fun i => by
    have h := hg i
    refine ⟨Int.mul_nonneg (by omega) h.1, ?_⟩
    have : (K : Int) * g i ≤ 1000 * 1000000 := Int.mul_le_mul (by omega) (by omega) h.1 (by omega)
    omega
  have e1 : amts0 (fun i => (K : Int) * g i) n = true := amts0_of (fun i _ => by have := hb i; omega)
  have e2 : amts0 g n = true := amts0_of (fun i _ => by have := hg i; omega)
  have e3 : shE T n (fun i => (K : Int) * g i) = shE T n g := by unfold shE; rw [e1, e2]
  refine ⟨hb, e3, by unfold shN; rw [e3], fun i => ?_⟩
  have e4 : wN (fun i => (K : Int) * g i) = fun j => K * wN g j := by
    funext j
    unfold wN
    have h := hg j
    obtain ⟨y, hy⟩ := Int.eq_ofNat_of_zero_le h.1
    show ((K : Int) * g j).toNat = K * (g j).toNat
    rw [hy, ← Int.natCast_mul, Int.toNat_natCast, Int.toNat_natCast]
  unfold shI
  rw [e4, sh_scaled _ _ _ _ _ hK]

set_option maxRecDepth 100000 in
set_option maxHeartbeats 1600000 in
theorem shareScaled_walk (x : Int) (v : Value) (n : Nat) (f : Nat → Int) (w : World) (h : ListAt w .i64 v n f) (factor : Int) :
    Calls Try.prog 6 #[.int .i64 x, v, .int .i64 factor] w fun e w' => e = .returned (.bool true) ∧ Below w.heap.size w w' := by
  have HT := Lib.hid (total_any x false)
  have hW := weights_any false v n f w h
  have hc60 := cut60_le n
  have htt : totOf false x = absOf x := rfl
  rw [htt] at HT
  obtain ⟨K, hK, hK1, hK2⟩ : ∃ K : Nat, 1 + max (factor.tmod 1000) (-(factor.tmod 1000)) = (K : Int) ∧ 1 ≤ K ∧ K ≤ 1000 := by
    have h1 := Int.tmod_lt_of_pos factor (show (0 : Int) < 1000 by omega)
    have h2 := Int.lt_tmod_of_pos factor (show (0 : Int) < 1000 by omega)
    exact ⟨(1 + max (factor.tmod 1000) (-(factor.tmod 1000))).toNat, by omega, by omega, by omega⟩
  have HK := Lib.hid hK
  obtain ⟨g, hg, hgb⟩ := mil_pack f
  have hab := fun i => absOf_bounds (f i)
  have hgi : ∀ i, absOf (f i) % 1000000 = g i := fun i => by rw [← hg]; rfl
  obtain ⟨s1, s2, s3, s4⟩ := scaled_facts (T := absOf x) (n := cut60 n) hgb hK1 hK2
  obtain ⟨q, hq, hqi⟩ : ∃ q : Nat → Int, (fun i => (K : Int) * g i) = q ∧ ∀ i, (K : Int) * g i = q i := ⟨_, rfl, fun _ => rfl⟩
  rw [hq] at s2 s3 s4
  have s5 : ∀ i, 0 ≤ q i ∧ q i ≤ 1000000000 := fun i => by rw [← hqi]; exact s1 i
  have HW := Lib.hid hW
  have H1 := Lib.hid (fun B (w1 : World) (hI : Ints w1 B (cut60 n) g) => share_any (absOf x) (.slice (some ⟨B, 0, none⟩) (cut60 n) (cut60 n)) (cut60 n) g w1 (hI.list (by omega) (fun i _ => small_wf (by have := hgb i; omega))))
  have H2 := Lib.hid (fun B (w1 : World) (hI : Ints w1 B (cut60 n) q) => share_any (absOf x) (.slice (some ⟨B, 0, none⟩) (cut60 n) (cut60 n)) (cut60 n) q w1 (hI.list (by omega) (fun i _ => small_wf (by have := s5 i; omega))))
  unfold ShareGives at H1 H2
  rw [s2, s3] at H2
  have S4 := Lib.hid (fun i (_ : i < shN (absOf x) (cut60 n) g) => s4 i)
  generalize shE (absOf x) (cut60 n) g = E at *
  generalize shN (absOf x) (cut60 n) g = N at *
  generalize shI (absOf x) (cut60 n) g = c1 at *
  generalize shI (absOf x) (cut60 n) q = c2 at *
  generalize cut60 n = m at *
  have hmk := fun W => (ints_made m (by omega) W).1
  clear h hW hg htt hq s1 s2 s3 s4 hK
  have hT1 := Int.tmod_lt_of_pos factor (show (0 : Int) < 1000 by omega)
  have hT2 := Int.lt_tmod_of_pos factor (show (0 : Int) < 1000 by omega)
  have hsplit : (factor.tmod 1000 < -factor.tmod 1000 ∧ Hid ((1 : Int) + -factor.tmod 1000 = (K : Int))) ∨ (¬ factor.tmod 1000 < -factor.tmod 1000 ∧ Hid ((1 : Int) + factor.tmod 1000 = (K : Int))) := by
    have := HK.out
    by_cases hs : factor.tmod 1000 < -factor.tmod 1000
    · exact .inl ⟨hs, Lib.hid (by omega)⟩
    · exact .inr ⟨hs, Lib.hid (by omega)⟩
  rcases hsplit with ⟨hs, HKe⟩ | ⟨hs, HKe⟩
  all_goals
    have hKe := HKe.out
    have hKm : (1 : Int) + max (factor.tmod 1000) (-factor.tmod 1000) = (K : Int) := HK.out
    go_enter Try.func6, Try.ntmps6
    go_wp2_with fail
    refine (HT.out _).mono ?_
    rintro e w0 ⟨rfl, rfl⟩
    go_wp2_with fail
    refine HW.out.mono ?_
    rintro e w0 ⟨B, rfl, hI, hnB, hb0⟩
    have hm0 := (ints_made m (by omega) w0).2
    have hI0 := hI.alloc (.cells (madeCells #[.int .i64 0] m) 3)
    have hne : B ≠ w0.heap.size := by have := hI.2; omega
    have hB0 : Below w.heap.size w (w0.alloc (.cells (madeCells #[.int .i64 0] m) 3)) := hb0.alloc hb0.size _
    have hBM : w.heap.size ≤ w0.heap.size := hb0.size
    have HM0 := Lib.hid hm0
    have HI0 := Lib.hid hI0
    clear hm0 hI0 hI hb0
    go_wp2_with fail
    clear hKe hKm HKe HK hT1 hT2 hs
    generalize w0.heap.size = BM at *
    generalize w0.alloc (.cells (madeCells #[.int .i64 0] m) 3) = W1 at *
    go_loopw [9] (fun i wx => ∃ k : Nat, k ≤ m ∧ i = .int .i64 k ∧ Hid (Ints wx B m (fun j => if j < k then g j else absOf (f j))) ∧ Hid (Ints wx BM m (fun j => if j < k then q j else 0)) ∧ Below w.heap.size w wx) (fun i _ => m - (intOf i).toNat)
    case atStart => exact ⟨0, Nat.zero_le _, rfl, Lib.hid (HI0.out.congr (fun j _ => by rw [if_neg (by omega)]; rfl)), Lib.hid (HM0.out.congr (fun j _ => by rw [if_neg (by omega)])), hB0⟩
    case round =>
      obtain ⟨k, hk, rfl, hI1, hM1, hB1⟩ := hrel
      by_cases hlt : k < m
      · obtain ⟨d1, d2⟩ := hI1.out.1 k hlt
        obtain ⟨d3, d4⟩ := hM1.out.1 k hlt
        simp only [Nat.lt_irrefl, if_false] at d1 d3
        have hy := hab k
        have hgk := hgi k
        have hgb2 := hgb k
        have hqk := hqi k
        have hqb := s5 k
        have hI2 := hI1.out.set k (g k) (fun j => if j < k + 1 then g j else absOf (f j)) (fun j _ => by
          by_cases e : j = k
          · subst e; simp
          · by_cases h2 : j < k
            · rw [if_pos (by omega), if_neg e, if_pos h2]
            · rw [if_neg (by omega), if_neg e, if_neg h2])
        have hM2 := (hM1.out.other hne).set k (q k) (fun j => if j < k + 1 then q j else 0) (fun j _ => by
          by_cases e : j = k
          · subst e; simp
          · by_cases h2 : j < k
            · rw [if_pos (by omega), if_neg e, if_pos h2]
            · rw [if_neg (by omega), if_neg e, if_neg h2]) (w := wr.setCell ⟨B, k, none⟩ (.int .i64 (g k)))
        have HI2 := Lib.hid (hI2.other (d := BM) (o := k) (v := .int .i64 (q k)) hne.symm)
        have HM2 := Lib.hid hM2
        have hB2 : Below w.heap.size w ((wr.setCell ⟨B, k, none⟩ (.int .i64 (g k))).setCell ⟨BM, k, none⟩ (.int .i64 (q k))) := (hB1.setCell hnB _).setCell hBM _
        have hne2 := hne.symm
        clear hI1 hM1 hI2 hM2 hab hgi hgb hqi s5
        generalize absOf (f k) = y at *
        generalize g k = z at *
        generalize q k = qk at *
        go_wp2_with fail
        go_roundw
        case rel => exact ⟨k + 1, by omega, by go_num, HI2, HM2, hB2⟩
        case measure => simp [intOf]; omega
      · have : k = m := by omega
        subst this
        have HI2 := Lib.hid (hI1.out.congr (g := g) (fun j hj => if_pos hj))
        have HM2 := Lib.hid (hM1.out.congr (g := q) (fun j hj => if_pos hj))
        have d0 : decide ((k : Int) < (k : Int)) = false := decide_eq_false (by omega)
        clear hI1 hM1 HI0 HM0 hB0 hmk
        go_wp2_with fail
        refine (H1.out B _ HI2.out).mono ?_
        rintro e w1 ⟨u1, rfl, hO1, hb1⟩
        have hB2 := hB1.trans (hb1.mono hB1.size)
        have HM3 := Lib.hid (HM2.out.keep hb1)
        have hl1 := hO1.list
        clear hO1 hb1
        go_wp2_with fail
        refine (H2.out BM _ HM3.out).mono ?_
        rintro e w2 ⟨u2, rfl, hO2, hb2⟩
        have hB3 := hB2.trans (hb2.mono hB2.size)
        have HS := Lib.hid (refSame_true u1 u2 N c1 c2 w2 (ListAt.keep hl1 hb2) hO2.list S4.out)
        clear hO2 hb2 hl1 H1 H2 HI2 HM2 HM3
        go_wp2_with fail
        refine HS.out.mono ?_
        rintro e w3 ⟨rfl, hb3⟩
        have hB4 := hB3.trans (hb3.mono hB3.size)
        go_wp2_with fail
        refine (awake3_any w3).mono ?_
        rintro e w4 ⟨rfl, hb4⟩
        have hB5 := hB4.trans (hb4.mono hB4.size)
        go_wp2_with fail
        go_ret
        exact ⟨rfl, hB5⟩
end Go.Proofs.Ytnjegnmkabnkkaa
