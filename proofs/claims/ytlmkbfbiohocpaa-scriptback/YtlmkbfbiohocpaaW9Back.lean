/- The walk of ScriptBack. -/
import Derived.Test.YtlmkbfbiohocpaaW9Base
namespace Go.Proofs.Ytlmkbfbiohocpaa
open Go.RowKit Go.Sort

theorem neq38_no (k t i g v : Int) (u : World) : (binOp .neq 38 (.agg #[.int .i64 k, .int .i64 t, .int .i64 i, .int .i64 g, .int .i64 v]) (.agg #[.int .i64 k, .int .i64 t, .int .i64 i, .int .i64 g, .int .i64 v])).run Try.prog u = .ok (.bool false) u := by
  simp [go_sem]
/-- What the law asks of an entry that was encoded and decoded. -/
def xE (e : E5) : E5 := if e.1 = 1 then e else if e.1 = 2 then (2, e.2.1, 0, 0, 0) else (3, 0, 0, 0, 0)
theorem may_tag {g v : Int} {b : Bool} (h : mayB g v b = true) : 1 ≤ g ∧ g ≤ 9 := by
  unfold mayB at h
  cases b <;> simp at h <;> omega
theorem ch_good {n m : Int} {b : Bool} {e : E5} (hn : n ≤ 16) (hm : m ≤ 4) (h : chV n m b e = 0) : Kind9 e ∧ nrm e = xE e := by
  obtain ⟨k, t, i, g, v⟩ := e
  unfold chV at h
  simp only at h
  by_cases h1 : k < 1 ∨ 3 < k
  · rw [if_pos h1] at h; cases h
  · rw [if_neg h1] at h
    refine ⟨⟨by show 1 ≤ k; omega, by show k ≤ 3; omega⟩, ?_⟩
    by_cases h3 : k = 3
    · subst h3; rfl
    · rw [if_neg h3] at h
      by_cases ht : t < 0 ∨ n ≤ t
      · rw [if_pos ht] at h; cases h
      · rw [if_neg ht] at h
        have et : t % 256 = t := by omega
        by_cases h2 : k = 2
        · subst h2
          show ((2 : Int), t % 256, (0 : Int), (0 : Int), (0 : Int)) = (2, t, 0, 0, 0)
          rw [et]
        · have h1' : k = 1 := by omega
          subst h1'
          rw [if_neg (by omega)] at h
          by_cases hi : i < 0 ∨ m ≤ i
          · rw [if_pos hi] at h; cases h
          · rw [if_neg hi] at h
            have ei : i % 256 = i := by omega
            by_cases hg : mayB g v b = true
            · have := may_tag hg
              have eg : g % 256 = g := by omega
              show ((1 : Int), t % 256, i % 256, g % 256, v) = (1, t, i, g, v)
              rw [et, ei, eg]
            · rw [if_neg hg] at h; cases h
theorem back_ok (x0 x1 x2 x3 x4 x5 x6 x7 : Int) (b : Bool) (x9 x10 x11 : Int) (l : List E5) (hl : l.length ≤ 100) (hg : Good5 l) : (alV (ckV x0 x1 x2 x3 x4 x5 x6 x7 b x9 x10 x11) x0 x1 b l).2 = 0 → decG (encL l) 0 [] = (l.map nrm, 0, 0) ∧ ∀ e ∈ l, Kind9 e ∧ nrm e = xE e := by
  intro h
  by_cases hc : ckV x0 x1 x2 x3 x4 x5 x6 x7 b x9 x10 x11 = 0
  · rw [al_ok hc (by omega)] at h
    have ok := (ck_ok x0 x1 x2 x3 x4 x5 x6 x7 b x9 x10 x11).1 hc
    have hall : ∀ e ∈ l, Kind9 e ∧ nrm e = xE e := fun e he => ch_good ok.h0.2 ok.h1.2 (fs_all h e he)
    exact ⟨dec_enc (fun e he => (hall e he).1) hg, hall⟩
  · rw [al_no hc] at h
    exact absurd h hc

set_option maxRecDepth 100000 in
set_option maxHeartbeats 4000000 in
theorem walkBack (s : ByteArray) (x0 x1 x2 x3 x4 x5 x6 x7 : Int) (b : Bool) (x9 x10 x11 : Int) (A : Option Addr) (cap : Nat) (l : List E5) (len : Nat) (hlen : len = l.length) (hg : Good5 l) (w : World) (hs : Sees w w.heap.size 5 A len (ec5 l)) : Calls Try.prog 6 #[.string s, .agg #[.int .i64 x0, .int .i64 x1, .int .i64 x2, .int .i64 x3, .int .i64 x4, .int .i64 x5, .int .i64 x6, .int .i64 x7, .bool b, .int .i64 x9, .int .i64 x10, .int .i64 x11], .slice A len cap] w (BoolPost true w) := by
  have HL := hide hlen
  clear hlen
  have hB : Below w.heap.size w (w.alloc (.cells #[.int .i64 x0, .int .i64 x1, .int .i64 x2, .int .i64 x3, .int .i64 x4, .int .i64 x5, .int .i64 x6, .int .i64 x7, .bool b, .int .i64 x9, .int .i64 x10, .int .i64 x11] 23)) := (Below.refl _ _).alloc (Nat.le_refl _) _
  have Q : (w.alloc (.cells #[.int .i64 x0, .int .i64 x1, .int .i64 x2, .int .i64 x3, .int .i64 x4, .int .i64 x5, .int .i64 x6, .int .i64 x7, .bool b, .int .i64 x9, .int .i64 x10, .int .i64 x11] 23)).cell? ⟨w.heap.size, 0, none⟩ = some (.int .i64 x0) ∧ (w.alloc (.cells #[.int .i64 x0, .int .i64 x1, .int .i64 x2, .int .i64 x3, .int .i64 x4, .int .i64 x5, .int .i64 x6, .int .i64 x7, .bool b, .int .i64 x9, .int .i64 x10, .int .i64 x11] 23)).cell? ⟨w.heap.size, 1, none⟩ = some (.int .i64 x1) ∧ (w.alloc (.cells #[.int .i64 x0, .int .i64 x1, .int .i64 x2, .int .i64 x3, .int .i64 x4, .int .i64 x5, .int .i64 x6, .int .i64 x7, .bool b, .int .i64 x9, .int .i64 x10, .int .i64 x11] 23)).cell? ⟨w.heap.size, 2, none⟩ = some (.int .i64 x2) ∧ (w.alloc (.cells #[.int .i64 x0, .int .i64 x1, .int .i64 x2, .int .i64 x3, .int .i64 x4, .int .i64 x5, .int .i64 x6, .int .i64 x7, .bool b, .int .i64 x9, .int .i64 x10, .int .i64 x11] 23)).cell? ⟨w.heap.size, 3, none⟩ = some (.int .i64 x3) ∧ (w.alloc (.cells #[.int .i64 x0, .int .i64 x1, .int .i64 x2, .int .i64 x3, .int .i64 x4, .int .i64 x5, .int .i64 x6, .int .i64 x7, .bool b, .int .i64 x9, .int .i64 x10, .int .i64 x11] 23)).cell? ⟨w.heap.size, 4, none⟩ = some (.int .i64 x4) ∧ (w.alloc (.cells #[.int .i64 x0, .int .i64 x1, .int .i64 x2, .int .i64 x3, .int .i64 x4, .int .i64 x5, .int .i64 x6, .int .i64 x7, .bool b, .int .i64 x9, .int .i64 x10, .int .i64 x11] 23)).cell? ⟨w.heap.size, 5, none⟩ = some (.int .i64 x5) ∧ (w.alloc (.cells #[.int .i64 x0, .int .i64 x1, .int .i64 x2, .int .i64 x3, .int .i64 x4, .int .i64 x5, .int .i64 x6, .int .i64 x7, .bool b, .int .i64 x9, .int .i64 x10, .int .i64 x11] 23)).cell? ⟨w.heap.size, 6, none⟩ = some (.int .i64 x6) ∧ (w.alloc (.cells #[.int .i64 x0, .int .i64 x1, .int .i64 x2, .int .i64 x3, .int .i64 x4, .int .i64 x5, .int .i64 x6, .int .i64 x7, .bool b, .int .i64 x9, .int .i64 x10, .int .i64 x11] 23)).cell? ⟨w.heap.size, 7, none⟩ = some (.int .i64 x7) ∧ (w.alloc (.cells #[.int .i64 x0, .int .i64 x1, .int .i64 x2, .int .i64 x3, .int .i64 x4, .int .i64 x5, .int .i64 x6, .int .i64 x7, .bool b, .int .i64 x9, .int .i64 x10, .int .i64 x11] 23)).cell? ⟨w.heap.size, 8, none⟩ = some (.bool b) ∧ (w.alloc (.cells #[.int .i64 x0, .int .i64 x1, .int .i64 x2, .int .i64 x3, .int .i64 x4, .int .i64 x5, .int .i64 x6, .int .i64 x7, .bool b, .int .i64 x9, .int .i64 x10, .int .i64 x11] 23)).cell? ⟨w.heap.size, 9, none⟩ = some (.int .i64 x9) ∧ (w.alloc (.cells #[.int .i64 x0, .int .i64 x1, .int .i64 x2, .int .i64 x3, .int .i64 x4, .int .i64 x5, .int .i64 x6, .int .i64 x7, .bool b, .int .i64 x9, .int .i64 x10, .int .i64 x11] 23)).cell? ⟨w.heap.size, 10, none⟩ = some (.int .i64 x10) ∧ (w.alloc (.cells #[.int .i64 x0, .int .i64 x1, .int .i64 x2, .int .i64 x3, .int .i64 x4, .int .i64 x5, .int .i64 x6, .int .i64 x7, .bool b, .int .i64 x9, .int .i64 x10, .int .i64 x11] 23)).cell? ⟨w.heap.size, 11, none⟩ = some (.int .i64 x11) := by simp [go_sem]
  by_cases hbig : 1000 < s.size
  · clear Q
    go_enter Try.func6, Try.ntmps6
    go_wp2_with (go_at_call 9; refine (shown9_any _).mono ?_; rintro x w1 ⟨rfl, hb1⟩)
    go_ret
    exact ⟨rfl, below_next hB hB.size hb1⟩
  · have hd : decide (1000 < (s.size : Int)) = false := decide_eq_false (by omega)
    by_cases hbig2 : 100 < len
    · clear Q
      go_enter Try.func6, Try.ntmps6
      go_wp2_with (go_at_call 9; refine (shown9_any _).mono ?_; rintro x w1 ⟨rfl, hb1⟩)
      go_ret
      exact ⟨rfl, below_next hB hB.size hb1⟩
    · have hd2 : decide (100 < (len : Int)) = false := decide_eq_false (by omega)
      have hmax : len ≤ 100000 := by omega
      have hms : s.size ≤ 1000000 := by omega
      have hl100 : l.length ≤ 100 := by have := HL.out; omega
      have HOK := hide (back_ok x0 x1 x2 x3 x4 x5 x6 x7 b x9 x10 x11 l hl100 hg)
      obtain ⟨⟨rk, rf⟩, h2⟩ : ∃ r, alV (ckV x0 x1 x2 x3 x4 x5 x6 x7 b x9 x10 x11) x0 x1 b l = r := ⟨_, rfl⟩
      rw [h2] at HOK
      have K3 := hide (fun A c => rall9_any x0 x1 x2 x3 x4 x5 x6 x7 b x9 x10 x11 A c l len HL.out hmax)
      simp only [h2] at K3
      have HD := hide (dec_back0 (nums_bytes s))
      have HP := hide (dec_place0 (nums s)).2
      rw [nums_length] at HP
      obtain ⟨⟨m, p, e⟩, hr⟩ : ∃ r, decG (nums s) 0 [] = r := ⟨_, rfl⟩
      have K1 := hide (dec_any s hms)
      rw [hr] at K1 HP HD
      obtain ⟨st, est⟩ : ∃ st, strOfNums (encL l) = st := ⟨_, rfl⟩
      have HST := hide (show nums st = encL l by rw [← est]; exact nums_str (encL_bytes _))
      have zst : st.size ≤ 1200 := by (rw [← est, strOfNums_size]; have := encL_length_le l; omega)
      have K4 := hide (enc_any A cap l len HL.out hmax)
      rw [est] at K4
      clear h2 hr est hl100
      go_enter Try.func6, Try.ntmps6
      replace hs := hs.later hB
      go_wp2_with fail
      refine (shown9_any _).mono ?_
      rintro x w1 ⟨rfl, hb⟩
      replace hs := hs.later hb
      replace Q := keep12 Q hb
      replace hB := below_next hB hB.size hb
      clear hb
      go_wp2_with fail
      refine (K1.out _).mono ?_
      rintro x w2 ⟨A2, c2, rfl, hc2, hs2, hb⟩
      replace hs := hs.later hb
      replace Q := keep12 Q hb
      replace hB := below_next hB hB.size hb
      clear hb
      by_cases he : e = 0
      · subst he
        have hm : encL m = nums s := HD.out rfl
        have hlm : m.length ≤ 100000 := (by have h1 : m.length ≤ s.size := HP.out; omega)
        have K2 := hide (enc_any A2 c2 m m.length rfl hlm w2 hs2)
        rw [hm, str_nums] at K2
        clear hm K1 HD HP
        go_wp2_with fail
        refine (K2.out).mono ?_
        rintro x w3 ⟨rfl, hb⟩
        replace hs := hs.later hb
        replace Q := keep12 Q hb
        replace hB := below_next hB hB.size hb
        clear hb
        clear K2 hs2
        have HB := hide hB
        replace Q : w3.drew.cell? ⟨w.heap.size, 0, none⟩ = some (.int .i64 x0) ∧ w3.drew.cell? ⟨w.heap.size, 1, none⟩ = some (.int .i64 x1) ∧ w3.drew.cell? ⟨w.heap.size, 2, none⟩ = some (.int .i64 x2) ∧ w3.drew.cell? ⟨w.heap.size, 3, none⟩ = some (.int .i64 x3) ∧ w3.drew.cell? ⟨w.heap.size, 4, none⟩ = some (.int .i64 x4) ∧ w3.drew.cell? ⟨w.heap.size, 5, none⟩ = some (.int .i64 x5) ∧ w3.drew.cell? ⟨w.heap.size, 6, none⟩ = some (.int .i64 x6) ∧ w3.drew.cell? ⟨w.heap.size, 7, none⟩ = some (.int .i64 x7) ∧ w3.drew.cell? ⟨w.heap.size, 8, none⟩ = some (.bool b) ∧ w3.drew.cell? ⟨w.heap.size, 9, none⟩ = some (.int .i64 x9) ∧ w3.drew.cell? ⟨w.heap.size, 10, none⟩ = some (.int .i64 x10) ∧ w3.drew.cell? ⟨w.heap.size, 11, none⟩ = some (.int .i64 x11) := Q
        replace hB := hB.drew
        replace hs : Sees w3.drew w3.drew.heap.size 5 A len (ec5 l) := hs
        go_wp2_with fail
        go_region_held3 (fun w' => w'.cell? ⟨w.heap.size, 0, none⟩ = some (.int .i64 x0) ∧ w'.cell? ⟨w.heap.size, 1, none⟩ = some (.int .i64 x1) ∧ w'.cell? ⟨w.heap.size, 2, none⟩ = some (.int .i64 x2) ∧ w'.cell? ⟨w.heap.size, 3, none⟩ = some (.int .i64 x3) ∧ w'.cell? ⟨w.heap.size, 4, none⟩ = some (.int .i64 x4) ∧ w'.cell? ⟨w.heap.size, 5, none⟩ = some (.int .i64 x5) ∧ w'.cell? ⟨w.heap.size, 6, none⟩ = some (.int .i64 x6) ∧ w'.cell? ⟨w.heap.size, 7, none⟩ = some (.int .i64 x7) ∧ w'.cell? ⟨w.heap.size, 8, none⟩ = some (.bool b) ∧ w'.cell? ⟨w.heap.size, 9, none⟩ = some (.int .i64 x9) ∧ w'.cell? ⟨w.heap.size, 10, none⟩ = some (.int .i64 x10) ∧ w'.cell? ⟨w.heap.size, 11, none⟩ = some (.int .i64 x11))
          (exact Q)
          (first
            | (go_at_call 10; refine (its9_any A cap l len HL.out hmax _ hs).mono ?_; rintro x w5 ⟨A5, c5, rfl, hc5, hs5, hb⟩; replace hs := hs.later hb; replace Q := keep12 Q hb; replace hB := below_next hB hB.size hb; clear hb)
            | (go_at_call 12; refine (K3.out A5 c5 _ hs5).mono ?_; rintro x w6 ⟨rfl, hb⟩; replace hs := hs.later hb; replace Q := keep12 Q hb; replace hB := below_next hB hB.size hb; clear hb))
        clear hs5 K3 HB Q
        by_cases hf : rf = 0
        · subst hf
          have hok := HOK.out rfl
          have K5 := hide (fun w => dec_any st (by omega) w)
          rw [HST.out, hok.1] at K5
          have HX := hide hok.2
          clear hok
          go_wp2_with fail
          refine (K4.out _ hs).mono ?_
          rintro x w7 ⟨rfl, hb⟩
          replace hs := hs.later hb
          replace hB := below_next hB hB.size hb
          clear hb
          go_wp2_with fail
          refine (K5.out _).mono ?_
          rintro x w8 ⟨A8, c8, rfl, hc8, hs8, hb⟩
          replace hs := hs.later hb
          replace hB := below_next hB hB.size hb
          clear hb
          have el : (l.map nrm).length = len := by rw [List.length_map, ← HL.out]
          simp only [el] at hs8 hc8 ⊢
          clear el
          clear K4 K5 HST
          go_wp2
          go_loopw [15] (fun q wr => ∃ j : Nat, j ≤ len ∧ q = .int .i64 j ∧ Below w8.heap.size w8 wr) (fun q _ => len - (intOf q).toNat)
          case atStart => exact ⟨0, Nat.zero_le _, rfl, Below.refl _ _⟩
          case round =>
            obtain ⟨j, hj, rfl, hb⟩ := hrel
            have hr1 := hide hb
            replace hs := hs.later hb
            replace hs8 := hs8.later hb
            replace hB := below_next hB hB.size hb
            clear hb
            by_cases hlt : j < len
            · have h1 := hs
              rw [HL.out] at h1
              obtain ⟨b1, o1, k, t, i, v1, v, rfl, lt1, he, c0, c1, c2, c3, c4⟩ := h1.ent5 (k := j) (by have := HL.out; omega)
              have h2 := hs8
              rw [show len = (l.map nrm).length by rw [List.length_map, ← HL.out]] at h2
              obtain ⟨b2, o2, k2, t2, i2, v2, v3, rfl, lt2, he2, d0, d1, d2, d3, d4⟩ := h2.ent5 (k := j) (by rw [List.length_map]; have := HL.out; omega)
              rw [List.getElem?_map, he] at he2
              have hx := HX.out _ (List.mem_of_getElem? he)
              have hk9 := hx.1
              have en := hx.2
              simp only [Option.map_some, Option.some.injEq] at he2
              rw [en] at he2
              have hj0 : (0 : Int) ≤ (j : Int) := Int.natCast_nonneg _
              have hj1 : (j : Int) < (len : Int) := by omega
              have HB := hide hB
              clear h1 h2 hs hs8 he hx en hB
              rcases kind_cases hk9 with hk | hk | hk
              · obtain rfl : k = 1 := hk
                have he3 : (1, t, i, v1, v) = (k2, t2, i2, v2, v3) := he2
                simp only [Prod.mk.injEq] at he3
                obtain ⟨rfl, rfl, rfl, rfl, rfl⟩ := he3
                clear he2 hk9
                have hq := neq38_no 1 t i v1 v
                go_wp2_with fail
                go_quiet (fail)
                go_wp2
                go_roundw
                case rel => exact ⟨j + 1, by omega, by go_num, below_drewN (hr1.out.alloc hr1.out.size _) _⟩
                case measure => simp [intOf]; omega
              · obtain rfl : k = 2 := hk
                have he3 : (2, t, 0, 0, 0) = (k2, t2, i2, v2, v3) := he2
                simp only [Prod.mk.injEq] at he3
                obtain ⟨rfl, rfl, rfl, rfl, rfl⟩ := he3
                clear he2 hk9
                have hq := neq38_no 2 t 0 0 0
                go_wp2_with fail
                go_quiet (fail)
                go_wp2
                go_roundw
                case rel => exact ⟨j + 1, by omega, by go_num, below_drewN (hr1.out.alloc hr1.out.size _) _⟩
                case measure => simp [intOf]; omega
              · obtain rfl : k = 3 := hk
                have he3 : (3, 0, 0, 0, 0) = (k2, t2, i2, v2, v3) := he2
                simp only [Prod.mk.injEq] at he3
                obtain ⟨rfl, rfl, rfl, rfl, rfl⟩ := he3
                clear he2 hk9
                have hq := neq38_no 3 0 0 0 0
                go_wp2_with fail
                go_quiet (fail)
                go_wp2
                go_roundw
                case rel => exact ⟨j + 1, by omega, by go_num, below_drewN (hr1.out.alloc hr1.out.size _) _⟩
                case measure => simp [intOf]; omega
            · go_wp2
              go_ret
              exact ⟨rfl, hB⟩
        · have u1 : (rf == 0) = false := beq_eq_false_iff_ne.2 hf
          have u2 : (rf != 0) = true := bne_iff_ne.2 hf
          clear hf
          go_wp2
          go_ret
          exact ⟨rfl, hB⟩
      · have u1 : (e == 0) = false := beq_eq_false_iff_ne.2 he
        clear he K1 HD HP hs2
        have HB := hide hB
        replace Q : w2.drew.cell? ⟨w.heap.size, 0, none⟩ = some (.int .i64 x0) ∧ w2.drew.cell? ⟨w.heap.size, 1, none⟩ = some (.int .i64 x1) ∧ w2.drew.cell? ⟨w.heap.size, 2, none⟩ = some (.int .i64 x2) ∧ w2.drew.cell? ⟨w.heap.size, 3, none⟩ = some (.int .i64 x3) ∧ w2.drew.cell? ⟨w.heap.size, 4, none⟩ = some (.int .i64 x4) ∧ w2.drew.cell? ⟨w.heap.size, 5, none⟩ = some (.int .i64 x5) ∧ w2.drew.cell? ⟨w.heap.size, 6, none⟩ = some (.int .i64 x6) ∧ w2.drew.cell? ⟨w.heap.size, 7, none⟩ = some (.int .i64 x7) ∧ w2.drew.cell? ⟨w.heap.size, 8, none⟩ = some (.bool b) ∧ w2.drew.cell? ⟨w.heap.size, 9, none⟩ = some (.int .i64 x9) ∧ w2.drew.cell? ⟨w.heap.size, 10, none⟩ = some (.int .i64 x10) ∧ w2.drew.cell? ⟨w.heap.size, 11, none⟩ = some (.int .i64 x11) := Q
        replace hB := hB.drew
        replace hs : Sees w2.drew w2.drew.heap.size 5 A len (ec5 l) := hs
        go_wp2_with fail
        go_region_held3 (fun w' => w'.cell? ⟨w.heap.size, 0, none⟩ = some (.int .i64 x0) ∧ w'.cell? ⟨w.heap.size, 1, none⟩ = some (.int .i64 x1) ∧ w'.cell? ⟨w.heap.size, 2, none⟩ = some (.int .i64 x2) ∧ w'.cell? ⟨w.heap.size, 3, none⟩ = some (.int .i64 x3) ∧ w'.cell? ⟨w.heap.size, 4, none⟩ = some (.int .i64 x4) ∧ w'.cell? ⟨w.heap.size, 5, none⟩ = some (.int .i64 x5) ∧ w'.cell? ⟨w.heap.size, 6, none⟩ = some (.int .i64 x6) ∧ w'.cell? ⟨w.heap.size, 7, none⟩ = some (.int .i64 x7) ∧ w'.cell? ⟨w.heap.size, 8, none⟩ = some (.bool b) ∧ w'.cell? ⟨w.heap.size, 9, none⟩ = some (.int .i64 x9) ∧ w'.cell? ⟨w.heap.size, 10, none⟩ = some (.int .i64 x10) ∧ w'.cell? ⟨w.heap.size, 11, none⟩ = some (.int .i64 x11))
          (exact Q)
          (first
            | (go_at_call 10; refine (its9_any A cap l len HL.out hmax _ hs).mono ?_; rintro x w5 ⟨A5, c5, rfl, hc5, hs5, hb⟩; replace hs := hs.later hb; replace Q := keep12 Q hb; replace hB := below_next hB hB.size hb; clear hb)
            | (go_at_call 12; refine (K3.out A5 c5 _ hs5).mono ?_; rintro x w6 ⟨rfl, hb⟩; replace hs := hs.later hb; replace Q := keep12 Q hb; replace hB := below_next hB hB.size hb; clear hb))
        clear hs5 K3 HB Q
        by_cases hf : rf = 0
        · subst hf
          have hok := HOK.out rfl
          have K5 := hide (fun w => dec_any st (by omega) w)
          rw [HST.out, hok.1] at K5
          have HX := hide hok.2
          clear hok
          go_wp2_with fail
          refine (K4.out _ hs).mono ?_
          rintro x w7 ⟨rfl, hb⟩
          replace hs := hs.later hb
          replace hB := below_next hB hB.size hb
          clear hb
          go_wp2_with fail
          refine (K5.out _).mono ?_
          rintro x w8 ⟨A8, c8, rfl, hc8, hs8, hb⟩
          replace hs := hs.later hb
          replace hB := below_next hB hB.size hb
          clear hb
          have el : (l.map nrm).length = len := by rw [List.length_map, ← HL.out]
          simp only [el] at hs8 hc8 ⊢
          clear el
          clear K4 K5 HST
          go_wp2
          go_loopw [15] (fun q wr => ∃ j : Nat, j ≤ len ∧ q = .int .i64 j ∧ Below w8.heap.size w8 wr) (fun q _ => len - (intOf q).toNat)
          case atStart => exact ⟨0, Nat.zero_le _, rfl, Below.refl _ _⟩
          case round =>
            obtain ⟨j, hj, rfl, hb⟩ := hrel
            have hr1 := hide hb
            replace hs := hs.later hb
            replace hs8 := hs8.later hb
            replace hB := below_next hB hB.size hb
            clear hb
            by_cases hlt : j < len
            · have h1 := hs
              rw [HL.out] at h1
              obtain ⟨b1, o1, k, t, i, v1, v, rfl, lt1, he, c0, c1, c2, c3, c4⟩ := h1.ent5 (k := j) (by have := HL.out; omega)
              have h2 := hs8
              rw [show len = (l.map nrm).length by rw [List.length_map, ← HL.out]] at h2
              obtain ⟨b2, o2, k2, t2, i2, v2, v3, rfl, lt2, he2, d0, d1, d2, d3, d4⟩ := h2.ent5 (k := j) (by rw [List.length_map]; have := HL.out; omega)
              rw [List.getElem?_map, he] at he2
              have hx := HX.out _ (List.mem_of_getElem? he)
              have hk9 := hx.1
              have en := hx.2
              simp only [Option.map_some, Option.some.injEq] at he2
              rw [en] at he2
              have hj0 : (0 : Int) ≤ (j : Int) := Int.natCast_nonneg _
              have hj1 : (j : Int) < (len : Int) := by omega
              have HB := hide hB
              clear h1 h2 hs hs8 he hx en hB
              rcases kind_cases hk9 with hk | hk | hk
              · obtain rfl : k = 1 := hk
                have he3 : (1, t, i, v1, v) = (k2, t2, i2, v2, v3) := he2
                simp only [Prod.mk.injEq] at he3
                obtain ⟨rfl, rfl, rfl, rfl, rfl⟩ := he3
                clear he2 hk9
                have hq := neq38_no 1 t i v1 v
                go_wp2_with fail
                go_quiet (fail)
                go_wp2
                go_roundw
                case rel => exact ⟨j + 1, by omega, by go_num, below_drewN (hr1.out.alloc hr1.out.size _) _⟩
                case measure => simp [intOf]; omega
              · obtain rfl : k = 2 := hk
                have he3 : (2, t, 0, 0, 0) = (k2, t2, i2, v2, v3) := he2
                simp only [Prod.mk.injEq] at he3
                obtain ⟨rfl, rfl, rfl, rfl, rfl⟩ := he3
                clear he2 hk9
                have hq := neq38_no 2 t 0 0 0
                go_wp2_with fail
                go_quiet (fail)
                go_wp2
                go_roundw
                case rel => exact ⟨j + 1, by omega, by go_num, below_drewN (hr1.out.alloc hr1.out.size _) _⟩
                case measure => simp [intOf]; omega
              · obtain rfl : k = 3 := hk
                have he3 : (3, 0, 0, 0, 0) = (k2, t2, i2, v2, v3) := he2
                simp only [Prod.mk.injEq] at he3
                obtain ⟨rfl, rfl, rfl, rfl, rfl⟩ := he3
                clear he2 hk9
                have hq := neq38_no 3 0 0 0 0
                go_wp2_with fail
                go_quiet (fail)
                go_wp2
                go_roundw
                case rel => exact ⟨j + 1, by omega, by go_num, below_drewN (hr1.out.alloc hr1.out.size _) _⟩
                case measure => simp [intOf]; omega
            · go_wp2
              go_ret
              exact ⟨rfl, hB⟩
        · have u1 : (rf == 0) = false := beq_eq_false_iff_ne.2 hf
          have u2 : (rf != 0) = true := bne_iff_ne.2 hf
          clear hf
          go_wp2
          go_ret
          exact ⟨rfl, hB⟩
end Go.Proofs.Ytlmkbfbiohocpaa
