/- The walk of CodeApart. -/
import Derived.Test.YtcbjkpblailfpaaW8Base
import Derived.BigQuiet
namespace Go.Proofs.Ytcbjkpblailfpaa
open Go.RowKit Go.Sort

/-- The six words of a thread, an item and a layer. -/
def six (a i k : Int) : List Int := [frV 1 a, frV 2 a, frV 3 a, opV i k, 0, 5]
theorem six_at (w : World) (a i k : Int) (t : TypeId) (m : Nat) (hm : m < 6) : ∃ x, (six a i k)[m]? = some x ∧ (w.alloc (.cells #[.int .i64 (frV 1 a), .int .i64 (frV 2 a), .int .i64 (frV 3 a), .int .i64 (opV i k), .int .i64 0, .int .i64 5] t)).cell? ⟨w.heap.size, m, none⟩ = some (.int .i64 x) := by
  have h : m = 0 ∨ m = 1 ∨ m = 2 ∨ m = 3 ∨ m = 4 ∨ m = 5 := by omega
  rcases h with rfl | rfl | rfl | rfl | rfl | rfl <;> exact ⟨_, rfl, by simp [go_sem]⟩
theorem six_apart (a b i k j l : Int) (ha : 0 ≤ a ∧ a ≤ 15) (hb : 0 ≤ b ∧ b ≤ 15) (hk : 1 ≤ k ∧ k ≤ 3) (hl : 1 ≤ l ∧ l ≤ 3) (m n : Nat) (hm : m < 6) (hn : n < 6) (x y : Int) (hx : (six a i k)[m]? = some x) (hy : (six b j l)[n]? = some y) :
    x = y ↔ m = n ∧ (m < 3 ∧ a = b ∨ m = 3 ∧ i = j ∧ k = l ∨ 3 < m) := by
  unfold six frV opV at *
  have h1 : m = 0 ∨ m = 1 ∨ m = 2 ∨ m = 3 ∨ m = 4 ∨ m = 5 := by omega
  have h2 : n = 0 ∨ n = 1 ∨ n = 2 ∨ n = 3 ∨ n = 4 ∨ n = 5 := by omega
  clear hm hn
  rcases h1 with rfl | rfl | rfl | rfl | rfl | rfl <;> rcases h2 with rfl | rfl | rfl | rfl | rfl | rfl <;> simp at hx hy <;> subst hx <;> subst hy <;> omega

set_option maxRecDepth 100000 in
set_option maxHeartbeats 400000 in
theorem walkApart (t u it ly ot dp : Int) (ht : 0 ≤ t ∧ t ≤ 255) (hu : 0 ≤ u ∧ u ≤ 255) (hi : 0 ≤ it ∧ it ≤ 255) (hl : 0 ≤ ly ∧ ly ≤ 255) (ho : 0 ≤ ot ∧ ot ≤ 255) (hp : 0 ≤ dp ∧ dp ≤ 255) (w : World) :
    Calls Try.prog 7 #[.int .u8 t, .int .u8 u, .int .u8 it, .int .u8 ly, .int .u8 ot, .int .u8 dp] w (BoolPost true w) := by
  obtain ⟨a, ha, ha0, ha1⟩ := mod16 ht
  obtain ⟨b, hb, hb0, hb1⟩ := mod16 hu
  obtain ⟨i, hi', hi0, hi1⟩ := mod4 hi
  obtain ⟨d, k, hd, hdk, hd0, hd1, hk0, hk1⟩ := mod3 hl
  obtain ⟨j, hj', hj0, hj1⟩ := mod4 ho
  obtain ⟨f, l, hf, hfl, hf0, hf1, hl0, hl1⟩ := mod3 hp
  have c1 := fun w => hide (first_any a ⟨ha0, ha1⟩ w)
  have c2 := fun w => hide (joined_any a ⟨ha0, ha1⟩ w)
  have c3 := fun w => hide (deposited_any a ⟨ha0, ha1⟩ w)
  have c4 := fun w => hide (open_any i k ⟨hi0, hi1⟩ ⟨hk0, hk1⟩ w)
  have d1 := fun w => hide (first_any b ⟨hb0, hb1⟩ w)
  have d2 := fun w => hide (joined_any b ⟨hb0, hb1⟩ w)
  have d3 := fun w => hide (deposited_any b ⟨hb0, hb1⟩ w)
  have d4 := fun w => hide (open_any j l ⟨hj0, hj1⟩ ⟨hl0, hl1⟩ w)
  have t1 := fun w => hide (told_any w)
  have t2 := t1
  have HA := hide (six_apart a b i k j l ⟨ha0, ha1⟩ ⟨hb0, hb1⟩ ⟨hk0, hk1⟩ ⟨hl0, hl1⟩)
  go_enter Try.func7, Try.ntmps7
  go_wp2_with (first
    | (go_at_call 15; refine ((c1 _).out).mono ?_; clear c1; rintro e w1 ⟨rfl, hb1⟩)
    | (go_at_call 17; refine ((c2 _).out).mono ?_; clear c2; rintro e w2 ⟨rfl, hb2⟩)
    | (go_at_call 19; refine ((c3 _).out).mono ?_; clear c3; rintro e w3 ⟨rfl, hb3⟩)
    | (go_at_call 21; refine ((c4 _).out).mono ?_; clear c4; rintro e w4 ⟨rfl, hb4⟩)
    | (go_at_call 15; refine ((d1 _).out).mono ?_; clear d1; rintro e w6 ⟨rfl, hb6⟩)
    | (go_at_call 17; refine ((d2 _).out).mono ?_; clear d2; rintro e w7 ⟨rfl, hb7⟩)
    | (go_at_call 19; refine ((d3 _).out).mono ?_; clear d3; rintro e w8 ⟨rfl, hb8⟩)
    | (go_at_call 21; refine ((d4 _).out).mono ?_; clear d4; rintro e w9 ⟨rfl, hb9⟩)
    | (go_at_call 23; refine ((t1 _).out).mono ?_; clear t1; rintro e w5 ⟨rfl, hb5⟩)
    | (go_at_call 23; refine ((t2 _).out).mono ?_; clear t2; rintro e w10 ⟨rfl, hb10⟩))
  have q2 := below_next hb1 hb1.size hb2
  have q3 := below_next q2 q2.size hb3
  have q4 := below_next q3 q3.size hb4
  have q5 := below_next q4 q4.size hb5
  have X1 := hide (six_at w5 a i k 3)
  have p6 := hb6
  have p7 := below_next p6 p6.size hb7
  have p8 := below_next p7 p7.size hb8
  have p9 := below_next p8 p8.size hb9
  have p10 := below_next p9 p9.size hb10
  have Y1 := hide (six_at w10 b j l 3)
  have hal : Below w5.heap.size w5 (w5.alloc (.cells #[.int .i64 (frV 1 a), .int .i64 (frV 2 a), .int .i64 (frV 3 a), .int .i64 (opV i k), .int .i64 0, .int .i64 5] 3)) := (Below.refl _ _).alloc (Nat.le_refl _) _
  have hbl : Below w10.heap.size w10 (w10.alloc (.cells #[.int .i64 (frV 1 b), .int .i64 (frV 2 b), .int .i64 (frV 3 b), .int .i64 (opV j l), .int .i64 0, .int .i64 5] 3)) := (Below.refl _ _).alloc (Nat.le_refl _) _
  have hxy := below_next p10 p10.size hbl
  have hall := below_next q5 q5.size (below_next hal hal.size hxy)
  have X2 : Hid (∀ m : Nat, m < 6 → ∃ x, (six a i k)[m]? = some x ∧ (w10.alloc (.cells #[.int .i64 (frV 1 b), .int .i64 (frV 2 b), .int .i64 (frV 3 b), .int .i64 (opV j l), .int .i64 0, .int .i64 5] 3)).cell? ⟨w5.heap.size, m, none⟩ = some (.int .i64 x)) := hide (fun m hm => by
    obtain ⟨x, h1, h2⟩ := X1.out m hm
    exact ⟨x, h1, by rw [hxy.cell (World.block_lt_of_cell? _ _ h2)]; exact h2⟩)
  clear X1 hal hbl hxy p6 p7 p8 p9 p10 q2 q3 q4 q5 hb1 hb2 hb3 hb4 hb5 hb6 hb7 hb8 hb9 hb10
  generalize w5.heap.size = g at *
  generalize w10.heap.size = h at *
  generalize w10.alloc (.cells #[.int .i64 (frV 1 b), .int .i64 (frV 2 b), .int .i64 (frV 3 b), .int .i64 (opV j l), .int .i64 0, .int .i64 5] 3) = wz at *
  go_loopw [21] (fun i wr => ∃ m : Nat, m ≤ 6 ∧ i = .int .i64 m ∧ Below wz.heap.size wz wr) (fun i _ => 6 - (intOf i).toNat)
  case atStart => exact ⟨0, Nat.zero_le _, rfl, Below.refl _ _⟩
  case round =>
    obtain ⟨m, hm, rfl, hB⟩ := hrel
    by_cases hlt : m < 6
    · have hd6 : decide ((m : Int) < 6) = true := decide_eq_true (by omega)
      obtain ⟨x, hx, hcx⟩ := X2.out m hlt
      have HX := hide hx
      clear hx
      go_wp2
      go_loopw [22] (fun i wy => ∃ n : Nat, n ≤ 6 ∧ i = .int .i64 n ∧ Below wz.heap.size wz wy) (fun i _ => 6 - (intOf i).toNat)
      case atStart => exact ⟨0, Nat.zero_le _, rfl, hB⟩
      case round =>
        clear hB
        obtain ⟨n, hn, rfl, hB⟩ := hrel
        by_cases hlu : n < 6
        · have hd7 : decide ((n : Int) < 6) = true := decide_eq_true (by omega)
          obtain ⟨y, hy, hcy⟩ := Y1.out n hlu
          have HI := hide (HA.out m n hlt hlu x y HX.out hy)
          have kx := hcx
          rw [← hB.cell (World.block_lt_of_cell? _ _ hcx)] at kx
          have ky := hcy
          rw [← hB.cell (World.block_lt_of_cell? _ _ hcy)] at ky
          clear hy hcy
          have m0 : (0 : Int) ≤ (m : Int) := Int.natCast_nonneg _
          have m6 : (m : Int) < 6 := by omega
          have n0 : (0 : Int) ≤ (n : Int) := Int.natCast_nonneg _
          have n6 : (n : Int) < 6 := by omega
          clear X2 Y1 HA HX hcx
          by_cases hmn : m = n
          · have zmn : ((m : Int) == (n : Int)) = true := beq_iff_eq.2 (by omega)
            by_cases h3 : m < 3
            · have z3 : decide ((m : Int) < 3) = true := decide_eq_true (by omega)
              by_cases hab : a = b
              · have zab : (a == b) = true := beq_iff_eq.2 hab
                have zx : (x == y) = true := beq_iff_eq.2 (HI.out.2 ⟨hmn, .inl ⟨h3, hab⟩⟩)
                clear hab h3
                clear HI hmn
                go_wp2_with fail
                try clear zmn
                try clear z3
                try clear z4
                try clear z5
                try clear zab
                try clear zij
                try clear zkl
                go_quiet (fail)
                go_wp2
                go_roundw
                case rel => exact ⟨n + 1, by omega, by go_num, below_drewN hB _⟩
                case measure => simp [intOf]; omega
              · have zab : (a == b) = false := beq_eq_false_iff_ne.2 hab
                have z4 : ((m : Int) == 3) = false := beq_eq_false_iff_ne.2 (by omega)
                have z5 : decide ((3 : Int) < (m : Int)) = false := decide_eq_false (by omega)
                have zx : (x == y) = false := beq_eq_false_iff_ne.2 (fun hh => by have h7 := (HI.out.1 hh).2; omega)
                clear hab h3
                clear HI hmn
                go_wp2_with fail
                try clear zmn
                try clear z3
                try clear z4
                try clear z5
                try clear zab
                try clear zij
                try clear zkl
                go_quiet (fail)
                go_wp2
                go_roundw
                case rel => exact ⟨n + 1, by omega, by go_num, below_drewN hB _⟩
                case measure => simp [intOf]; omega
            · have z3 : decide ((m : Int) < 3) = false := decide_eq_false (by omega)
              by_cases h4 : m = 3
              · have z4 : ((m : Int) == 3) = true := beq_iff_eq.2 (by omega)
                have z5 : decide ((3 : Int) < (m : Int)) = false := decide_eq_false (by omega)
                by_cases hij : i = j
                · have zij : (i == j) = true := beq_iff_eq.2 hij
                  by_cases hkl : k = l
                  · have zkl : (k == l) = true := beq_iff_eq.2 hkl
                    have zx : (x == y) = true := beq_iff_eq.2 (HI.out.2 ⟨hmn, .inr (.inl ⟨h4, hij, hkl⟩)⟩)
                    clear hij hkl h3 h4
                    clear HI hmn
                    go_wp2_with fail
                    try clear zmn
                    try clear z3
                    try clear z4
                    try clear z5
                    try clear zab
                    try clear zij
                    try clear zkl
                    go_quiet (fail)
                    go_wp2
                    go_roundw
                    case rel => exact ⟨n + 1, by omega, by go_num, below_drewN hB _⟩
                    case measure => simp [intOf]; omega
                  · have zkl : (k == l) = false := beq_eq_false_iff_ne.2 hkl
                    have zx : (x == y) = false := beq_eq_false_iff_ne.2 (fun hh => by have h7 := (HI.out.1 hh).2; omega)
                    clear hij hkl h3 h4
                    clear HI hmn
                    go_wp2_with fail
                    try clear zmn
                    try clear z3
                    try clear z4
                    try clear z5
                    try clear zab
                    try clear zij
                    try clear zkl
                    go_quiet (fail)
                    go_wp2
                    go_roundw
                    case rel => exact ⟨n + 1, by omega, by go_num, below_drewN hB _⟩
                    case measure => simp [intOf]; omega
                · have zij : (i == j) = false := beq_eq_false_iff_ne.2 hij
                  have zx : (x == y) = false := beq_eq_false_iff_ne.2 (fun hh => by have h7 := (HI.out.1 hh).2; omega)
                  clear hij h3 h4
                  clear HI hmn
                  go_wp2_with fail
                  try clear zmn
                  try clear z3
                  try clear z4
                  try clear z5
                  try clear zab
                  try clear zij
                  try clear zkl
                  go_quiet (fail)
                  go_wp2
                  go_roundw
                  case rel => exact ⟨n + 1, by omega, by go_num, below_drewN hB _⟩
                  case measure => simp [intOf]; omega
              · have z4 : ((m : Int) == 3) = false := beq_eq_false_iff_ne.2 (by omega)
                have z5 : decide ((3 : Int) < (m : Int)) = true := decide_eq_true (by omega)
                have zx : (x == y) = true := beq_iff_eq.2 (HI.out.2 ⟨hmn, .inr (.inr (by omega))⟩)
                clear h3 h4
                clear HI hmn
                go_wp2_with fail
                try clear zmn
                try clear z3
                try clear z4
                try clear z5
                try clear zab
                try clear zij
                try clear zkl
                go_quiet (fail)
                go_wp2
                go_roundw
                case rel => exact ⟨n + 1, by omega, by go_num, below_drewN hB _⟩
                case measure => simp [intOf]; omega
          · have zmn : ((m : Int) == (n : Int)) = false := beq_eq_false_iff_ne.2 (by omega)
            have zx : (x == y) = false := beq_eq_false_iff_ne.2 (fun hh => hmn (HI.out.1 hh).1)
            clear HI hmn
            go_wp2_with fail
            try clear zmn
            try clear z3
            try clear z4
            try clear z5
            try clear zab
            try clear zij
            try clear zkl
            go_quiet (fail)
            go_wp2
            go_roundw
            case rel => exact ⟨n + 1, by omega, by go_num, below_drewN hB _⟩
            case measure => simp [intOf]; omega
        · go_wp2
          go_roundw
          case rel => exact ⟨m + 1, by omega, by go_num, hB⟩
          case measure => simp [intOf]; omega
    · go_wp2_with (go_at_call 14; refine (shown8_any _).mono ?_; rintro e w8 ⟨rfl, hb8⟩)
      go_ret
      exact ⟨rfl, below_next (below_next hall hall.size hB) (Nat.le_trans hall.size hB.size) hb8⟩
end Go.Proofs.Ytcbjkpblailfpaa
