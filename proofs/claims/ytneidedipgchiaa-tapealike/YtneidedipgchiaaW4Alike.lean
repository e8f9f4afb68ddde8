/- The walk of TapeAlike. -/
import Derived.Test.YtneidedipgchiaaW4Base
namespace Go.Proofs.Ytneidedipgchiaa
open Go.RowKit Go.Conc

theorem restT_app (p l : List Int) (j : Nat) : restT (p ++ l) ((p.length + j : Nat) : Int) = l.drop j := by
  unfold restT
  rw [if_neg (by omega), show (((p.length + j : Nat) : Int)).toNat = p.length + j by omega, ← List.drop_drop, List.drop_left]
/-- What is told behind whatever was ahead. -/
theorem alike_at (p l : List Int) (j d1 : Nat) (n : Int) (hj : j ≤ l.length) (hd : d1 = if j < l.length then 1 else 0) :
    nxD (p ++ l) ((p.length + j : Nat) : Int) = (l.drop j).headD 0 ∧ nxA (p ++ l) ((p.length + j : Nat) : Int) = ((p.length + j + d1 : Nat) : Int) ∧
    blD (p ++ l) ((p.length + j : Nat) : Int) n = (if n < 1 then 0 else (l.drop j).headD 0 % n) ∧ blA (p ++ l) ((p.length + j : Nat) : Int) n = ((p.length + j + (if n < 1 then 0 else d1) : Nat) : Int) ∧
    ((restT (p ++ l) ((p.length + j : Nat) : Int)).length : Int) = ((l.length - j : Nat) : Int) := by
  have h2 : nxA (p ++ l) ((p.length + j : Nat) : Int) = ((p.length + j + d1 : Nat) : Int) := by
    rw [nxA, restT_app, List.length_drop, hd]
    by_cases h : j < l.length
    · rw [if_pos (by omega), if_pos h]; omega
    · rw [if_neg (by omega), if_neg h]; omega
  refine ⟨by rw [nxD, restT_app], h2, by rw [blD, nxD, restT_app], ?_, by rw [restT_app, List.length_drop]⟩
  rw [blA, h2]
  split <;> simp

set_option maxRecDepth 100000 in
set_option maxHeartbeats 8000000 in
theorem walkAlike (Aa Ab Al : Option Addr) (ca cb cl : Nat) (a b l : List Int) (n : Int) (w : World) (ha : Sees w w.heap.size 1 Aa a.length (a.map (Value.int .i64))) (hb : Sees w w.heap.size 1 Ab b.length (b.map (Value.int .i64))) (hl : Sees w w.heap.size 1 Al l.length (l.map (Value.int .i64))) (hn : I64 n) :
    Calls Try.prog 7 #[.slice Aa a.length ca, .slice Ab b.length cb, .slice Al l.length cl, .int .i64 n] w (BoolPost true w) := by
  by_cases h1 : (60 : Int) < (a.length : Int)
  · clear ha hb hl hn
    go_enter Try.func7, Try.ntmps7
    go_wp2_with fail
    refine (shownT_any _).mono ?_
    rintro x w1 ⟨rfl, hb1⟩
    go_wp2
    go_ret
    exact ⟨rfl, hb1⟩
  have h1' : (a.length : Int) ≤ 60 := by omega
  clear h1
  by_cases h2 : (60 : Int) < (b.length : Int)
  · clear ha hb hl hn
    go_enter Try.func7, Try.ntmps7
    go_wp2_with fail
    refine (shownT_any _).mono ?_
    rintro x w1 ⟨rfl, hb1⟩
    go_wp2
    go_ret
    exact ⟨rfl, hb1⟩
  have h2' : (b.length : Int) ≤ 60 := by omega
  clear h2
  by_cases h3 : (60 : Int) < (l.length : Int)
  · clear ha hb hl hn
    go_enter Try.func7, Try.ntmps7
    go_wp2_with fail
    refine (shownT_any _).mono ?_
    rintro x w1 ⟨rfl, hb1⟩
    go_wp2
    go_ret
    exact ⟨rfl, hb1⟩
  have h3' : (l.length : Int) ≤ 60 := by omega
  clear h3
  have HA := hide ha
  have HBB := hide hb
  have HL := hide hl
  have HN := hide hn
  obtain ⟨i0, hi0, hz0, hz1, hz2⟩ := info_parts info3
  have HI := hide hi0
  have HZ0 := hide hz0
  have HZ1 := hide hz1
  have HZ2 := hide hz2
  obtain ⟨La, hLa⟩ : ∃ La, a ++ l = La := ⟨_, rfl⟩
  obtain ⟨Lb, hLb⟩ : ∃ Lb, b ++ l = Lb := ⟨_, rfl⟩
  have ELa := hide (show 0 + a.length + l.length = La.length ∧ [] ++ (a.map (Value.int .i64)) ++ (l.map (Value.int .i64)) = (La.map (Value.int .i64)) by rw [← hLa]; simp)
  have ELb := hide (show 0 + b.length + l.length = Lb.length ∧ [] ++ (b.map (Value.int .i64)) ++ (l.map (Value.int .i64)) = (Lb.map (Value.int .i64)) by rw [← hLb]; simp)
  have HLA := hide hLa
  have HLB := hide hLb
  clear ha hb hl hn hi0 hz0 hz1 hz2 hLa hLb
  go_enter Try.func7, Try.ntmps7
  go_wp2_with fail
  refine (shownT_any _).mono ?_
  rintro x w1 ⟨rfl, hB⟩
  have e1 : Below w1.heap.size w1 (w1.alloc (.cells #[] 3)) := (Below.refl _ _).alloc (Nat.le_refl _) _
  go_upto_region 4 with (at_builtin; first
    | (refine wpList_app _ rfl _ _ 22 rfl w1.heap.size 3 i0 _ 1 8 Try.underlying22 HI.out HZ0.out HZ1.out HZ2.out rfl (by omega) _ (0 + a.length) _ rfl hown1 _ Al l.length cl _ rfl (HL.out.later hB2) (by simp [Value.oneCell']) (by unfold maxLen; omega) (by omega) b2.size ?_; intro v2 w3 hown2 hg2; have b3 : Below w1.heap.size w1 w3 := b2.grown hg2 b2.size (own_at hown1); rw [ELa.out.1, ELa.out.2] at hown2; obtain ⟨A1, c1, rfl, _⟩ := own_form hown2; have s9 := Sees.of_own hown2; replace hB := below_next hB hB.size b3; clear hown1 hown2 hg1 hg2 b2 hB2 e1)
    | (refine wpList_app _ rfl _ _ 22 rfl w1.heap.size 3 i0 _ 1 8 Try.underlying22 HI.out HZ0.out HZ1.out HZ2.out rfl (by omega) _ 0 _ rfl (own_empty w1 _ _ _ (Nat.le_refl _)) _ Aa a.length ca _ rfl ((HA.out.later hB).later e1) (by simp [Value.oneCell']) (by unfold maxLen; omega) (by omega) (by simp) ?_; intro v1 w2 hown1 hg1; have b2 : Below w1.heap.size w1 w2 := e1.grown hg1 (by simp) (own_at (own_empty w1 w1.heap.size 3 1 (Nat.le_refl _))); have hB2 := below_next hB hB.size b2))
  clear b3
  have S9 := hide s9
  clear s9
  have hw9 : w.heap.size ≤ w3.heap.size := hB.size
  have hb : Below w3.heap.size w3 (w3.alloc (.cells #[.slice A1 La.length c1, .int .i64 (a.length : Int)] 24)) := (Below.refl _ _).alloc (Nat.le_refl _) _
  have q0 : (w3.alloc (.cells #[.slice A1 La.length c1, .int .i64 (a.length : Int)] 24)).cell? ⟨w3.heap.size, 0, none⟩ = some (.slice A1 La.length c1) := by simp [go_sem]
  have q1 : (w3.alloc (.cells #[.slice A1 La.length c1, .int .i64 (a.length : Int)] 24)).cell? ⟨w3.heap.size, 1, none⟩ = some (.int .i64 (a.length : Int)) := by simp [go_sem]
  replace S9 := hide (S9.out.later hb)
  replace hB := below_next hB hB.size hb
  clear hb
  have f0 : (w3.alloc (.cells #[.slice A1 La.length c1, .int .i64 (a.length : Int)] 24)).frozen? ⟨w3.heap.size, 0, none⟩ = false := by simp [go_sem]
  have f1 : (w3.alloc (.cells #[.slice A1 La.length c1, .int .i64 (a.length : Int)] 24)).frozen? ⟨w3.heap.size, 1, none⟩ = false := by simp [go_sem]
  generalize (w3.alloc (.cells #[.slice A1 La.length c1, .int .i64 (a.length : Int)] 24)) = w4 at *
  have e1 : Below w4.heap.size w4 (w4.alloc (.cells #[] 3)) := (Below.refl _ _).alloc (Nat.le_refl _) _
  go_upto_region 5 with (at_builtin; first
    | (refine wpList_app _ rfl _ _ 22 rfl w4.heap.size 3 i0 _ 1 8 Try.underlying22 HI.out HZ0.out HZ1.out HZ2.out rfl (by omega) _ (0 + b.length) _ rfl hown1 _ Al l.length cl _ rfl (HL.out.later hB2) (by simp [Value.oneCell']) (by unfold maxLen; omega) (by omega) b2.size ?_; intro v4 w6 hown2 hg2; have b3 : Below w4.heap.size w4 w6 := b2.grown hg2 b2.size (own_at hown1); rw [ELb.out.1, ELb.out.2] at hown2; obtain ⟨A2, c2, rfl, _⟩ := own_form hown2; have s10 := Sees.of_own hown2; replace hB := below_next hB hB.size b3; clear hown1 hown2 hg1 hg2 b2 hB2 e1)
    | (refine wpList_app _ rfl _ _ 22 rfl w4.heap.size 3 i0 _ 1 8 Try.underlying22 HI.out HZ0.out HZ1.out HZ2.out rfl (by omega) _ 0 _ rfl (own_empty w4 _ _ _ (Nat.le_refl _)) _ Ab b.length cb _ rfl ((HBB.out.later hB).later e1) (by simp [Value.oneCell']) (by unfold maxLen; omega) (by omega) (by simp) ?_; intro v3 w5 hown1 hg1; have b2 : Below w4.heap.size w4 w5 := e1.grown hg1 (by simp) (own_at (own_empty w4 w4.heap.size 3 1 (Nat.le_refl _))); have hB2 := below_next hB hB.size b2))
  have z4 : w3.heap.size < w4.heap.size := World.block_lt_of_cell? w4 _ q0
  replace f0 := frozen_keep b3 z4 f0
  replace f1 := frozen_keep b3 z4 f1
  replace q0 := cell_keep q0 b3
  replace q1 := cell_keep q1 b3
  replace S9 := hide (S9.out.later b3)
  have z6 : w3.heap.size < w6.heap.size := Nat.lt_of_lt_of_le z4 b3.size
  clear b3 z4
  have S10 := hide s10
  clear s10
  have hw10 : w.heap.size ≤ w6.heap.size := hB.size
  have hb : Below w6.heap.size w6 (w6.alloc (.cells #[.slice A2 Lb.length c2, .int .i64 (b.length : Int)] 24)) := (Below.refl _ _).alloc (Nat.le_refl _) _
  have r0 : (w6.alloc (.cells #[.slice A2 Lb.length c2, .int .i64 (b.length : Int)] 24)).cell? ⟨w6.heap.size, 0, none⟩ = some (.slice A2 Lb.length c2) := by simp [go_sem]
  have r1 : (w6.alloc (.cells #[.slice A2 Lb.length c2, .int .i64 (b.length : Int)] 24)).cell? ⟨w6.heap.size, 1, none⟩ = some (.int .i64 (b.length : Int)) := by simp [go_sem]
  replace q0 := cell_keep q0 hb
  replace q1 := cell_keep q1 hb
  replace S9 := hide (S9.out.later hb)
  replace S10 := hide (S10.out.later hb)
  replace hB := below_next hB hB.size hb
  clear hb
  have k0 : (w6.alloc (.cells #[.slice A2 Lb.length c2, .int .i64 (b.length : Int)] 24)).frozen? ⟨w6.heap.size, 0, none⟩ = false := by simp [go_sem]
  have k1 : (w6.alloc (.cells #[.slice A2 Lb.length c2, .int .i64 (b.length : Int)] 24)).frozen? ⟨w6.heap.size, 1, none⟩ = false := by simp [go_sem]
  have hz : Below w6.heap.size w6 (w6.alloc (.cells #[.slice A2 Lb.length c2, .int .i64 (b.length : Int)] 24)) := (Below.refl _ _).alloc (Nat.le_refl _) _
  replace f0 := frozen_keep hz z6 f0
  replace f1 := frozen_keep hz z6 f1
  clear hz
  generalize (w6.alloc (.cells #[.slice A2 Lb.length c2, .int .i64 (b.length : Int)] 24)) = w7 at *
  go_wp2
  go_loopw [11] (fun i wr => ∃ (j : Nat) (B1 B2 : Option Addr) (d1 d2 : Nat), i = .int .i64 j ∧ j ≤ l.length + 1 ∧ wr.cell? ⟨w3.heap.size, 0, none⟩ = some (.slice B1 La.length d1) ∧ wr.cell? ⟨w3.heap.size, 1, none⟩ = some (.int .i64 ((a.length + min j l.length : Nat) : Int)) ∧ wr.cell? ⟨w6.heap.size, 0, none⟩ = some (.slice B2 Lb.length d2) ∧ wr.cell? ⟨w6.heap.size, 1, none⟩ = some (.int .i64 ((b.length + min j l.length : Nat) : Int)) ∧ wr.frozen? ⟨w3.heap.size, 0, none⟩ = false ∧ wr.frozen? ⟨w3.heap.size, 1, none⟩ = false ∧ wr.frozen? ⟨w6.heap.size, 0, none⟩ = false ∧ wr.frozen? ⟨w6.heap.size, 1, none⟩ = false ∧ Sees wr wr.heap.size 1 B1 La.length (La.map (Value.int .i64)) ∧ Sees wr wr.heap.size 1 B2 Lb.length (Lb.map (Value.int .i64)) ∧ Below w.heap.size w wr) (fun i _ => l.length + 1 - (intOf i).toNat)
  case atStart => exact ⟨0, A1, A2, c1, c2, rfl, Nat.zero_le _, q0, by simpa using q1, r0, by simpa using r1, f0, f1, k0, k1, S9.out, S10.out, hB⟩
  case round =>
    clear q0 q1 r0 r1 f0 f1 k0 k1 S9 S10 hB
    obtain ⟨j, B1, B2, d1, d2, rfl, hj, p0, p1, r0, r1, f0, f1, k0, k1, hs9, hs10, hB⟩ := hrel
    have S9 := hide hs9
    have S10 := hide hs10
    clear hs9 hs10
    by_cases hlt : (j : Int) ≤ (l.length : Int)
    · have hmin : min j l.length = j := by omega
      rw [hmin] at p1 r1
      obtain ⟨dd, hdd⟩ : ∃ dd : Nat, (if j < l.length then 1 else 0) = dd := ⟨_, rfl⟩
      have fa := alike_at a l j dd n (by omega) hdd.symm
      have fb := alike_at b l j dd n (by omega) hdd.symm
      rw [HLA.out] at fa
      rw [HLB.out] at fb
      obtain ⟨D, hD⟩ : ∃ D, (l.drop j).headD 0 = D := ⟨_, rfl⟩
      rw [hD] at fa fb
      obtain ⟨ff, hff⟩ : ∃ ff : Int, (if n < 1 then 0 else D % n) = ff := ⟨_, rfl⟩
      rw [hff] at fa fb
      obtain ⟨ep, hep⟩ : ∃ ep : Nat, (if n < 1 then 0 else dd) = ep := ⟨_, rfl⟩
      rw [hep] at fa fb
      have hdl : dd ≤ 1 ∧ min (j + 1) l.length = j + dd := by rw [← hdd]; split <;> omega
      have hel : ep ≤ dd := by rw [← hep]; split <;> omega
      obtain ⟨m, hm⟩ : ∃ m : Nat, l.length - j = m := ⟨_, rfl⟩
      rw [hm] at fa fb
      obtain ⟨s1, hs1⟩ : ∃ s : Nat, a.length + j = s := ⟨_, rfl⟩
      obtain ⟨s2, hs2⟩ : ∃ s : Nat, b.length + j = s := ⟨_, rfl⟩
      rw [hs1] at fa p1
      rw [hs2] at fb r1
      obtain ⟨e1, he1⟩ : ∃ s : Nat, s1 + ep = s := ⟨_, rfl⟩
      obtain ⟨e2, he2⟩ : ∃ s : Nat, s2 + ep = s := ⟨_, rfl⟩
      obtain ⟨t1, ht1⟩ : ∃ s : Nat, s1 + dd = s := ⟨_, rfl⟩
      obtain ⟨t2, ht2⟩ : ∃ s : Nat, s2 + dd = s := ⟨_, rfl⟩
      rw [he1, ht1] at fa
      rw [he2, ht2] at fb
      obtain ⟨jn, hjn⟩ : ∃ s : Nat, j + 1 = s := ⟨_, rfl⟩
      have la : La.length ≤ 20000 := by rw [← ELa.out.1]; omega
      have lb : Lb.length ≤ 20000 := by rw [← ELb.out.1]; omega
      have KB1 := hide (fun A' c' y hy => below_any A' c' La (s1 : Int) n y la hy (by unfold I64; omega) HN.out)
      have KB2 := hide (fun A' c' y hy => below_any A' c' Lb (s2 : Int) n y lb hy (by unfold I64; omega) HN.out)
      have KN1 := hide (fun A' c' y hy => next_any A' c' La (s1 : Int) y la hy (by unfold I64; omega))
      have KN2 := hide (fun A' c' y hy => next_any A' c' Lb (s2 : Int) y lb hy (by unfold I64; omega))
      have KL1 := hide (fun A' c' y => left_any A' c' La (s1 : Int) y la)
      have KL2 := hide (fun A' c' y => left_any A' c' Lb (s2 : Int) y lb)
      rw [fa.2.2.1, fa.2.2.2.1] at KB1
      rw [fb.2.2.1, fb.2.2.2.1] at KB2
      rw [fa.1, fa.2.1] at KN1
      rw [fb.1, fb.2.1] at KN2
      rw [fa.2.2.2.2] at KL1
      rw [fb.2.2.2.2] at KL2
      have HF : Hid (jn ≤ l.length + 1 ∧ a.length + min jn l.length = t1 ∧ b.length + min jn l.length = t2 ∧ l.length + 1 - jn < l.length + 1 - j) := hide ⟨by omega, by omega, by omega, by omega⟩
      obtain ⟨hw1, hw2, hw3, hw3'⟩ : IntKind.i64.wrap ((e1 : Int) - (s1 : Int)) = (ep : Int) ∧ IntKind.i64.wrap ((e2 : Int) - (s2 : Int)) = (ep : Int) ∧ IntKind.i64.wrap ((j : Int) + 1) = (jn : Int) ∧ wrap64 ((j : Int) + 1) = (jn : Int) :=
        ⟨wrapI (by omega) (by omega) (by omega), wrapI (by omega) (by omega) (by omega), wrapI (by omega) (by omega) (by omega), wrapW (by omega) (by omega) (by omega)⟩
      have z9 : w3.heap.size < wr.heap.size := World.block_lt_of_cell? wr _ p0
      have z10 : w6.heap.size < wr.heap.size := World.block_lt_of_cell? wr _ r0
      clear hmin hdd fa fb hD hff hep hdl hel hm hs1 hs2 he1 he2 ht1 ht2 hjn la lb hj
      go_wp2_with fail
      refine (KB1.out _ _ _ S9.out).mono ?_
      rintro x w8 ⟨A13, c13, rfl, u13, y13, hb⟩
      clear y13
      replace f0 := frozen_keep hb z9 f0
      replace f1 := frozen_keep hb z9 f1
      replace k0 := frozen_keep hb z10 k0
      replace k1 := frozen_keep hb z10 k1
      replace z9 := Nat.lt_of_lt_of_le z9 hb.size
      replace z10 := Nat.lt_of_lt_of_le z10 hb.size
      replace p0 := cell_keep p0 hb
      replace p1 := cell_keep p1 hb
      replace r0 := cell_keep r0 hb
      replace r1 := cell_keep r1 hb
      replace S9 := hide (S9.out.later hb)
      replace S10 := hide (S10.out.later hb)
      replace hB := below_next hB hB.size hb
      clear hb
      clear u13
      have hb : Below w8.heap.size w8 (w8.alloc (.cells #[.slice A13 La.length c13, .int .i64 (e1 : Int)] 24)) := (Below.refl _ _).alloc (Nat.le_refl _) _
      have x130 : (w8.alloc (.cells #[.slice A13 La.length c13, .int .i64 (e1 : Int)] 24)).cell? ⟨w8.heap.size, 0, none⟩ = some (.slice A13 La.length c13) := by simp [go_sem]
      have x131 : (w8.alloc (.cells #[.slice A13 La.length c13, .int .i64 (e1 : Int)] 24)).cell? ⟨w8.heap.size, 1, none⟩ = some (.int .i64 (e1 : Int)) := by simp [go_sem]
      replace f0 := frozen_keep hb z9 f0
      replace f1 := frozen_keep hb z9 f1
      replace k0 := frozen_keep hb z10 k0
      replace k1 := frozen_keep hb z10 k1
      replace z9 := Nat.lt_of_lt_of_le z9 hb.size
      replace z10 := Nat.lt_of_lt_of_le z10 hb.size
      replace p0 := cell_keep p0 hb
      replace p1 := cell_keep p1 hb
      replace r0 := cell_keep r0 hb
      replace r1 := cell_keep r1 hb
      replace S9 := hide (S9.out.later hb)
      replace S10 := hide (S10.out.later hb)
      replace hB := below_next hB hB.size hb
      clear hb
      go_wp2_with fail
      refine (KB2.out _ _ _ S10.out).mono ?_
      rintro x w9 ⟨A15, c15, rfl, u15, y15, hb⟩
      clear y15
      replace f0 := frozen_keep hb z9 f0
      replace f1 := frozen_keep hb z9 f1
      replace k0 := frozen_keep hb z10 k0
      replace k1 := frozen_keep hb z10 k1
      replace z9 := Nat.lt_of_lt_of_le z9 hb.size
      replace z10 := Nat.lt_of_lt_of_le z10 hb.size
      replace p0 := cell_keep p0 hb
      replace p1 := cell_keep p1 hb
      replace r0 := cell_keep r0 hb
      replace r1 := cell_keep r1 hb
      replace x130 := cell_keep x130 hb
      replace x131 := cell_keep x131 hb
      replace S9 := hide (S9.out.later hb)
      replace S10 := hide (S10.out.later hb)
      replace hB := below_next hB hB.size hb
      clear hb
      clear u15
      have hb : Below w9.heap.size w9 (w9.alloc (.cells #[.slice A15 Lb.length c15, .int .i64 (e2 : Int)] 24)) := (Below.refl _ _).alloc (Nat.le_refl _) _
      have x150 : (w9.alloc (.cells #[.slice A15 Lb.length c15, .int .i64 (e2 : Int)] 24)).cell? ⟨w9.heap.size, 0, none⟩ = some (.slice A15 Lb.length c15) := by simp [go_sem]
      have x151 : (w9.alloc (.cells #[.slice A15 Lb.length c15, .int .i64 (e2 : Int)] 24)).cell? ⟨w9.heap.size, 1, none⟩ = some (.int .i64 (e2 : Int)) := by simp [go_sem]
      replace f0 := frozen_keep hb z9 f0
      replace f1 := frozen_keep hb z9 f1
      replace k0 := frozen_keep hb z10 k0
      replace k1 := frozen_keep hb z10 k1
      replace z9 := Nat.lt_of_lt_of_le z9 hb.size
      replace z10 := Nat.lt_of_lt_of_le z10 hb.size
      replace p0 := cell_keep p0 hb
      replace p1 := cell_keep p1 hb
      replace r0 := cell_keep r0 hb
      replace r1 := cell_keep r1 hb
      replace x130 := cell_keep x130 hb
      replace x131 := cell_keep x131 hb
      replace S9 := hide (S9.out.later hb)
      replace S10 := hide (S10.out.later hb)
      replace hB := below_next hB hB.size hb
      clear hb
      go_wp2_with fail
      refine (KN1.out _ _ _ S9.out).mono ?_
      rintro x w10 ⟨A17, c17, rfl, u17, y17, hb⟩
      have R17 := hide (show ∀ p, A17 = some p → p.block ≠ w3.heap.size ∧ p.block ≠ w6.heap.size from fun p hp => ⟨Ne.symm (Nat.ne_of_lt (Nat.lt_of_lt_of_le z9 (y17 p hp))), Ne.symm (Nat.ne_of_lt (Nat.lt_of_lt_of_le z10 (y17 p hp)))⟩)
      clear y17
      replace f0 := frozen_keep hb z9 f0
      replace f1 := frozen_keep hb z9 f1
      replace k0 := frozen_keep hb z10 k0
      replace k1 := frozen_keep hb z10 k1
      replace z9 := Nat.lt_of_lt_of_le z9 hb.size
      replace z10 := Nat.lt_of_lt_of_le z10 hb.size
      replace p0 := cell_keep p0 hb
      replace p1 := cell_keep p1 hb
      replace r0 := cell_keep r0 hb
      replace r1 := cell_keep r1 hb
      replace x130 := cell_keep x130 hb
      replace x131 := cell_keep x131 hb
      replace x150 := cell_keep x150 hb
      replace x151 := cell_keep x151 hb
      replace S9 := hide (S9.out.later hb)
      replace S10 := hide (S10.out.later hb)
      replace hB := below_next hB hB.size hb
      clear hb
      have S17 := hide u17
      clear u17
      have n17 : w3.heap.size ≠ w10.heap.size := Nat.ne_of_lt z9
      have m17 : w6.heap.size ≠ w10.heap.size := Nat.ne_of_lt z10
      have hb : Below w10.heap.size w10 (w10.alloc (.cells #[.slice A17 La.length c17, .int .i64 (t1 : Int)] 24)) := (Below.refl _ _).alloc (Nat.le_refl _) _
      have x170 : (w10.alloc (.cells #[.slice A17 La.length c17, .int .i64 (t1 : Int)] 24)).cell? ⟨w10.heap.size, 0, none⟩ = some (.slice A17 La.length c17) := by simp [go_sem]
      have x171 : (w10.alloc (.cells #[.slice A17 La.length c17, .int .i64 (t1 : Int)] 24)).cell? ⟨w10.heap.size, 1, none⟩ = some (.int .i64 (t1 : Int)) := by simp [go_sem]
      replace f0 := frozen_keep hb z9 f0
      replace f1 := frozen_keep hb z9 f1
      replace k0 := frozen_keep hb z10 k0
      replace k1 := frozen_keep hb z10 k1
      replace z9 := Nat.lt_of_lt_of_le z9 hb.size
      replace z10 := Nat.lt_of_lt_of_le z10 hb.size
      replace p0 := cell_keep p0 hb
      replace p1 := cell_keep p1 hb
      replace r0 := cell_keep r0 hb
      replace r1 := cell_keep r1 hb
      replace x130 := cell_keep x130 hb
      replace x131 := cell_keep x131 hb
      replace x150 := cell_keep x150 hb
      replace x151 := cell_keep x151 hb
      replace S9 := hide (S9.out.later hb)
      replace S10 := hide (S10.out.later hb)
      replace S17 := hide (S17.out.later hb)
      replace hB := below_next hB hB.size hb
      clear hb
      go_wp2_with fail
      refine (KN2.out _ _ _ S10.out).mono ?_
      rintro x w11 ⟨A19, c19, rfl, u19, y19, hb⟩
      have R19 := hide (show ∀ p, A19 = some p → p.block ≠ w3.heap.size ∧ p.block ≠ w6.heap.size from fun p hp => ⟨Ne.symm (Nat.ne_of_lt (Nat.lt_of_lt_of_le z9 (y19 p hp))), Ne.symm (Nat.ne_of_lt (Nat.lt_of_lt_of_le z10 (y19 p hp)))⟩)
      clear y19
      replace f0 := frozen_keep hb z9 f0
      replace f1 := frozen_keep hb z9 f1
      replace k0 := frozen_keep hb z10 k0
      replace k1 := frozen_keep hb z10 k1
      replace z9 := Nat.lt_of_lt_of_le z9 hb.size
      replace z10 := Nat.lt_of_lt_of_le z10 hb.size
      replace p0 := cell_keep p0 hb
      replace p1 := cell_keep p1 hb
      replace r0 := cell_keep r0 hb
      replace r1 := cell_keep r1 hb
      replace x130 := cell_keep x130 hb
      replace x131 := cell_keep x131 hb
      replace x150 := cell_keep x150 hb
      replace x151 := cell_keep x151 hb
      replace x170 := cell_keep x170 hb
      replace x171 := cell_keep x171 hb
      replace S9 := hide (S9.out.later hb)
      replace S10 := hide (S10.out.later hb)
      replace S17 := hide (S17.out.later hb)
      replace hB := below_next hB hB.size hb
      clear hb
      have S19 := hide u19
      clear u19
      have n19 : w3.heap.size ≠ w11.heap.size := Nat.ne_of_lt z9
      have m19 : w6.heap.size ≠ w11.heap.size := Nat.ne_of_lt z10
      have hb : Below w11.heap.size w11 (w11.alloc (.cells #[.slice A19 Lb.length c19, .int .i64 (t2 : Int)] 24)) := (Below.refl _ _).alloc (Nat.le_refl _) _
      have x190 : (w11.alloc (.cells #[.slice A19 Lb.length c19, .int .i64 (t2 : Int)] 24)).cell? ⟨w11.heap.size, 0, none⟩ = some (.slice A19 Lb.length c19) := by simp [go_sem]
      have x191 : (w11.alloc (.cells #[.slice A19 Lb.length c19, .int .i64 (t2 : Int)] 24)).cell? ⟨w11.heap.size, 1, none⟩ = some (.int .i64 (t2 : Int)) := by simp [go_sem]
      replace f0 := frozen_keep hb z9 f0
      replace f1 := frozen_keep hb z9 f1
      replace k0 := frozen_keep hb z10 k0
      replace k1 := frozen_keep hb z10 k1
      replace z9 := Nat.lt_of_lt_of_le z9 hb.size
      replace z10 := Nat.lt_of_lt_of_le z10 hb.size
      replace p0 := cell_keep p0 hb
      replace p1 := cell_keep p1 hb
      replace r0 := cell_keep r0 hb
      replace r1 := cell_keep r1 hb
      replace x130 := cell_keep x130 hb
      replace x131 := cell_keep x131 hb
      replace x150 := cell_keep x150 hb
      replace x151 := cell_keep x151 hb
      replace x170 := cell_keep x170 hb
      replace x171 := cell_keep x171 hb
      replace S9 := hide (S9.out.later hb)
      replace S10 := hide (S10.out.later hb)
      replace S17 := hide (S17.out.later hb)
      replace S19 := hide (S19.out.later hb)
      replace hB := below_next hB hB.size hb
      clear hb
      go_wp2_with fail
      generalize (w11.alloc (.cells #[.slice A19 Lb.length c19, .int .i64 (t2 : Int)] 24)) = wz at *
      replace f0 : wz.drew.frozen? ⟨w3.heap.size, 0, none⟩ = false := f0
      replace f1 : wz.drew.frozen? ⟨w3.heap.size, 1, none⟩ = false := f1
      replace k0 : wz.drew.frozen? ⟨w6.heap.size, 0, none⟩ = false := k0
      replace k1 : wz.drew.frozen? ⟨w6.heap.size, 1, none⟩ = false := k1
      replace z9 := Nat.lt_of_lt_of_le z9 (show wz.heap.size ≤ wz.drew.heap.size from Nat.le_refl _)
      replace z10 := Nat.lt_of_lt_of_le z10 (show wz.heap.size ≤ wz.drew.heap.size from Nat.le_refl _)
      replace p0 : wz.drew.cell? ⟨w3.heap.size, 0, none⟩ = some (.slice B1 La.length d1) := p0
      replace p1 : wz.drew.cell? ⟨w3.heap.size, 1, none⟩ = some (.int .i64 (s1 : Int)) := p1
      replace r0 : wz.drew.cell? ⟨w6.heap.size, 0, none⟩ = some (.slice B2 Lb.length d2) := r0
      replace r1 : wz.drew.cell? ⟨w6.heap.size, 1, none⟩ = some (.int .i64 (s2 : Int)) := r1
      replace x130 : wz.drew.cell? ⟨w8.heap.size, 0, none⟩ = some (.slice A13 La.length c13) := x130
      replace x131 : wz.drew.cell? ⟨w8.heap.size, 1, none⟩ = some (.int .i64 (e1 : Int)) := x131
      replace x150 : wz.drew.cell? ⟨w9.heap.size, 0, none⟩ = some (.slice A15 Lb.length c15) := x150
      replace x151 : wz.drew.cell? ⟨w9.heap.size, 1, none⟩ = some (.int .i64 (e2 : Int)) := x151
      replace x170 : wz.drew.cell? ⟨w10.heap.size, 0, none⟩ = some (.slice A17 La.length c17) := x170
      replace x171 : wz.drew.cell? ⟨w10.heap.size, 1, none⟩ = some (.int .i64 (t1 : Int)) := x171
      replace x190 : wz.drew.cell? ⟨w11.heap.size, 0, none⟩ = some (.slice A19 Lb.length c19) := x190
      replace x191 : wz.drew.cell? ⟨w11.heap.size, 1, none⟩ = some (.int .i64 (t2 : Int)) := x191
      replace S9 := hide (S9.out.later ((Below.refl _ _).drew))
      replace S10 := hide (S10.out.later ((Below.refl _ _).drew))
      replace S17 := hide (S17.out.later ((Below.refl _ _).drew))
      replace S19 := hide (S19.out.later ((Below.refl _ _).drew))
      replace hB := hB.drew
      go_region_held3 (fun w' => w'.cell? ⟨w3.heap.size, 0, none⟩ = some (.slice B1 La.length d1) ∧ w'.cell? ⟨w3.heap.size, 1, none⟩ = some (.int .i64 (s1 : Int)) ∧ w'.cell? ⟨w6.heap.size, 0, none⟩ = some (.slice B2 Lb.length d2) ∧ w'.cell? ⟨w6.heap.size, 1, none⟩ = some (.int .i64 (s2 : Int)) ∧ w'.cell? ⟨w8.heap.size, 0, none⟩ = some (.slice A13 La.length c13) ∧ w'.cell? ⟨w8.heap.size, 1, none⟩ = some (.int .i64 (e1 : Int)) ∧ w'.cell? ⟨w9.heap.size, 0, none⟩ = some (.slice A15 Lb.length c15) ∧ w'.cell? ⟨w9.heap.size, 1, none⟩ = some (.int .i64 (e2 : Int)) ∧ w'.cell? ⟨w10.heap.size, 0, none⟩ = some (.slice A17 La.length c17) ∧ w'.cell? ⟨w10.heap.size, 1, none⟩ = some (.int .i64 (t1 : Int)) ∧ w'.cell? ⟨w11.heap.size, 0, none⟩ = some (.slice A19 Lb.length c19) ∧ w'.cell? ⟨w11.heap.size, 1, none⟩ = some (.int .i64 (t2 : Int)))
        (exact ⟨p0, p1, r0, r1, x130, x131, x150, x151, x170, x171, x190, x191⟩)
        (first
          | (go_at_call_of 16 B1; refine (KL1.out _ _ _).mono ?_; rintro x vv ⟨rfl, hv⟩; replace f0 := frozen_keep hv z9 f0; replace f1 := frozen_keep hv z9 f1; replace k0 := frozen_keep hv z10 k0; replace k1 := frozen_keep hv z10 k1; replace z9 := Nat.lt_of_lt_of_le z9 hv.size; replace z10 := Nat.lt_of_lt_of_le z10 hv.size; replace p0 := cell_keep p0 hv; replace p1 := cell_keep p1 hv; replace r0 := cell_keep r0 hv; replace r1 := cell_keep r1 hv; replace x130 := cell_keep x130 hv; replace x131 := cell_keep x131 hv; replace x150 := cell_keep x150 hv; replace x151 := cell_keep x151 hv; replace x170 := cell_keep x170 hv; replace x171 := cell_keep x171 hv; replace x190 := cell_keep x190 hv; replace x191 := cell_keep x191 hv; replace S9 := hide (S9.out.later hv); replace S10 := hide (S10.out.later hv); replace S17 := hide (S17.out.later hv); replace S19 := hide (S19.out.later hv); replace hB := below_next hB hB.size hv; clear hv)
          | (go_at_call_of 16 B2; refine (KL2.out _ _ _).mono ?_; rintro x vv ⟨rfl, hv⟩; replace f0 := frozen_keep hv z9 f0; replace f1 := frozen_keep hv z9 f1; replace k0 := frozen_keep hv z10 k0; replace k1 := frozen_keep hv z10 k1; replace z9 := Nat.lt_of_lt_of_le z9 hv.size; replace z10 := Nat.lt_of_lt_of_le z10 hv.size; replace p0 := cell_keep p0 hv; replace p1 := cell_keep p1 hv; replace r0 := cell_keep r0 hv; replace r1 := cell_keep r1 hv; replace x130 := cell_keep x130 hv; replace x131 := cell_keep x131 hv; replace x150 := cell_keep x150 hv; replace x151 := cell_keep x151 hv; replace x170 := cell_keep x170 hv; replace x171 := cell_keep x171 hv; replace x190 := cell_keep x190 hv; replace x191 := cell_keep x191 hv; replace S9 := hide (S9.out.later hv); replace S10 := hide (S10.out.later hv); replace S17 := hide (S17.out.later hv); replace S19 := hide (S19.out.later hv); replace hB := below_next hB hB.size hv; clear hv))
      have n910 : w3.heap.size ≠ w6.heap.size := Nat.ne_of_lt z6
      have n109 : w6.heap.size ≠ w3.heap.size := Ne.symm n910
      clear x130 x131 x150 x151 KB1 KB2 KN1 KN2 KL1 KL2
      go_wp2
      refine ⟨⟨jn, A17, A19, c17, c19, rfl, HF.out.1, ?_, ?_, ?_, ?_, ?_, ?_, ?_, ?_, ?_, ?_, ?_⟩, by simpa [intOf] using HF.out.2.2.2⟩
      · simp [go_sem, p0]
      · rw [HF.out.2.1]; simp [go_sem, p1]
      · simp [go_sem, r0]
      · rw [HF.out.2.2.1]; simp [go_sem, r1]
      · simp [f0]
      · simp [f1]
      · simp [k0]
      · simp [k1]
      · exact ((((S17.out.far _ 0 _ (fun p hp => (R17.out p hp).1)).far _ 1 _ (fun p hp => (R17.out p hp).1)).far _ 0 _ (fun p hp => (R17.out p hp).2)).far _ 1 _ (fun p hp => (R17.out p hp).2)).up (by simp)
      · exact ((((S19.out.far _ 0 _ (fun p hp => (R19.out p hp).1)).far _ 1 _ (fun p hp => (R19.out p hp).1)).far _ 0 _ (fun p hp => (R19.out p hp).2)).far _ 1 _ (fun p hp => (R19.out p hp).2)).up (by simp)
      · exact (((hB.setCell hw9 _).setCell hw9 _).setCell hw10 _).setCell hw10 _
    · go_wp2
      go_ret
      exact ⟨rfl, hB⟩
end Go.Proofs.Ytneidedipgchiaa
