/- What the law of layer 9 shows first. -/
import Derived.Test.YtlmkbfbiohocpaaScI
import Derived.Lib.QuietBelow
import Derived.Deep.QuietTactic
import Derived.BigQuiet
namespace Go.Proofs.Ytlmkbfbiohocpaa
open Go.RowKit Go.Sort

/-- 'append' onto a slice without room: a new row; what was there stays. -/
theorem step_append_full {P : Program} (w : World) {ops : Array Oper} {o : Oper} {a : Act} {K : Act → World → Prop} {Q : Exit → Act → World → Prop} {E : Prop} (hgd : o.guard = none) (s x : Operand) (t : TypeId)
    (ho : o.op = .call { callee := .builtin .append, args := #[s, x], argTypes := #[t, t] })
    (e : TypeId) (i : TypeInfo) (z : Value) (size bytes : Nat) (ht : P.underlying t = some (.slice e)) (hi : P.info? e = some i) (hz : i.zero = some z) (hsize : i.size = size) (hby : i.bytes = bytes)
    (b : Addr) (n cap : Nat) (xs : List Value) (hs : a.eval s = .slice (some b) n cap) (hlo : xs.length = n * size) (holds : ∀ j u, xs[j]? = some u → w.cell? (b.add j) = some u)
    (ad : Addr) (m c : Nat) (news : List Value) (hx : a.eval x = .slice (some ad) m c) (hl : news.length = m * size) (hnews : ∀ j u, news[j]? = some u → w.cell? (ad.add j) = some u)
    (hfull : cap < n + m) (h63 : n + m ≤ maxLen) (hbytes : (n + m) * bytes ≤ 140737488355328) (H : Nat) (hH : w.heap.size = H)
    (h : ∀ c' w', n + m ≤ c' → Sees w' w'.heap.size size (some ⟨H, 0, none⟩) (n + m) (xs ++ news) → Below w.heap.size w w' → K (a.put o.dst (.slice (some ⟨H, 0, none⟩) (n + m) c')) w') :
    if Region.wanted o (yielded ops a.tmps) = true then Oper.wp P o a w K Q else E := by
  subst hsize
  subst hby
  subst hH
  have hw : Region.wanted o (yielded ops a.tmps) = true := by simp [Region.wanted, hgd]
  rw [if_pos hw]
  have hsmall : ((n + m : Nat) : Int) ≤ 9223372036854775807 := by simp only [maxLen] at h63; omega
  have hr := run_append_grow (P := P) w t o.type e i z ht hi hz b n cap xs hlo holds ad m c news hl hnews hfull hsmall (growslice_fits hfull hbytes)
  unfold Oper.wp execOp
  simp only [ho, resolve, invoke, builtin, Sem.run_bind, Sem.run_pure, Result.andThen_ok, List.map_toArray, List.map_cons, List.map_nil, hs, hx, hr]
  refine h _ _ (grownCap_ge w (n + m) cap e) ⟨by rw [List.length_append, hlo, hl, Nat.add_mul], fun _ => ⟨w.heap.size, 0, rfl, by simp, fun j u hu => ?_⟩⟩ (((Below.refl _ w).drew).alloc (Nat.le_refl _) _)
  have h2 := cell_of_row _ w.heap.size j _ e (0, 0) (heap_alloc_new w.drew (.cells (xs.toArray ++ news.toArray ++ Builtin.zeroCells z.cells (grownCap w (n + m) cap e - (n + m))) e))
  rw [Nat.zero_add]
  refine h2.trans ?_
  have hj : j < (xs ++ news).length := (List.getElem?_eq_some_iff.1 hu).1
  rw [Array.getElem?_append_left (by simpa using hj), List.append_toArray]
  simpa using hu

/-- Two entries of the program compared. -/
theorem eql_yes (k t i g v : Int) (u : World) : (binOp .eql 38 (.agg #[.int .i64 k, .int .i64 t, .int .i64 i, .int .i64 g, .int .i64 v]) (.agg #[.int .i64 k, .int .i64 t, .int .i64 i, .int .i64 g, .int .i64 v])).run Try.prog u = .ok (.bool true) u := by
  simp [go_sem]

theorem show_enc : encL [(1, 1, 0, 1, -2), (2, 1, 0, 0, 0), (3, 0, 0, 0, 0)] = [1, 1, 0, 1, 255, 255, 255, 255, 255, 255, 255, 254, 2, 1, 3] := by decide +kernel
theorem show_dec : decG (encL [(1, 1, 0, 1, -2), (2, 1, 0, 0, 0), (3, 0, 0, 0, 0)]) 0 [] = ([(1, 1, 0, 1, -2), (2, 1, 0, 0, 0), (3, 0, 0, 0, 0)], 0, 0) := by
  have := dec_enc (l := [(1, 1, 0, 1, -2), (2, 1, 0, 0, 0), (3, 0, 0, 0, 0)]) (by intro e he; unfold Kind9; simp at he; rcases he with rfl | rfl | rfl <;> decide) (by intro e he; unfold Ok5 I64; simp at he; rcases he with rfl | rfl | rfl <;> simp)
  rw [this]
  decide
theorem show_all : alV (ckV 2 1 1 0 0 1 0 0 false 0 0 0) 2 1 false [(1, 1, 0, 1, -2), (2, 1, 0, 0, 0), (3, 0, 0, 0, 0), (2, 2, 0, 0, 0)] = (3, 91) := by decide +kernel
theorem show_check : chV 2 1 false (1, 1, 0, 1, -2) = 0 := by decide +kernel

set_option maxRecDepth 100000 in
set_option maxHeartbeats 4000000 in
theorem shown9_any (w : World) : Calls Try.prog 9 #[] w (BoolPost true w) := by
  obtain ⟨i0, hi0, hz0, hz1, hz2⟩ := info_parts info38
  have hB : Below w.heap.size w ((w.alloc (.cells #[.int .i64 2, .int .i64 1, .int .i64 1, .int .i64 0, .int .i64 0, .int .i64 1, .int .i64 0, .int .i64 0, .bool false, .int .i64 0, .int .i64 0, .int .i64 0] 23)).alloc (.cells #[.int .i64 1, .int .i64 1, .int .i64 0, .int .i64 1, .int .i64 (-2), .int .i64 2, .int .i64 1, .int .i64 0, .int .i64 0, .int .i64 0, .int .i64 3, .int .i64 0, .int .i64 0, .int .i64 0, .int .i64 0] 38)) := ((Below.refl _ w).alloc (Nat.le_refl _) _).alloc (by simp) _
  have Q : ((w.alloc (.cells #[.int .i64 2, .int .i64 1, .int .i64 1, .int .i64 0, .int .i64 0, .int .i64 1, .int .i64 0, .int .i64 0, .bool false, .int .i64 0, .int .i64 0, .int .i64 0] 23)).alloc (.cells #[.int .i64 1, .int .i64 1, .int .i64 0, .int .i64 1, .int .i64 (-2), .int .i64 2, .int .i64 1, .int .i64 0, .int .i64 0, .int .i64 0, .int .i64 3, .int .i64 0, .int .i64 0, .int .i64 0, .int .i64 0] 38)).cell? ⟨w.heap.size, 0, none⟩ = some (.int .i64 2) ∧ ((w.alloc (.cells #[.int .i64 2, .int .i64 1, .int .i64 1, .int .i64 0, .int .i64 0, .int .i64 1, .int .i64 0, .int .i64 0, .bool false, .int .i64 0, .int .i64 0, .int .i64 0] 23)).alloc (.cells #[.int .i64 1, .int .i64 1, .int .i64 0, .int .i64 1, .int .i64 (-2), .int .i64 2, .int .i64 1, .int .i64 0, .int .i64 0, .int .i64 0, .int .i64 3, .int .i64 0, .int .i64 0, .int .i64 0, .int .i64 0] 38)).cell? ⟨w.heap.size, 1, none⟩ = some (.int .i64 1) ∧ ((w.alloc (.cells #[.int .i64 2, .int .i64 1, .int .i64 1, .int .i64 0, .int .i64 0, .int .i64 1, .int .i64 0, .int .i64 0, .bool false, .int .i64 0, .int .i64 0, .int .i64 0] 23)).alloc (.cells #[.int .i64 1, .int .i64 1, .int .i64 0, .int .i64 1, .int .i64 (-2), .int .i64 2, .int .i64 1, .int .i64 0, .int .i64 0, .int .i64 0, .int .i64 3, .int .i64 0, .int .i64 0, .int .i64 0, .int .i64 0] 38)).cell? ⟨w.heap.size, 2, none⟩ = some (.int .i64 1) ∧ ((w.alloc (.cells #[.int .i64 2, .int .i64 1, .int .i64 1, .int .i64 0, .int .i64 0, .int .i64 1, .int .i64 0, .int .i64 0, .bool false, .int .i64 0, .int .i64 0, .int .i64 0] 23)).alloc (.cells #[.int .i64 1, .int .i64 1, .int .i64 0, .int .i64 1, .int .i64 (-2), .int .i64 2, .int .i64 1, .int .i64 0, .int .i64 0, .int .i64 0, .int .i64 3, .int .i64 0, .int .i64 0, .int .i64 0, .int .i64 0] 38)).cell? ⟨w.heap.size, 3, none⟩ = some (.int .i64 0) ∧ ((w.alloc (.cells #[.int .i64 2, .int .i64 1, .int .i64 1, .int .i64 0, .int .i64 0, .int .i64 1, .int .i64 0, .int .i64 0, .bool false, .int .i64 0, .int .i64 0, .int .i64 0] 23)).alloc (.cells #[.int .i64 1, .int .i64 1, .int .i64 0, .int .i64 1, .int .i64 (-2), .int .i64 2, .int .i64 1, .int .i64 0, .int .i64 0, .int .i64 0, .int .i64 3, .int .i64 0, .int .i64 0, .int .i64 0, .int .i64 0] 38)).cell? ⟨w.heap.size, 4, none⟩ = some (.int .i64 0) ∧ ((w.alloc (.cells #[.int .i64 2, .int .i64 1, .int .i64 1, .int .i64 0, .int .i64 0, .int .i64 1, .int .i64 0, .int .i64 0, .bool false, .int .i64 0, .int .i64 0, .int .i64 0] 23)).alloc (.cells #[.int .i64 1, .int .i64 1, .int .i64 0, .int .i64 1, .int .i64 (-2), .int .i64 2, .int .i64 1, .int .i64 0, .int .i64 0, .int .i64 0, .int .i64 3, .int .i64 0, .int .i64 0, .int .i64 0, .int .i64 0] 38)).cell? ⟨w.heap.size, 5, none⟩ = some (.int .i64 1) ∧ ((w.alloc (.cells #[.int .i64 2, .int .i64 1, .int .i64 1, .int .i64 0, .int .i64 0, .int .i64 1, .int .i64 0, .int .i64 0, .bool false, .int .i64 0, .int .i64 0, .int .i64 0] 23)).alloc (.cells #[.int .i64 1, .int .i64 1, .int .i64 0, .int .i64 1, .int .i64 (-2), .int .i64 2, .int .i64 1, .int .i64 0, .int .i64 0, .int .i64 0, .int .i64 3, .int .i64 0, .int .i64 0, .int .i64 0, .int .i64 0] 38)).cell? ⟨w.heap.size, 6, none⟩ = some (.int .i64 0) ∧ ((w.alloc (.cells #[.int .i64 2, .int .i64 1, .int .i64 1, .int .i64 0, .int .i64 0, .int .i64 1, .int .i64 0, .int .i64 0, .bool false, .int .i64 0, .int .i64 0, .int .i64 0] 23)).alloc (.cells #[.int .i64 1, .int .i64 1, .int .i64 0, .int .i64 1, .int .i64 (-2), .int .i64 2, .int .i64 1, .int .i64 0, .int .i64 0, .int .i64 0, .int .i64 3, .int .i64 0, .int .i64 0, .int .i64 0, .int .i64 0] 38)).cell? ⟨w.heap.size, 7, none⟩ = some (.int .i64 0) ∧ ((w.alloc (.cells #[.int .i64 2, .int .i64 1, .int .i64 1, .int .i64 0, .int .i64 0, .int .i64 1, .int .i64 0, .int .i64 0, .bool false, .int .i64 0, .int .i64 0, .int .i64 0] 23)).alloc (.cells #[.int .i64 1, .int .i64 1, .int .i64 0, .int .i64 1, .int .i64 (-2), .int .i64 2, .int .i64 1, .int .i64 0, .int .i64 0, .int .i64 0, .int .i64 3, .int .i64 0, .int .i64 0, .int .i64 0, .int .i64 0] 38)).cell? ⟨w.heap.size, 8, none⟩ = some (.bool false) ∧ ((w.alloc (.cells #[.int .i64 2, .int .i64 1, .int .i64 1, .int .i64 0, .int .i64 0, .int .i64 1, .int .i64 0, .int .i64 0, .bool false, .int .i64 0, .int .i64 0, .int .i64 0] 23)).alloc (.cells #[.int .i64 1, .int .i64 1, .int .i64 0, .int .i64 1, .int .i64 (-2), .int .i64 2, .int .i64 1, .int .i64 0, .int .i64 0, .int .i64 0, .int .i64 3, .int .i64 0, .int .i64 0, .int .i64 0, .int .i64 0] 38)).cell? ⟨w.heap.size, 9, none⟩ = some (.int .i64 0) ∧ ((w.alloc (.cells #[.int .i64 2, .int .i64 1, .int .i64 1, .int .i64 0, .int .i64 0, .int .i64 1, .int .i64 0, .int .i64 0, .bool false, .int .i64 0, .int .i64 0, .int .i64 0] 23)).alloc (.cells #[.int .i64 1, .int .i64 1, .int .i64 0, .int .i64 1, .int .i64 (-2), .int .i64 2, .int .i64 1, .int .i64 0, .int .i64 0, .int .i64 0, .int .i64 3, .int .i64 0, .int .i64 0, .int .i64 0, .int .i64 0] 38)).cell? ⟨w.heap.size, 10, none⟩ = some (.int .i64 0) ∧ ((w.alloc (.cells #[.int .i64 2, .int .i64 1, .int .i64 1, .int .i64 0, .int .i64 0, .int .i64 1, .int .i64 0, .int .i64 0, .bool false, .int .i64 0, .int .i64 0, .int .i64 0] 23)).alloc (.cells #[.int .i64 1, .int .i64 1, .int .i64 0, .int .i64 1, .int .i64 (-2), .int .i64 2, .int .i64 1, .int .i64 0, .int .i64 0, .int .i64 0, .int .i64 3, .int .i64 0, .int .i64 0, .int .i64 0, .int .i64 0] 38)).cell? ⟨w.heap.size, 11, none⟩ = some (.int .i64 0) := by simp [go_sem]
  have hS : Sees ((w.alloc (.cells #[.int .i64 2, .int .i64 1, .int .i64 1, .int .i64 0, .int .i64 0, .int .i64 1, .int .i64 0, .int .i64 0, .bool false, .int .i64 0, .int .i64 0, .int .i64 0] 23)).alloc (.cells #[.int .i64 1, .int .i64 1, .int .i64 0, .int .i64 1, .int .i64 (-2), .int .i64 2, .int .i64 1, .int .i64 0, .int .i64 0, .int .i64 0, .int .i64 3, .int .i64 0, .int .i64 0, .int .i64 0, .int .i64 0] 38)) ((w.alloc (.cells #[.int .i64 2, .int .i64 1, .int .i64 1, .int .i64 0, .int .i64 0, .int .i64 1, .int .i64 0, .int .i64 0, .bool false, .int .i64 0, .int .i64 0, .int .i64 0] 23)).alloc (.cells #[.int .i64 1, .int .i64 1, .int .i64 0, .int .i64 1, .int .i64 (-2), .int .i64 2, .int .i64 1, .int .i64 0, .int .i64 0, .int .i64 0, .int .i64 3, .int .i64 0, .int .i64 0, .int .i64 0, .int .i64 0] 38)).heap.size 5 (some ⟨w.heap.size + 1, 0, none⟩) 3 (ec5 [(1, 1, 0, 1, -2), (2, 1, 0, 0, 0), (3, 0, 0, 0, 0)]) := sees_at _ [.int .i64 1, .int .i64 1, .int .i64 0, .int .i64 1, .int .i64 (-2), .int .i64 2, .int .i64 1, .int .i64 0, .int .i64 0, .int .i64 0, .int .i64 3, .int .i64 0, .int .i64 0, .int .i64 0, .int .i64 0] 38 5 3 (w.heap.size + 1) (by simp) rfl
  have K1 := hide (enc_any (some ⟨w.heap.size + 1, 0, none⟩) 3 [(1, 1, 0, 1, -2), (2, 1, 0, 0, 0), (3, 0, 0, 0, 0)] 3 rfl (by omega) _ hS)
  have hst : nums (strOfNums (encL [(1, 1, 0, 1, -2), (2, 1, 0, 0, 0), (3, 0, 0, 0, 0)])) = encL [(1, 1, 0, 1, -2), (2, 1, 0, 0, 0), (3, 0, 0, 0, 0)] := nums_str (encL_bytes _)
  have hsz : (strOfNums (encL [(1, 1, 0, 1, -2), (2, 1, 0, 0, 0), (3, 0, 0, 0, 0)])).size = 15 := by rw [← nums_length, hst, show_enc]; rfl
  have hls : ((strOfNums (encL [(1, 1, 0, 1, -2), (2, 1, 0, 0, 0), (3, 0, 0, 0, 0)])).toList == [1, 1, 0, 1, 255, 255, 255, 255, 255, 255, 255, 254, 2, 1, 3]) = true := by rw [show_enc]; decide +kernel
  obtain ⟨st, est⟩ : ∃ st, strOfNums (encL [(1, 1, 0, 1, -2), (2, 1, 0, 0, 0), (3, 0, 0, 0, 0)]) = st := ⟨_, rfl⟩
  rw [est] at K1 hst hsz hls
  have K2 := hide (fun w => dec_any st (by rw [hsz]; omega) w)
  rw [hst, show_dec] at K2
  have KA : Hid (∀ (A : Option Addr) (cap : Nat) (w : World), Sees w w.heap.size 5 A 4 (ec5 [(1, 1, 0, 1, -2), (2, 1, 0, 0, 0), (3, 0, 0, 0, 0), (2, 2, 0, 0, 0)]) → Calls Try.prog 11 #[.agg #[.int .i64 2, .int .i64 1, .int .i64 1, .int .i64 0, .int .i64 0, .int .i64 1, .int .i64 0, .int .i64 0, .bool false, .int .i64 0, .int .i64 0, .int .i64 0], .slice A 4 cap] w (IEPost 3 91 w)) := fun A cap w hs => by
    have := all9_any 2 1 1 0 0 1 0 0 false 0 0 0 A cap [(1, 1, 0, 1, -2), (2, 1, 0, 0, 0), (3, 0, 0, 0, 0), (2, 2, 0, 0, 0)] 4 rfl (by omega) w hs
    rw [show_all] at this
    exact this
  have KC := hide (check9_any 2 1 1 0 0 1 0 0 false 0 0 0 1 1 0 1 (-2))
  rw [show_check] at KC
  clear est hst hsz
  go_enter Try.func9, Try.ntmps9
  go_wp2_with fail
  refine K1.out.mono ?_
  rintro x w1 ⟨rfl, hb⟩
  replace Q := keep12 Q hb
  replace hS := hS.later hb
  replace hB := below_next hB hB.size hb
  clear hb K1
  go_wp2_with fail
  refine (K2.out _).mono ?_
  rintro x w2 ⟨M, cm, rfl, hcm, hM, hb⟩
  replace Q := keep12 Q hb
  replace hS := hS.later hb
  replace hB := below_next hB hB.size hb
  clear hb K2
  obtain ⟨gl, fl, e1, lt1, cl⟩ := hS.2 (by omega)
  simp only [Option.some.injEq, Addr.mk.injEq, and_true] at e1
  obtain ⟨rfl, rfl⟩ := e1
  have hZ : Below w2.heap.size w2 w2 := Below.refl _ _
  have Q0 := hide Q
  have CL := hide cl
  clear cl
  replace Q : w2.drew.cell? ⟨w.heap.size, 0, none⟩ = some (.int .i64 2) ∧ w2.drew.cell? ⟨w.heap.size, 1, none⟩ = some (.int .i64 1) ∧ w2.drew.cell? ⟨w.heap.size, 2, none⟩ = some (.int .i64 1) ∧ w2.drew.cell? ⟨w.heap.size, 3, none⟩ = some (.int .i64 0) ∧ w2.drew.cell? ⟨w.heap.size, 4, none⟩ = some (.int .i64 0) ∧ w2.drew.cell? ⟨w.heap.size, 5, none⟩ = some (.int .i64 1) ∧ w2.drew.cell? ⟨w.heap.size, 6, none⟩ = some (.int .i64 0) ∧ w2.drew.cell? ⟨w.heap.size, 7, none⟩ = some (.int .i64 0) ∧ w2.drew.cell? ⟨w.heap.size, 8, none⟩ = some (.bool false) ∧ w2.drew.cell? ⟨w.heap.size, 9, none⟩ = some (.int .i64 0) ∧ w2.drew.cell? ⟨w.heap.size, 10, none⟩ = some (.int .i64 0) ∧ w2.drew.cell? ⟨w.heap.size, 11, none⟩ = some (.int .i64 0) := Q
  go_wp2_with fail
  go_region_held3 (fun w' => w'.cell? ⟨w.heap.size, 0, none⟩ = some (.int .i64 2) ∧ w'.cell? ⟨w.heap.size, 1, none⟩ = some (.int .i64 1) ∧ w'.cell? ⟨w.heap.size, 2, none⟩ = some (.int .i64 1) ∧ w'.cell? ⟨w.heap.size, 3, none⟩ = some (.int .i64 0) ∧ w'.cell? ⟨w.heap.size, 4, none⟩ = some (.int .i64 0) ∧ w'.cell? ⟨w.heap.size, 5, none⟩ = some (.int .i64 1) ∧ w'.cell? ⟨w.heap.size, 6, none⟩ = some (.int .i64 0) ∧ w'.cell? ⟨w.heap.size, 7, none⟩ = some (.int .i64 0) ∧ w'.cell? ⟨w.heap.size, 8, none⟩ = some (.bool false) ∧ w'.cell? ⟨w.heap.size, 9, none⟩ = some (.int .i64 0) ∧ w'.cell? ⟨w.heap.size, 10, none⟩ = some (.int .i64 0) ∧ w'.cell? ⟨w.heap.size, 11, none⟩ = some (.int .i64 0))
    (first | exact Q | exact keep12 Q0.out (((Below.refl _ _).alloc (Nat.le_refl _) _).drew))
    (first
      | (refine step_append_full _ (by rfl) _ _ _ (by rfl) 38 i0 _ 5 40 Try.underlying24 hi0 hz0 hz1 hz2 ⟨w.heap.size + 1, 0, none⟩ 3 3 (ec5 [(1, 1, 0, 1, -2), (2, 1, 0, 0, 0), (3, 0, 0, 0, 0)]) (by rfl) (by rfl) (fun j u hj => by rw [addr_add]; exact cell_keep (w := w2) (CL.out j u hj) (((Below.refl _ _).alloc (Nat.le_refl _) _).drew)) ⟨w2.heap.size, 0, none⟩ 1 1 (ec5 [(2, 2, 0, 0, 0)]) (by rfl) (by rfl) (World.news_of_block (cs := #[.int .i64 2, .int .i64 2, .int .i64 0, .int .i64 0, .int .i64 0]) (t := 38) (fr := (0, 0)) (heap_alloc_new w2 _)) (by omega) (by unfold maxLen; omega) (by omega) (w2.heap.size + 1) (by simp) ?_; intro c3 w3 hc3 hs3 hb3; replace hZ : Below w2.heap.size w2 w3 := below_next (((Below.refl _ _).alloc (Nat.le_refl _) _).drew) (by simp) hb3; replace Q := keep12 Q0.out hZ)
      | (go_at_call 11; refine (KA.out _ _ w3 hs3).mono ?_; rintro x w4 ⟨rfl, hb4⟩; replace hZ := below_next hZ hZ.size hb4; replace Q := keep12 Q hb4))
  obtain ⟨q0, q1, q2, q3, q4, q5, q6, q7, q8, q9, q10, q11⟩ := Q
  obtain ⟨gm, fm, rfl, ltm, cc⟩ := hM.2 (by simp)
  have m0 : w4.cell? ⟨gm, fm, none⟩ = some (.int .i64 1) := cell_keep (cc 0 _ rfl) hZ
  have m1 : w4.cell? ⟨gm, fm + 1, none⟩ = some (.int .i64 1) := cell_keep (cc 1 _ rfl) hZ
  have m2 : w4.cell? ⟨gm, fm + 2, none⟩ = some (.int .i64 0) := cell_keep (cc 2 _ rfl) hZ
  have m3 : w4.cell? ⟨gm, fm + 3, none⟩ = some (.int .i64 1) := cell_keep (cc 3 _ rfl) hZ
  have m4 : w4.cell? ⟨gm, fm + 4, none⟩ = some (.int .i64 (-2)) := cell_keep (cc 4 _ rfl) hZ
  have l0 : w4.cell? ⟨w.heap.size + 1, 0, none⟩ = some (.int .i64 1) := (by have := CL.out 0 _ rfl; rw [Nat.zero_add] at this; exact cell_keep this hZ)
  have l1 : w4.cell? ⟨w.heap.size + 1, 1, none⟩ = some (.int .i64 1) := (by have := CL.out 1 _ rfl; rw [Nat.zero_add] at this; exact cell_keep this hZ)
  have l2 : w4.cell? ⟨w.heap.size + 1, 2, none⟩ = some (.int .i64 0) := (by have := CL.out 2 _ rfl; rw [Nat.zero_add] at this; exact cell_keep this hZ)
  have l3 : w4.cell? ⟨w.heap.size + 1, 3, none⟩ = some (.int .i64 1) := (by have := CL.out 3 _ rfl; rw [Nat.zero_add] at this; exact cell_keep this hZ)
  have l4 : w4.cell? ⟨w.heap.size + 1, 4, none⟩ = some (.int .i64 (-2)) := (by have := CL.out 4 _ rfl; rw [Nat.zero_add] at this; exact cell_keep this hZ)
  have hB4 := hide (hB.trans (hZ.mono hB.size))
  have Q1 := hide (fun d os => Calls.regrown_of (w := w4) (KC.out (grow (redrawn w4 d) os)))
  have heq := eql_yes 1 1 0 1 (-2)
  clear hM cc CL hZ hB hS Q0 KA KC hi0 hz0 hz1 hz2 hs3 hb3 hb4 hc3
  have q0 := cell_regrown q0
  have q1 := cell_regrown q1
  have q2 := cell_regrown q2
  have q3 := cell_regrown q3
  have q4 := cell_regrown q4
  have q5 := cell_regrown q5
  have q6 := cell_regrown q6
  have q7 := cell_regrown q7
  have q8 := cell_regrown q8
  have q9 := cell_regrown q9
  have q10 := cell_regrown q10
  have q11 := cell_regrown q11
  have m0 := cell_regrown m0
  have m1 := cell_regrown m1
  have m2 := cell_regrown m2
  have m3 := cell_regrown m3
  have m4 := cell_regrown m4
  have l0 := cell_regrown l0
  have l1 := cell_regrown l1
  have l2 := cell_regrown l2
  have l3 := cell_regrown l3
  have l4 := cell_regrown l4
  go_wp2_with fail
  refine wp_region_quiet_below (by kernel_rfl) (by kernel_rfl) ?_
  repeat (go_big_quiet_step ((go_at_call 14; exact Q1.out _ _)))
  refine wpQuiet_nil ?_
  intro _ hw'
  obtain ⟨⟨dq, osq⟩, hw''⟩ := hw'
  subst hw''
  go_wp2
  go_ret
  exact ⟨rfl, hB4.out.trans ((below_regrown w4 dq osq).mono hB4.out.size)⟩
end Go.Proofs.Ytlmkbfbiohocpaa
