/- The contracts of adopt, Take. -/
import Derived.Test.YtjghdbkkjhnpfaaGaB
import Derived.Test.YtjghdbkkjhnpfaaGaA
import Derived.Test.YtjghdbkkjhnpfaaTnZ
import Derived.Test.YtjghdbkkjhnpfaaM1
import Derived.Test.YtjghdbkkjhnpfaaM2
import Derived.Test.YtjghdbkkjhnpfaaM4
import Derived.Lib.QuietBelow
import Derived.Deep.QuietTactic
import Derived.BigQuiet
namespace Go.Proofs.Ytjghdbkkjhnpfaa
open Go.RowKit Go.Sort
set_option linter.unusedVariables false
set_option linter.unusedSimpArgs false

/-- A thread to which a batch was left: its kids, its batch lie in new rows. -/
def AdPost (d : Dt) (who : Int) (b : List E3) (p : Ad) (w : World) (e : Ending) (w' : World) : Prop := ∃ K kc B bc, e = .returned (.agg (thc ({ d with kl := d.kl ++ [(who, (d.bl.length : Int))], bl := d.bl ++ b } : Dt) { p with kA := K, kc := kc, bA := B, bc := bc }).toArray) ∧ Sees w' w'.heap.size 2 K (d.kl ++ [(who, (d.bl.length : Int))]).length (kcells (d.kl ++ [(who, (d.bl.length : Int))])) ∧ Fresh w K ∧ Sees w' w'.heap.size 3 B (d.bl ++ b).length (ecells (d.bl ++ b)) ∧ Fresh w B ∧ Below w.heap.size w w'
attribute [local irreducible] tcs thc ccs zT
attribute [local go_sem ↓] alTn_is alRn_is
attribute [local go_sem] run_alTnf run_alTnt run_alRnf run_alRnt zT_length
attribute [local go_sem ↓] lbTn_is lbRn_is lbTh_is lbRh_is lbCf_is lbRc_is sbTn_is sbRn_is sbTh_is sbRh_is sbCf_is sbRc_is
attribute [local go_sem] run_lbTn run_lbRn run_lbTh run_lbRh run_lbCf run_lbRc run_sbTn run_sbRn run_sbTh run_sbRh run_sbCf run_sbRc
attribute [local go_sem 2000] boxOf_old'
attribute [local go_sem] boxOf_at' boxOf_free' boxOf_alloc objBox_cells objBox_cellsA boxOf_drew boxOf_setI boxOf_setsI size_sets tcs_length thc_length ccs_length tcs_one thc_one ccs_one sub_tn sub_th sub_cf sub_thAll sub_cfAll put_turn put_thread
attribute [local go_sem] tc0 tc1 tc2 tc3 tc4 tc5 tc6 tc7 tc8 tc9 tc10 tc11 tc12 tc13 tc14 tc15 tc16 tc17 tc18 tc19 tc20 tc21 tc22 tc23 tc24 tc25 tc26 tc27 tc28 tc29 tc30 tc31 tc32 tc33 tc34 tc35 tc36 hc0 hc1 hc2 hc3 hc4 hc5 hc6 hc7 hc8 hc9 hc10 hc11 hc12 hc13 hc14 hc15 hc16 kc0 kc1 kc2 kc3 kc4 kc5 kc6 kc7 kc8 kc9 kc10 kc11 tg0 tg1 tg2 tg3 tg4 tg5 tg6 tg7 tg8 tg9 tg10 tg11 tg12 tg13 tg14 tg15 tg16 tg17 tg18 tg19 tg20 tg21 tg22 tg23 tg24 tg25 tg26 tg27 tg28 tg29 tg30 tg31 tg32 tg33 tg34 tg35 tg36 hg0 hg1 hg2 hg3 hg4 hg5 hg6 hg7 hg8 hg9 hg10 hg11 hg12 hg13 hg14 hg15 hg16 kg0 kg1 kg2 kg3 kg4 kg5 kg6 kg7 kg8 kg9 kg10 kg11
attribute [local go_sem] ts12 ts13 ts14 ts16 ts17 ts18 ts19 ts20 ts21 ts22 ts23 ts24 ts25 ts26 ts27 ts28 ts29 ts30 ts31 ts32 ts33 ts34 ts35 ts36 ts15 hs0 hs1 hs2 hs3 hs7 hs8 hs9 hs10 hs11 hs12 hs13 hs14 hs15 hs16

attribute [local irreducible] zC zH
attribute [local go_sem ↓] alCf_is alRc_is alTh_is
attribute [local go_sem] run_alCf run_alRc run_alTh zC_length zH_length put_conf put_thrd
attribute [local go_sem] hs4 hs5
set_option maxRecDepth 100000 in
set_option maxHeartbeats 4000000 in
theorem adopt_any (d : Dt) (p : Ad) (who : Int) (b : List E3) (A : Option Addr) (c g : Nat) (hk : d.kl.length ≤ 500) (hb : d.bl.length ≤ 5000) (hl : b.length ≤ 20000) (w : World) (h : ThAt w d p) (hg : boxOf w g = some [.slice A b.length c]) (sb : Sees w w.heap.size 3 A b.length (ecells b)) :
    Calls Try.prog 96 #[.agg (thc d p).toArray, .int .i64 who, .slice (some ⟨g, 0, none⟩) 1 1] w (AdPost d who b p w) := by
  have KC := hide (fun A1 c1 bb W h1 h2 h3 h4 h5 => concatK_any d.kl [(who, (d.bl.length : Int))] p.kA A1 p.kc c1 bb 2 (by simp; omega) W h1 h2 h3 h4 h5)
  have KB : Hid (∀ (A1 A2 : Option Addr) (c1 c2 bb : Nat) (W : World), Sees W W.heap.size 1 A1 1 (bcells [⟨p.bA, p.bc, d.bl⟩]) → Sees W W.heap.size 1 A2 1 (bcells [⟨A, c, b⟩]) → bb < W.heap.size → W.cell? ⟨bb, 0, none⟩ = some (.slice A1 1 c1) → W.cell? ⟨bb, 1, none⟩ = some (.slice A2 1 c2) → Calls Try.prog 98 #[.slice (some ⟨bb, 0, none⟩) 2 2] W (FRowPost 1 2 (bcells [⟨p.bA, p.bc, d.bl⟩, ⟨A, c, b⟩]) W)) := hide (fun A1 A2 c1 c2 bb W h1 h2 h3 h4 h5 => concatB_any [⟨p.bA, p.bc, d.bl⟩] [⟨A, c, b⟩] A1 A2 c1 c2 bb 2 (by simp) W h1 h2 h3 h4 h5)
  have KJ := hide (fun A1 c1 W h1 h2 => joinF_any A1 c1 [⟨p.bA, p.bc, d.bl⟩, ⟨A, c, b⟩] 2 rfl (by omega) (by simp [flat]; omega) W h1 h2)
  rw [← List.length_append] at KC
  simp only [flat, List.flatMap_cons, List.flatMap_nil, List.append_nil] at KJ
  have hgl := boxOf_lt hg
  obtain ⟨NK, hNK⟩ : ∃ N, d.kl ++ [(who, (d.bl.length : Int))] = N := ⟨_, rfl⟩
  obtain ⟨NB, hNB⟩ : ∃ N, d.bl ++ b = N := ⟨_, rfl⟩
  have HP : Hid (AdPost d who b p w = fun e w' => ∃ K kc B bc, e = .returned (.agg (thc ({ d with kl := NK, bl := NB } : Dt) { p with kA := K, kc := kc, bA := B, bc := bc }).toArray) ∧ Sees w' w'.heap.size 2 K NK.length (kcells NK) ∧ Fresh w K ∧ Sees w' w'.heap.size 3 B NB.length (ecells NB) ∧ Fresh w B ∧ Below w.heap.size w w') := hide (by unfold AdPost; rw [hNK, hNB])
  rw [HP.out]
  rw [hNK] at KC
  rw [hNB] at KJ
  clear hNK hNB HP
  have B1 : boxOf ((w.alloc (.cells (thc d p).toArray 33)).alloc (.cells zH.toArray 33)) w.heap.size = some (thc d p) := by simp [go_sem]
  have B2 : boxOf ((w.alloc (.cells (thc d p).toArray 33)).alloc (.cells zH.toArray 33)) (w.heap.size + 1) = some zH := by simp [go_sem]
  have hs : w.heap.size + 1 < ((w.alloc (.cells (thc d p).toArray 33)).alloc (.cells zH.toArray 33)).heap.size := by simp
  have hz : ((w.alloc (.cells (thc d p).toArray 33)).alloc (.cells zH.toArray 33)).heap.size = w.heap.size + 1 + 1 := by simp
  have hB : Below w.heap.size w ((w.alloc (.cells (thc d p).toArray 33)).alloc (.cells zH.toArray 33)) := (belowN w _).alloc (by simp) _
  go_enter Try.func96, Try.ntmps96
  go_wp2_with fail
  generalize ((w.alloc (.cells (thc d p).toArray 33)).alloc (.cells zH.toArray 33)) = wz at *
  have hW : Below w.heap.size w (((wz.alloc (.cells #[.int .i64 who, .int .i64 (d.bl.length : Int)] 51)).alloc (.cells #[.int .i64 who, .int .i64 (d.bl.length : Int)] 51)).alloc (.cells #[.slice p.kA d.kl.length p.kc, .slice (some ⟨w.heap.size + 1 + 1 + 1, 0, none⟩) 1 1] 31)) := ((hB.alloc hB.size _).alloc (by simp; have := hB.size; omega) _).alloc (by simp; have := hB.size; omega) _
  have hWz : Below wz.heap.size wz (((wz.alloc (.cells #[.int .i64 who, .int .i64 (d.bl.length : Int)] 51)).alloc (.cells #[.int .i64 who, .int .i64 (d.bl.length : Int)] 51)).alloc (.cells #[.slice p.kA d.kl.length p.kc, .slice (some ⟨w.heap.size + 1 + 1 + 1, 0, none⟩) 1 1] 31)) := ((belowN wz _).alloc (by simp) _).alloc (by simp; omega) _
  have k1 := boxOf_keep B1 hWz
  have k2 := boxOf_keep B2 hWz
  clear hWz
  have k5 : boxOf (((wz.alloc (.cells #[.int .i64 who, .int .i64 (d.bl.length : Int)] 51)).alloc (.cells #[.int .i64 who, .int .i64 (d.bl.length : Int)] 51)).alloc (.cells #[.slice p.kA d.kl.length p.kc, .slice (some ⟨w.heap.size + 1 + 1 + 1, 0, none⟩) 1 1] 31)) (w.heap.size + 1 + 1 + 1 + 1) = some [.slice p.kA d.kl.length p.kc, .slice (some ⟨w.heap.size + 1 + 1 + 1, 0, none⟩) 1 1] := boxOf_newA _ _ _ _ (by simp; omega)
  have k3 : (((wz.alloc (.cells #[.int .i64 who, .int .i64 (d.bl.length : Int)] 51)).alloc (.cells #[.int .i64 who, .int .i64 (d.bl.length : Int)] 51)).alloc (.cells #[.slice p.kA d.kl.length p.kc, .slice (some ⟨w.heap.size + 1 + 1 + 1, 0, none⟩) 1 1] 31)).cell? ⟨w.heap.size + 1 + 1 + 1 + 1, 0, none⟩ = some (.slice p.kA d.kl.length p.kc) := by rw [boxOf_at _ _ _ k5]; rfl
  have k4 : (((wz.alloc (.cells #[.int .i64 who, .int .i64 (d.bl.length : Int)] 51)).alloc (.cells #[.int .i64 who, .int .i64 (d.bl.length : Int)] 51)).alloc (.cells #[.slice p.kA d.kl.length p.kc, .slice (some ⟨w.heap.size + 1 + 1 + 1, 0, none⟩) 1 1] 31)).cell? ⟨w.heap.size + 1 + 1 + 1 + 1, 1, none⟩ = some (.slice (some ⟨w.heap.size + 1 + 1 + 1, 0, none⟩) 1 1) := by rw [boxOf_at _ _ _ k5]; rfl
  have ks : w.heap.size + 1 < (((wz.alloc (.cells #[.int .i64 who, .int .i64 (d.bl.length : Int)] 51)).alloc (.cells #[.int .i64 who, .int .i64 (d.bl.length : Int)] 51)).alloc (.cells #[.slice p.kA d.kl.length p.kc, .slice (some ⟨w.heap.size + 1 + 1 + 1, 0, none⟩) 1 1] 31)).heap.size := by simp; omega
  have sx : Sees (((wz.alloc (.cells #[.int .i64 who, .int .i64 (d.bl.length : Int)] 51)).alloc (.cells #[.int .i64 who, .int .i64 (d.bl.length : Int)] 51)).alloc (.cells #[.slice p.kA d.kl.length p.kc, .slice (some ⟨w.heap.size + 1 + 1 + 1, 0, none⟩) 1 1] 31)) (((wz.alloc (.cells #[.int .i64 who, .int .i64 (d.bl.length : Int)] 51)).alloc (.cells #[.int .i64 who, .int .i64 (d.bl.length : Int)] 51)).alloc (.cells #[.slice p.kA d.kl.length p.kc, .slice (some ⟨w.heap.size + 1 + 1 + 1, 0, none⟩) 1 1] 31)).heap.size 2 (some ⟨w.heap.size + 1 + 1 + 1, 0, none⟩) 1 (kcells [(who, (d.bl.length : Int))]) := ⟨rfl, fun _ => ⟨_, 0, rfl, by simp; omega, fun j v hv => by
    have : boxOf (((wz.alloc (.cells #[.int .i64 who, .int .i64 (d.bl.length : Int)] 51)).alloc (.cells #[.int .i64 who, .int .i64 (d.bl.length : Int)] 51)).alloc (.cells #[.slice p.kA d.kl.length p.kc, .slice (some ⟨w.heap.size + 1 + 1 + 1, 0, none⟩) 1 1] 31)) (w.heap.size + 1 + 1 + 1) = some [.int .i64 who, .int .i64 (d.bl.length : Int)] := by rw [← hz, show wz.heap.size + 1 = ((wz.alloc (.cells #[.int .i64 who, .int .i64 (d.bl.length : Int)] 51))).heap.size by simp]; exact boxOf_keep (boxOf_newA (wz.alloc (.cells #[.int .i64 who, .int .i64 (d.bl.length : Int)] 51)) #[.int .i64 who, .int .i64 (d.bl.length : Int)] 51 _ rfl) (belowN _ _)
    rw [Nat.zero_add, boxOf_at _ _ j this]; exact hv⟩⟩
  refine (KC.out (some ⟨w.heap.size + 1 + 1 + 1, 0, none⟩) 1 (w.heap.size + 1 + 1 + 1 + 1) _ (h.k.later hW) sx (by simp; omega) k3 k4).mono ?_
  rintro e w2 ⟨A2, c2, rfl, hc2, s2, f2, hb2⟩
  have f3 : ∀ q, A2 = some q → w.heap.size + 1 < q.block := fun q hq => Nat.lt_of_lt_of_le (by simp; omega) (f2 q hq)
  replace B1 := boxOf_keep k1 hb2
  replace B2 := boxOf_keep k2 hb2
  replace hs := Nat.lt_of_lt_of_le ks hb2.size
  replace hB := below_next hW hW.size hb2
  clear KC hW k1 k2 k3 k4 k5 ks sx f2 hb2 hz
  have b1 := boxOf_set _ _ 5 (.slice A2 NK.length c2) B1
  rw [hs5] at b1
  have b2 : boxOf (w2.setCell ⟨w.heap.size, 5, none⟩ (.slice A2 NK.length c2)) (w.heap.size + 1) = some zH := by rw [boxOf_far _ _ _ _ (by simp)]; exact B2
  have b3 : Below w.heap.size w (w2.setCell ⟨w.heap.size, 5, none⟩ (.slice A2 NK.length c2)) := hB.setCell (by simp) _
  have b4 : Sees (w2.setCell ⟨w.heap.size, 5, none⟩ (.slice A2 NK.length c2)) (w2.setCell ⟨w.heap.size, 5, none⟩ (.slice A2 NK.length c2)).heap.size 2 A2 NK.length (kcells NK) := s2.own1 _ _ _ (fun _ q hq => by have := f3 q hq; omega)
  have bs : w.heap.size + 1 < (w2.setCell ⟨w.heap.size, 5, none⟩ (.slice A2 NK.length c2)).heap.size := by simpa using hs
  have bz : (w2.setCell ⟨w.heap.size, 5, none⟩ (.slice A2 NK.length c2)).heap.size = w2.heap.size := by simp
  go_wp2_with fail
  generalize (w2.setCell ⟨w.heap.size, 5, none⟩ (.slice A2 NK.length c2)) = w3 at *
  rw [← bz]
  have hWz : Below w3.heap.size w3 ((w3.alloc (.cells #[.slice p.bA d.bl.length p.bc] 30)).alloc (.cells #[.slice (some ⟨w3.heap.size, 0, none⟩) 1 1, .slice (some ⟨g, 0, none⟩) 1 1] 25)) := (belowN w3 _).alloc (by simp) _
  have hW := below_next b3 b3.size hWz
  have c5 : boxOf ((w3.alloc (.cells #[.slice p.bA d.bl.length p.bc] 30)).alloc (.cells #[.slice (some ⟨w3.heap.size, 0, none⟩) 1 1, .slice (some ⟨g, 0, none⟩) 1 1] 25)) (w3.heap.size + 1) = some [.slice (some ⟨w3.heap.size, 0, none⟩) 1 1, .slice (some ⟨g, 0, none⟩) 1 1] := boxOf_newA _ _ _ _ (by simp)
  have c6 : boxOf ((w3.alloc (.cells #[.slice p.bA d.bl.length p.bc] 30)).alloc (.cells #[.slice (some ⟨w3.heap.size, 0, none⟩) 1 1, .slice (some ⟨g, 0, none⟩) 1 1] 25)) w3.heap.size = some [.slice p.bA d.bl.length p.bc] := boxOf_keep (boxOf_newA w3 #[.slice p.bA d.bl.length p.bc] 30 _ rfl) (belowN _ _)
  have c7 := boxOf_keep hg hW
  have c3 : ((w3.alloc (.cells #[.slice p.bA d.bl.length p.bc] 30)).alloc (.cells #[.slice (some ⟨w3.heap.size, 0, none⟩) 1 1, .slice (some ⟨g, 0, none⟩) 1 1] 25)).cell? ⟨w3.heap.size + 1, 0, none⟩ = some (.slice (some ⟨w3.heap.size, 0, none⟩) 1 1) := by rw [boxOf_at _ _ _ c5]; rfl
  have c4 : ((w3.alloc (.cells #[.slice p.bA d.bl.length p.bc] 30)).alloc (.cells #[.slice (some ⟨w3.heap.size, 0, none⟩) 1 1, .slice (some ⟨g, 0, none⟩) 1 1] 25)).cell? ⟨w3.heap.size + 1, 1, none⟩ = some (.slice (some ⟨g, 0, none⟩) 1 1) := by rw [boxOf_at _ _ _ c5]; rfl
  have sx : Sees ((w3.alloc (.cells #[.slice p.bA d.bl.length p.bc] 30)).alloc (.cells #[.slice (some ⟨w3.heap.size, 0, none⟩) 1 1, .slice (some ⟨g, 0, none⟩) 1 1] 25)) ((w3.alloc (.cells #[.slice p.bA d.bl.length p.bc] 30)).alloc (.cells #[.slice (some ⟨w3.heap.size, 0, none⟩) 1 1, .slice (some ⟨g, 0, none⟩) 1 1] 25)).heap.size 1 (some ⟨w3.heap.size, 0, none⟩) 1 (bcells [⟨p.bA, p.bc, d.bl⟩]) := ⟨rfl, fun _ => ⟨_, 0, rfl, by simp; omega, fun j v hv => by
    rw [Nat.zero_add, boxOf_at _ _ j c6]; exact hv⟩⟩
  have sy : Sees ((w3.alloc (.cells #[.slice p.bA d.bl.length p.bc] 30)).alloc (.cells #[.slice (some ⟨w3.heap.size, 0, none⟩) 1 1, .slice (some ⟨g, 0, none⟩) 1 1] 25)) ((w3.alloc (.cells #[.slice p.bA d.bl.length p.bc] 30)).alloc (.cells #[.slice (some ⟨w3.heap.size, 0, none⟩) 1 1, .slice (some ⟨g, 0, none⟩) 1 1] 25)).heap.size 1 (some ⟨g, 0, none⟩) 1 (bcells [⟨A, c, b⟩]) := ⟨rfl, fun _ => ⟨_, 0, rfl, boxOf_lt c7, fun j v hv => by
    rw [Nat.zero_add, boxOf_at _ _ j c7]; exact hv⟩⟩
  refine (KB.out _ _ _ _ (w3.heap.size + 1) _ sx sy (by simp) c3 c4).mono ?_
  rintro e w4 ⟨A4, c4', rfl, _, s4, _, hb4⟩
  have hb34 := below_next hWz hWz.size hb4
  have hB4 := below_next hW hW.size hb4
  have KJ2 := hide (KJ.out A4 c4' w4 s4 (fun q hq => by
    simp only [List.mem_cons, List.not_mem_nil, or_false] at hq
    rcases hq with rfl | rfl
    · exact h.b.later hB4
    · exact sb.later hB4))
  replace B1 := boxOf_keep b1 hb34
  replace B2 := boxOf_keep b2 hb34
  replace b4 := b4.later hb34
  replace bs := Nat.lt_of_lt_of_le bs hb34.size
  clear KB KJ hWz hW c5 c6 c7 c3 c4 sx sy s4 hb4 hb34 b1 b2 b3 s2 hs bz hB
  go_wp2_with fail
  refine KJ2.out.mono ?_
  rintro e w5 ⟨A5, c5, rfl, _, s5, f5, hb5⟩
  have f6 : ∀ q, A5 = some q → w.heap.size + 1 < q.block := fun q hq => Nat.lt_of_lt_of_le bs (f5 q hq)
  replace B1 := boxOf_keep B1 hb5
  replace B2 := boxOf_keep B2 hb5
  replace b4 := b4.later hb5
  replace bs := Nat.lt_of_lt_of_le bs hb5.size
  have hB := below_next hB4 hB4.size hb5
  clear KJ2 hb5 f5 hB4
  have key : ∀ W', Below w.heap.size w W' → Sees W' W'.heap.size 2 A2 NK.length (kcells NK) → Sees W' W'.heap.size 3 A5 NB.length (ecells NB) → ∃ K kc B bc, (Ending.returned (.agg (thc ({ d with kl := NK, bl := NB } : Dt) ({ p with kA := A2, kc := c2, bA := A5, bc := c5 } : Ad)).toArray) = .returned (.agg (thc ({ d with kl := NK, bl := NB } : Dt) ({ p with kA := K, kc := kc, bA := B, bc := bc } : Ad)).toArray)) ∧ Sees W' W'.heap.size 2 K NK.length (kcells NK) ∧ Fresh w K ∧ Sees W' W'.heap.size 3 B NB.length (ecells NB) ∧ Fresh w B ∧ Below w.heap.size w W' := fun W' q1 q2 q3 => ⟨A2, c2, A5, c5, rfl, q2, fun q hq => by have := f3 q hq; omega, q3, fun q hq => by have := f6 q hq; omega, q1⟩
  go_wp2
  refine bodyPost_ret (v := .agg (thc ({ d with kl := NK, bl := NB } : Dt) ({ p with kA := A2, kc := c2, bA := A5, bc := c5 } : Ad)).toArray) (results_box Try.results96 _ _ (w.heap.size + 1) _ _ rfl (by simp [go_sem, B1, B2]) Try.underlying33 rfl (by kernel_rfl)) rfl ?_
  exact key _ (by repeat first | exact hB | refine below_sets _ (by omega) _ _ _ _ ?_ | refine Below.setCell ?_ (by first | omega | (simp; omega) | simp) _ | refine Below.alloc ?_ (by first | omega | (simp; omega) | simp) _) ((b4.own1 _ _ _ (fun _ q hq => by have := f3 q hq; omega)).setsC _ (fun _ q hq => by have := f3 q hq; omega) _ _) ((s5.own1 _ _ _ (fun _ q hq => by have := f6 q hq; omega)).setsC _ (fun _ q hq => by have := f6 q hq; omega) _ _)
/-- Where the lists of a turn to which a batch was left lie. -/
def TkPost (u : Tn) (who : Int) (b : List E3) (a : TA) (w : World) (e : Ending) (w' : World) : Prop := ∃ K kc B bc, e = .returned (.agg (tcs (tkG u who b) ({ a with p := { a.p with kA := K, kc := kc, bA := B, bc := bc } } : TA)).toArray) ∧ Sees w' w'.heap.size 2 K (tkG u who b).d.kl.length (kcells (tkG u who b).d.kl) ∧ Fresh w K ∧ Sees w' w'.heap.size 3 B (tkG u who b).d.bl.length (ecells (tkG u who b).d.bl) ∧ Fresh w B ∧ Below w.heap.size w w'
set_option maxRecDepth 100000 in
set_option maxHeartbeats 4000000 in
theorem take_any (u : Tn) (a : TA) (who : Int) (b : List E3) (A : Option Addr) (c : Nat) (ok : u.d.kl.length ≤ 500) (ob : u.d.bl.length ≤ 5000) (hl : b.length ≤ 20000) (w : World) (h : ThAt w u.d a.p) (sb : Sees w w.heap.size 3 A b.length (ecells b)) :
    Calls Try.prog 92 #[.agg (tcs u a).toArray, .int .i64 who, .slice A b.length c] w (TkPost u who b a w) := by
  have KA := hide (fun g W h1 h2 h3 => adopt_any u.d a.p who b A c g ok ob hl W h1 h2 h3)
  have B1 : boxOf (((w.alloc (.cells (tcs u a).toArray 38)).alloc (.cells zT.toArray 38)).alloc (.cells #[.slice A b.length c] 30)) w.heap.size = some (tcs u a) := by simp [go_sem]
  have B2 : boxOf (((w.alloc (.cells (tcs u a).toArray 38)).alloc (.cells zT.toArray 38)).alloc (.cells #[.slice A b.length c] 30)) (w.heap.size + 1) = some zT := by simp [go_sem]
  have B3 : boxOf (((w.alloc (.cells (tcs u a).toArray 38)).alloc (.cells zT.toArray 38)).alloc (.cells #[.slice A b.length c] 30)) (w.heap.size + 1 + 1) = some [.slice A b.length c] := boxOf_newA _ _ _ _ (by simp)
  have hs : w.heap.size + 1 < (((w.alloc (.cells (tcs u a).toArray 38)).alloc (.cells zT.toArray 38)).alloc (.cells #[.slice A b.length c] 30)).heap.size := by simp
  have hB : Below w.heap.size w (((w.alloc (.cells (tcs u a).toArray 38)).alloc (.cells zT.toArray 38)).alloc (.cells #[.slice A b.length c] 30)) := ((belowN w _).alloc (by simp) _).alloc (by simp; omega) _
  obtain ⟨T, hT⟩ : ∃ T, tkG u who b = T := ⟨_, rfl⟩
  have HT : Hid (T = { u with d := ({ u.d with kl := u.d.kl ++ [(who, (u.d.bl.length : Int))], bl := u.d.bl ++ b } : Dt) }) := hide hT.symm
  have KT := hide (show ∀ K kc B bc W', Sees W' W'.heap.size 2 K (({ u.d with kl := u.d.kl ++ [(who, (u.d.bl.length : Int))], bl := u.d.bl ++ b } : Dt)).kl.length (kcells (({ u.d with kl := u.d.kl ++ [(who, (u.d.bl.length : Int))], bl := u.d.bl ++ b } : Dt)).kl) → (∀ p, K = some p → w.heap.size + 1 < p.block) → Sees W' W'.heap.size 3 B (({ u.d with kl := u.d.kl ++ [(who, (u.d.bl.length : Int))], bl := u.d.bl ++ b } : Dt)).bl.length (ecells (({ u.d with kl := u.d.kl ++ [(who, (u.d.bl.length : Int))], bl := u.d.bl ++ b } : Dt)).bl) → (∀ p, B = some p → w.heap.size + 1 < p.block) → Below w.heap.size w W' → TkPost u who b a w (.returned (.agg (tcs ({ u with d := ({ u.d with kl := u.d.kl ++ [(who, (u.d.bl.length : Int))], bl := u.d.bl ++ b } : Dt) } : Tn) ({ a with p := { a.p with kA := K, kc := kc, bA := B, bc := bc } } : TA)).toArray)) W' from fun K kc B bc W' q1 q2 q3 q4 q5 => ⟨K, kc, B, bc, rfl, q1, fun p hp => by have := q2 p hp; omega, q3, fun p hp => by have := q4 p hp; omega, q5⟩)
  obtain ⟨D, hD⟩ : ∃ D, ({ u.d with kl := u.d.kl ++ [(who, (u.d.bl.length : Int))], bl := u.d.bl ++ b } : Dt) = D := ⟨_, rfl⟩
  have KA2 := hide (show ∀ g W, ThAt W u.d a.p → boxOf W g = some [.slice A b.length c] → Sees W W.heap.size 3 A b.length (ecells b) → Calls Try.prog 96 #[.agg (thc u.d a.p).toArray, .int .i64 who, .slice (some ⟨g, 0, none⟩) 1 1] W (fun e w' => ∃ K kc B bc, e = .returned (.agg (thc D ({ a.p with kA := K, kc := kc, bA := B, bc := bc } : Ad)).toArray) ∧ Sees w' w'.heap.size 2 K D.kl.length (kcells D.kl) ∧ Fresh W K ∧ Sees w' w'.heap.size 3 B D.bl.length (ecells D.bl) ∧ Fresh W B ∧ Below W.heap.size W w') from fun g W h1 h2 h3 => by rw [← hD]; exact KA.out g W h1 h2 h3)
  rw [hD] at KT
  clear KA hT HT hD
  go_enter Try.func92, Try.ntmps92
  go_wp2_with fail
  generalize (((w.alloc (.cells (tcs u a).toArray 38)).alloc (.cells zT.toArray 38)).alloc (.cells #[.slice A b.length c] 30)) = wz at *
  refine (KA2.out (w.heap.size + 1 + 1) _ (h.later hB) B3 (sb.later hB)).mono ?_
  rintro e w1 ⟨K, kc, B, bc, rfl, sK, fK, sE, fE, hb1⟩
  have gK : ∀ p, K = some p → w.heap.size + 1 < p.block := fun p hp => Nat.lt_of_lt_of_le hs (fK p hp)
  have gE : ∀ p, B = some p → w.heap.size + 1 < p.block := fun p hp => Nat.lt_of_lt_of_le hs (fE p hp)
  replace B1 := boxOf_keep B1 hb1
  replace B2 := boxOf_keep B2 hb1
  replace hs := Nat.lt_of_lt_of_le hs hb1.size
  replace hB := below_next hB hB.size hb1
  clear KA2 hb1 B3 fK fE
  go_wp2
  refine bodyPost_ret (v := .agg (tcs ({ u with d := D } : Tn) ({ a with p := { a.p with kA := K, kc := kc, bA := B, bc := bc } } : TA)).toArray) (results_box Try.results92 _ _ (w.heap.size + 1) _ _ rfl (by simp [go_sem, B1, B2]) Try.underlying38 rfl (by kernel_rfl)) rfl ?_
  exact KT.out _ _ _ _ _ ((sK.setsC _ (fun _ q hq => by have := gK q hq; omega) _ _).setsC _ (fun _ q hq => by have := gK q hq; omega) _ _) gK ((sE.setsC _ (fun _ q hq => by have := gE q hq; omega) _ _).setsC _ (fun _ q hq => by have := gE q hq; omega) _ _) gE (by repeat first | exact hB | refine below_sets _ (by omega) _ _ _ _ ?_ | refine Below.setCell ?_ (by first | omega | (simp; omega) | simp) _ | refine Below.alloc ?_ (by first | omega | (simp; omega) | simp) _)
/-- .. and that no list of it came to lie in an elder block. -/
theorem tk_gp {u : Tn} {who : Int} {b : List E3} {a : TA} {w w' : World} {e : Ending} (h : TnAt w u a) (p : TkPost u who b a w e w') : GPost (tkG u who b) u a w e w' := by
  obtain ⟨K, kc, B, bc, rfl, sK, fK, sE, fE, hb⟩ := p
  have h' := h.later hb
  exact ⟨_, rfl, ⟨h'.m, h'.bx, ⟨sE, sK, h'.th.h⟩, h'.tp, h'.lg⟩, fun g hg f => ⟨f.w, f.x, f.e, fun _ p hp => by have := fE p hp; omega, fun _ p hp => by have := fK p hp; omega, f.h, f.t, f.l⟩, hb⟩
end Go.Proofs.Ytjghdbkkjhnpfaa
