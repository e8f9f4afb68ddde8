/- The law's its, of a whole turn. -/
import Derived.Test.YtjghdbkkjhnpfaaGreatAlk
import Derived.Test.YtjghdbkkjhnpfaaGreatMemN
import Derived.Test.YtjghdbkkjhnpfaaGreatFib
import Derived.Lib.QuietBelow
import Derived.Deep.QuietTactic
import Derived.BigQuiet
import Derived.Deep.RegionHeld3
namespace Go.Proofs.YtjghdbkkjhnpfaaGreat
open Go.RowKit Go.Sort
set_option linter.unusedVariables false
set_option linter.unusedSimpArgs false

def bdT (parts : Array (Nat × Value)) : Sem Value := Instr.build 55 parts
theorem bdT_is (parts : Array (Nat × Value)) : Instr.build 55 parts = bdT parts := rfl
theorem run_bdT (u : Tn) (a : TA) (w : World) : (bdT #[(0, .agg (ccs u.c).toArray), (1, .int .i64 u.tt), (2, .int .i64 u.now), (3, .agg #[.slice a.mA u.ws.length a.mc, .slice a.mB a.bs.length a.md]), (4, .agg (thc u.d a.p).toArray), (5, .agg #[.slice a.tA u.tl.length a.tc, .int .i64 u.ta]), (6, .slice a.lA u.ll.length a.lc), (7, .bool u.dn)]).run Tryz.prog w = .ok (.agg (tcs u a).toArray) w := by kernel_rfl
def FibN (d : Dt) (p : Ad) (w : World) (e : Ending) (w' : World) : Prop := ∃ bA bc kA kc, e = .returned (.agg (thc d ⟨bA, bc, kA, kc, p.hA, p.hc⟩).toArray) ∧ Sees w' w'.heap.size 3 bA d.bl.length (ecells d.bl) ∧ Sees w' w'.heap.size 2 kA d.kl.length (kcells d.kl) ∧ Fresh w bA ∧ Fresh w kA ∧ Below w.heap.size w w'
theorem fiber_tn (d : Dt) (p : Ad) (o : DtOk d) (w : World) (ht : ThAt w d p) : Calls Tryz.prog 27 #[.agg (thc d p).toArray] w (FibN d p w) := fiber_any d p o w ht
def ItsPost (u : Tn) (w : World) (e : Ending) (w' : World) : Prop := ∃ a, e = .returned (.agg (tcs u a).toArray) ∧ TnAt w' u a ∧ Below w.heap.size w w'

attribute [local irreducible] tcs thc ccs zT
attribute [local go_sem ↓] alTn_is alRn_is
attribute [local go_sem] run_alTnf run_alTnt run_alRnf run_alRnt zT_length
attribute [local go_sem ↓] lbTn_is lbRn_is lbTh_is lbRh_is lbCf_is lbRc_is sbTn_is sbRn_is sbTh_is sbRh_is sbCf_is sbRc_is
attribute [local go_sem] run_lbTn run_lbRn run_lbTh run_lbRh run_lbCf run_lbRc run_sbTn run_sbRn run_sbTh run_sbRh run_sbCf run_sbRc
attribute [local go_sem 2000] boxOf_old'
attribute [local go_sem] boxOf_at' boxOf_free' boxOf_alloc objBox_cells objBox_cellsA boxOf_drew boxOf_setI boxOf_setsI size_sets tcs_length thc_length ccs_length tcs_one thc_one ccs_one sub_tn sub_th sub_cf sub_thAll sub_cfAll put_turn put_thread
attribute [local go_sem] tc0 tc1 tc2 tc3 tc4 tc5 tc6 tc7 tc8 tc9 tc10 tc11 tc12 tc13 tc14 tc15 tc16 tc17 tc18 tc19 tc20 tc21 tc22 tc23 tc24 tc25 tc26 tc27 tc28 tc29 tc30 tc31 tc32 tc33 tc34 tc35 tc36 hc0 hc1 hc2 hc3 hc4 hc5 hc6 hc7 hc8 hc9 hc10 hc11 hc12 hc13 hc14 hc15 hc16 kc0 kc1 kc2 kc3 kc4 kc5 kc6 kc7 kc8 kc9 kc10 kc11 tg0 tg1 tg2 tg3 tg4 tg5 tg6 tg7 tg8 tg9 tg10 tg11 tg12 tg13 tg14 tg15 tg16 tg17 tg18 tg19 tg20 tg21 tg22 tg23 tg24 tg25 tg26 tg27 tg28 tg29 tg30 tg31 tg32 tg33 tg34 tg35 tg36 hg0 hg1 hg2 hg3 hg4 hg5 hg6 hg7 hg8 hg9 hg10 hg11 hg12 hg13 hg14 hg15 hg16 kg0 kg1 kg2 kg3 kg4 kg5 kg6 kg7 kg8 kg9 kg10 kg11
attribute [local go_sem] ts12 ts13 ts14 ts16 ts17 ts18 ts19 ts20 ts21 ts22 ts23 ts24 ts25 ts26 ts27 ts28 ts29 ts30 ts31 ts32 ts33 ts34 ts35 ts36 ts15 hs0 hs1 hs2 hs3 hs7 hs8 hs9 hs10 hs11 hs12 hs13 hs14 hs15 hs16

attribute [local go_sem ↓] bdT_is
theorem keepI3 {w W W' : World} {g gz : Nat} {cs es : List Value} (h : boxOf W g = some cs ∧ boxOf W gz = some es ∧ Below w.heap.size w W) (hb : Below W.heap.size W W') : boxOf W' g = some cs ∧ boxOf W' gz = some es ∧ Below w.heap.size w W' := ⟨boxOf_keep h.1 hb, boxOf_keep h.2.1 hb, below_next h.2.2 h.2.2.size hb⟩
theorem keepI3s {w W : World} {g gz : Nat} {cs es vs : List Value} (h : boxOf W g = some cs ∧ boxOf W gz = some es ∧ Below w.heap.size w W) (h1 : gz ≠ g) (h0 : w.heap.size ≤ gz) (hl : vs.length = es.length) (he : vs = es) : boxOf (W.setCells gz 0 vs) g = some cs ∧ boxOf (W.setCells gz 0 vs) gz = some es ∧ Below w.heap.size w (W.setCells gz 0 vs) :=
  ⟨by rw [boxOf_sets_far _ _ h1]; exact h.1, by rw [boxOf_whole _ _ _ h.2.1 hl, he], below_sets _ h0 _ _ _ _ h.2.2⟩
set_option maxRecDepth 100000 in
set_option maxHeartbeats 4000000 in
theorem its_any (u : Tn) (a : TA) (o : TnOk u) (w : World) (h : TnAt w u a) : Calls Tryz.prog 9 #[.agg (tcs u a).toArray] w (ItsPost u w) := by
  have B1 : boxOf ((w.alloc (.cells (tcs u a).toArray 38)).alloc (.cells zT.toArray 55)) w.heap.size = some (tcs u a) := by simp [go_sem]
  have B2 : boxOf ((w.alloc (.cells (tcs u a).toArray 38)).alloc (.cells zT.toArray 55)) (w.heap.size + 1) = some zT := by simp [go_sem]
  have hs : w.heap.size + 1 < ((w.alloc (.cells (tcs u a).toArray 38)).alloc (.cells zT.toArray 55)).heap.size := by simp
  have hB : Below w.heap.size w ((w.alloc (.cells (tcs u a).toArray 38)).alloc (.cells zT.toArray 55)) := (belowN w _).alloc (by simp) _
  have BD := hide (fun a' => run_bdT u a')
  have K1 := hide (fun W m => memory_any a.mA a.mB a.mc a.md u.ws a.bs W m)
  have K2 := hide (fun W t => fiber_tn u.d a.p o.d W t)
  have K3 := hide (fun W t => marks_any a.lA a.lc u.ll u.ll.length rfl (by have := o.l; omega) W t)
  go_enter Tryz.func9, Tryz.ntmps9
  go_wp2_with fail
  generalize ((w.alloc (.cells (tcs u a).toArray 38)).alloc (.cells zT.toArray 55)) = wz at *
  have Z : boxOf wz.drew w.heap.size = some (tcs u a) ∧ boxOf wz.drew (w.heap.size + 1) = some zT ∧ Below w.heap.size w wz.drew := ⟨by rw [boxOf_drew]; exact B1, by rw [boxOf_drew]; exact B2, hB.drew⟩
  go_cut [0] from 3 (fun x wc => ∃ a', boxOf wc (w.heap.size + 1) = some (tcs u a') ∧ TnAt wc u a' ∧ Below w.heap.size w wc)
  case first =>
    go_region_held3 (fun w' => boxOf w' w.heap.size = some (tcs u a) ∧ Below w.heap.size w w')
      (first | (with_reducible exact ⟨Z.1, Z.2.2⟩) | (with_reducible exact ⟨Z1.1, Z1.2.2⟩) | (with_reducible exact ⟨Z2.1, Z2.2.2⟩) | (with_reducible exact ⟨Z3.1, Z3.2.2⟩) | (exact ⟨by rw [boxOf_sets_far _ _ (by omega)]; exact Z3.1, below_sets _ (by omega) _ _ _ _ Z3.2.2⟩))
      (first
        | (go_at_call 26; refine (K1.out _ (h.m.later Z.2.2)).mono ?_; rintro e y1 ⟨B, d, bs, rfl, hbx, mo, fB, fq, hb1⟩; have Z1 : boxOf y1 w.heap.size = some (tcs u a) ∧ boxOf y1 (w.heap.size + 1) = some zT ∧ Below w.heap.size w y1 := keepI3 Z hb1; have q1 : w.heap.size + 1 < y1.heap.size := Nat.lt_of_lt_of_le hs (by simpa using hb1.size))
        | (go_at_call 27; refine (K2.out _ (h.th.later Z1.2.2)).mono ?_; rintro e y2 ⟨bA, bc, kA, kc, rfl, sB, sK, fb, fk, hb2⟩; have Z2 : boxOf y2 w.heap.size = some (tcs u a) ∧ boxOf y2 (w.heap.size + 1) = some zT ∧ Below w.heap.size w y2 := keepI3 Z1 hb2; have q2 : w.heap.size + 1 < y2.heap.size := Nat.lt_of_lt_of_le q1 hb2.size)
        | (go_at_call 28; refine (K3.out _ (h.lg.later Z2.2.2)).mono ?_; rintro e y3 ⟨gA, gc, rfl, _, sG, fg, hb3⟩; have Z3 : boxOf y3 w.heap.size = some (tcs u a) ∧ boxOf y3 (w.heap.size + 1) = some zT ∧ Below w.heap.size w y3 := keepI3 Z2 hb3; have q3 : w.heap.size + 1 < y3.heap.size := Nat.lt_of_lt_of_le q2 hb3.size; have BX := BD.out { a with mB := B, md := d, bs := bs, p := ⟨bA, bc, kA, kc, a.p.hA, a.p.hc⟩, lA := gA, lc := gc }; have b23 := Z3.2.1))
    all_goals go_wp2_with fail
    all_goals go_meet
    all_goals
      have hBf : Below w.heap.size w (y3.setCells (w.heap.size + 1) 0 (tcs u { a with mB := B, md := d, bs := bs, p := ⟨bA, bc, kA, kc, a.p.hA, a.p.hc⟩, lA := gA, lc := gc })) := below_sets _ (by omega) _ _ _ _ Z3.2.2
      have g2 := hb2.size
      have g3 := hb3.size
      have ne : ∀ (W : World) (A : Option Addr), w.heap.size + 1 < W.heap.size → Fresh W A → ∀ p, A = some p → p.block ≠ w.heap.size + 1 := fun W A hw f p hp => by have := f p hp; omega
      refine ⟨{ a with mB := B, md := d, bs := bs, p := ⟨bA, bc, kA, kc, a.p.hA, a.p.hc⟩, lA := gA, lc := gc }, boxOf_whole _ _ _ Z3.2.1 ((tcs_length _ _).trans zT_length.symm), ⟨⟨⟨h.m.words.later hBf, ?_, fun q hq => ?_⟩, mo.few, mo.fewb, mo.short⟩, hbx.trans h.bx, ⟨?_, ?_, h.th.h.later hBf⟩, h.tp.later hBf, ?_⟩, hBf⟩
      · exact ((mo.bxs.later hb2).later hb3).setCells2 _ (fun _ => ne wz.drew B (by simpa using hs) fB) _ _
      · exact (((show Sees y1 y1.heap.size 3 q.A q.l.length (ecells q.l) from mo.each q hq).later hb2).later hb3).setCells2 _ (fun hn => ne wz.drew q.A (by simpa using hs) (fq q hq hn)) _ _
      · exact (sB.later hb3).setCells2 _ (fun _ => ne y1 bA q1 fb) _ _
      · exact (sK.later hb3).setCells2 _ (fun _ => ne y1 kA q1 fk) _ _
      · exact sG.setCells2 _ (fun _ => ne y2 gA q2 fg) _ _
  case rest =>
    obtain ⟨a', b2, ht, hBf⟩ := hcut
    go_wp2
    refine bodyPost_ret (v := .agg (tcs u a').toArray) (results_box Tryz.results9 _ _ (w.heap.size + 1) _ _ rfl b2 Tryz.underlying55 rfl (by kernel_rfl)) rfl ⟨a', rfl, ht, hBf⟩
end Go.Proofs.YtjghdbkkjhnpfaaGreat
