/- The contract of the step that leaves a kid its result. -/
import Derived.Test.YtnmffjlfdnebnaaShW
import Derived.Test.YtnmffjlfdnebnaaFib
import Derived.Test.YtnmffjlfdnebnaaM1
import Derived.Lib.QuietBelow
import Derived.Deep.QuietTactic
import Derived.BigQuiet
import Derived.Deep.RegionHeld3
namespace Go.Proofs.Ytnmffjlfdnebnaa
open Go.RowKit Go.Sort
set_option linter.unusedVariables false
set_option linter.unusedSimpArgs false

attribute [local irreducible] tcs thc ccs zT
attribute [local go_sem ↓] alTn_is alRn_is alMo_is
attribute [local go_sem] run_alTnf run_alTnt run_alRnf run_alRnt run_alMof run_alMot zT_length
attribute [local go_sem ↓] lbTn_is lbRn_is lbMo_is lbTh_is lbRh_is lbCf_is lbRc_is sbTn_is sbRn_is sbMo_is sbTh_is sbRh_is sbCf_is sbRc_is
attribute [local go_sem] run_lbTn run_lbRn run_lbMo run_lbTh run_lbRh run_lbCf run_lbRc run_sbTn run_sbRn run_sbMo run_sbTh run_sbRh run_sbCf run_sbRc
attribute [local go_sem 2000] boxOf_old'
attribute [local go_sem] boxOf_at' boxOf_free' boxOf_alloc objBox_cells objBox_cellsA boxOf_drew boxOf_setI boxOf_setsI size_sets tcs_length thc_length ccs_length tcs_one thc_one ccs_one sub_tn sub_th sub_cf sub_thAll sub_cfAll put_turn put_thread
attribute [local go_sem] tc0 tc1 tc2 tc3 tc4 tc5 tc6 tc7 tc8 tc9 tc10 tc11 tc12 tc13 tc14 tc15 tc16 tc17 tc18 tc19 tc20 tc21 tc22 tc23 tc24 tc25 tc26 tc27 tc28 tc29 tc30 tc31 tc32 tc33 tc34 tc35 tc36 hc0 hc1 hc2 hc3 hc4 hc5 hc6 hc7 hc8 hc9 hc10 hc11 hc12 hc13 hc14 hc15 hc16 kc0 kc1 kc2 kc3 kc4 kc5 kc6 kc7 kc8 kc9 kc10 kc11 tg0 tg1 tg2 tg3 tg4 tg5 tg6 tg7 tg8 tg9 tg10 tg11 tg12 tg13 tg14 tg15 tg16 tg17 tg18 tg19 tg20 tg21 tg22 tg23 tg24 tg25 tg26 tg27 tg28 tg29 tg30 tg31 tg32 tg33 tg34 tg35 tg36 hg0 hg1 hg2 hg3 hg4 hg5 hg6 hg7 hg8 hg9 hg10 hg11 hg12 hg13 hg14 hg15 hg16 kg0 kg1 kg2 kg3 kg4 kg5 kg6 kg7 kg8 kg9 kg10 kg11
attribute [local go_sem] ts12 ts13 ts14 ts16 ts17 ts18 ts19 ts20 ts21 ts22 ts23 ts24 ts25 ts26 ts27 ts28 ts29 ts30 ts31 ts32 ts33 ts34 ts35 ts36 ts15 hs0 hs1 hs2 hs3 hs7 hs8 hs9 hs10 hs11 hs12 hs13 hs14 hs15 hs16

/-- Behind a store into a memory that a new variable keeps. -/
structure StAt (w : World) (g1 g2 : Nat) (cs1 cs2 : List Value) (A : Option Addr) (ws : List Int) (c : Nat) (sB : Value) (k : Nat) (A0 : Option Addr) (W : World) : Prop where
  bk : boxOf W k = some [.slice A ws.length c, sB]
  s : Sees W W.heap.size 1 A ws.length (ws.map (Value.int .i64))
  fa : 0 < ws.length → ∀ p, A = some p → p.block ≠ g1 ∧ p.block ≠ g2
  b1 : boxOf W g1 = some cs1
  b2 : boxOf W g2 = some cs2
  lo : Below w.heap.size w W
  orr : A = A0 ∨ Fresh w A
theorem st_new {w X : World} {g1 g2 : Nat} {cs1 cs2 : List Value} {A : Option Addr} {ws : List Int} {c : Nat} {sB : Value} (t : TypeId) (hs : Sees X X.heap.size 1 A ws.length (ws.map (Value.int .i64))) (hf : 0 < ws.length → ∀ p, A = some p → p.block ≠ g1 ∧ p.block ≠ g2)
    (b1 : boxOf X g1 = some cs1) (b2 : boxOf X g2 = some cs2) (hB : Below w.heap.size w X) {A0 : Option Addr} (ho : A = A0 ∨ Fresh w A) : StAt w g1 g2 cs1 cs2 A ws c sB X.heap.size A0 (X.alloc (.cells #[.slice A ws.length c, sB] t)) :=
  ⟨boxOf_newA _ _ _ _ rfl, hs.later (belowN X _), hf, boxOf_keep b1 (belowN X _), boxOf_keep b2 (belowN X _), hB.alloc hB.size _, ho⟩
theorem Sees.own1 {w : World} {sz n : Nat} {A : Option Addr} {xs : List Value} (h : Sees w w.heap.size sz A n xs) (g o : Nat) (v : Value) (hA : 0 < n → ∀ p, A = some p → p.block ≠ g) : Sees (w.setCell ⟨g, o, none⟩ v) (w.setCell ⟨g, o, none⟩ v).heap.size sz A n xs := h.setCells2 g hA [v] o
theorem st_set {w X : World} {g1 g2 k : Nat} {cs1 cs2 zs : List Value} {A : Option Addr} {ws : List Int} {c : Nat} {sB : Value} (hs : Sees X X.heap.size 1 A ws.length (ws.map (Value.int .i64))) (hf : 0 < ws.length → ∀ p, A = some p → p.block ≠ g1 ∧ p.block ≠ g2)
    (b1 : boxOf X g1 = some cs1) (b2 : boxOf X g2 = some cs2) (hB : Below w.heap.size w X) (bk : boxOf X k = some zs) (hz : zs.length = 2) (k1 : k ≠ g1) (k2 : k ≠ g2) (k0 : w.heap.size ≤ k) (hk : 0 < ws.length → ∀ p, A = some p → p.block ≠ k) {A0 : Option Addr} (ho : A = A0 ∨ Fresh w A) :
    StAt w g1 g2 cs1 cs2 A ws c sB k A0 ((X.setCell ⟨k, 0, none⟩ (.slice A ws.length c)).setCell ⟨k, 1, none⟩ sB) := by
  refine ⟨?_, (hs.own1 k 0 _ hk).own1 k 1 _ hk, hf, ?_, ?_, (hB.setCell k0 _).setCell k0 _, ho⟩
  · match zs, hz with
    | [x, y], _ => rw [boxOf_set _ _ _ _ (boxOf_set _ _ _ _ bk)]; rfl
  · rw [boxOf_far _ _ _ _ k1, boxOf_far _ _ _ _ k1]; exact b1
  · rw [boxOf_far _ _ _ _ k2, boxOf_far _ _ _ _ k2]; exact b2
theorem box_newk {W w' : World} {zs : Array Value} {t : TypeId} (hb : Below (W.alloc (.cells zs t)).heap.size (W.alloc (.cells zs t)) w') : boxOf w' W.heap.size = some zs.toList ∧ W.heap.size < w'.heap.size := ⟨boxOf_keep (boxOf_newA _ _ _ _ rfl) hb, by have := hb.size; simp at this; omega⟩
theorem box_newd {W w' : World} {zs : Array Value} {t : TypeId} (hb : Below (W.alloc (.cells zs t)).drew.heap.size (W.alloc (.cells zs t)).drew w') : boxOf w' W.heap.size = some zs.toList ∧ W.heap.size < w'.heap.size := ⟨boxOf_keep (w := (W.alloc (.cells zs t)).drew) (boxOf_newA _ _ _ _ rfl) hb, by have := hb.size; simp at this; omega⟩
theorem box_keep2 {W w' : World} {g : Nat} {cs : List Value} (h : boxOf W g = some cs ∧ g < W.heap.size) (hb : Below W.heap.size W w') : boxOf w' g = some cs ∧ g < w'.heap.size := ⟨boxOf_keep h.1 hb, Nat.lt_of_lt_of_le h.2 hb.size⟩
theorem box_keep2n {W w' : World} {g : Nat} {cs : List Value} {o : Obj} (h : boxOf W g = some cs ∧ g < W.heap.size) (hb : Below (W.alloc o).heap.size (W.alloc o) w') : boxOf w' g = some cs ∧ g < w'.heap.size := box_keep2 (W := W.alloc o) ⟨boxOf_keep h.1 (belowN W o), by simp; omega⟩ hb
theorem keepT4 {w W W' : World} {g gk gz : Nat} {cs ds es : List Value} (h : boxOf W g = some cs ∧ boxOf W gk = some ds ∧ boxOf W gz = some es ∧ Below w.heap.size w W) (hb : Below W.heap.size W W') : boxOf W' g = some cs ∧ boxOf W' gk = some ds ∧ boxOf W' gz = some es ∧ Below w.heap.size w W' := ⟨boxOf_keep h.1 hb, boxOf_keep h.2.1 hb, boxOf_keep h.2.2.1 hb, below_next h.2.2.2 h.2.2.2.size hb⟩
theorem keepT4s {w W : World} {g gk gz : Nat} {cs ds es : List Value} (h : boxOf W g = some cs ∧ boxOf W gk = some ds ∧ boxOf W gz = some es ∧ Below w.heap.size w W) (k i : Nat) (v : Value) (h1 : k ≠ g) (h2 : k ≠ gk) (h3 : k ≠ gz) (h0 : w.heap.size ≤ k) : boxOf (W.setCell ⟨k, i, none⟩ v) g = some cs ∧ boxOf (W.setCell ⟨k, i, none⟩ v) gk = some ds ∧ boxOf (W.setCell ⟨k, i, none⟩ v) gz = some es ∧ Below w.heap.size w (W.setCell ⟨k, i, none⟩ v) :=
  ⟨by rw [boxOf_far _ _ _ _ h1]; exact h.1, by rw [boxOf_far _ _ _ _ h2]; exact h.2.1, by rw [boxOf_far _ _ _ _ h3]; exact h.2.2.1, h.2.2.2.setCell h0 _⟩
/-- What a kid gets. -/
def gets (u : Tn) : Int := allV (u.d.bl.take (upN (kidV u.d).2 u.d.bl.length)) u.d.x u.c.x9 u.c.x10
def shrV (u : Tn) : Tn := if kidB u.d = true ∧ erV u.ws.length (rsV u.c (kidV u.d).1) = 0 then { u with ws := stV u.ws (rsV u.c (kidV u.d).1) (gets u), d := { u.d with ph := 16 } } else u
/-- A turn, somewhere. -/
def TnPost (u : Tn) (a : TA) (w : World) (e : Ending) (w' : World) : Prop := ∃ A c, e = .returned (.agg (tcs u { a with mA := A, mc := c }).toArray) ∧ Sees w' w'.heap.size 1 A u.ws.length (u.ws.map (Value.int .i64)) ∧ (A = a.mA ∨ Fresh w A) ∧ Below w.heap.size w w'
theorem i64_0 : I64 0 := by unfold I64; omega
theorem kid_i64 {u : Tn} (o : TnOk u) : I64 (kidV u.d).1 ∧ I64 (kidV u.d).2 := by
  unfold kidV
  split
  · cases hk : u.d.kl[u.d.pl.toNat]? with
    | none => exact ⟨i64_0, i64_0⟩
    | some e => exact o.f.k e (List.mem_of_getElem? hk)
  · exact ⟨i64_0, i64_0⟩
theorem upN_le (n : Int) (len : Nat) : upN n len ≤ len := by unfold upN; omega
set_option maxRecDepth 100000 in
set_option maxHeartbeats 4000000 in
theorem share_any (u : Tn) (a : TA) (o : TnOk u) (w : World) (h : TnAt w u a) (hc : u.d.bl.length ≤ a.p.bc) : Calls Try.prog 56 #[.agg (tcs u a).toArray] w (TnPost (shrV u) a w) := by
  obtain ⟨B1, B2, hs, hB⟩ := ent_mo w u a
  have h0 := h
  have HK := hide (kid_i64 o)
  obtain ⟨⟨kt, kg⟩, hkv⟩ : ∃ x, kidV u.d = x := ⟨_, rfl⟩
  rw [hkv] at HK
  go_enter Try.func56, Try.ntmps56
  go_wp2_with fail
  generalize ((((w.alloc (.cells (tcs u a).toArray 115)).alloc (.cells zT.toArray 38)).alloc (.cells zT.toArray 38)).setCells (w.heap.size + 1 + 1) 0 (tcs u a)) = wz at *
  refine (kid_any u.d a.p _ (h0.th.later hB)).mono ?_
  rintro e w1 ⟨rfl, hb1⟩
  replace B1 := boxOf_keep B1 hb1
  replace B2 := boxOf_keep B2 hb1
  replace hB := below_next hB hB.size hb1
  replace hs := Nat.lt_of_lt_of_le hs hb1.size
  clear hb1 h
  rw [hkv]
  by_cases hkb : kidB u.d = true
  case neg =>
    have H : Hid (shrV u = u) := hide (by rw [shrV, if_neg (fun e => hkb e.1)])
    rw [Bool.not_eq_true] at hkb
    rw [hkb]
    go_wp2
    have hBf : Below w.heap.size w _ := (by repeat first | exact hB | refine below_sets _ (by omega) _ _ _ _ ?_ | refine Below.setCell ?_ (by first | omega | (simp; omega) | simp) _ | refine Below.alloc ?_ (by first | omega | (simp; omega) | simp) _ : Below w.heap.size w ((w1.alloc (.cells #[.int .i64 kt, .int .i64 kg] 63)).setCells (w.heap.size + 1) 0 (tcs u a)))
    refine bodyPost_ret (v := .agg (tcs u a).toArray) (results_box Try.results56 _ _ (w.heap.size + 1) _ _ rfl (by simp [go_sem, B1, B2]) Try.underlying38 rfl (by kernel_rfl)) rfl (by rw [H.out]; exact ⟨a.mA, a.mc, rfl, h0.m.words.later hBf, .inl rfl, hBf⟩)
  rw [hkb]
  go_wp2_with fail
  have B3 := boxOf_newA w1 #[.int .i64 kt, .int .i64 kg] 63 w1.heap.size rfl
  replace B1 := boxOf_keep B1 (belowN w1 (.cells #[.int .i64 kt, .int .i64 kg] 63))
  replace B2 := boxOf_keep B2 (belowN w1 (.cells #[.int .i64 kt, .int .i64 kg] 63))
  replace hB := hB.alloc hB.size (.cells #[.int .i64 kt, .int .i64 kg] 63)
  obtain ⟨gk, hgk⟩ : ∃ x, w1.heap.size = x := ⟨_, rfl⟩
  rw [hgk] at B3 hs ⊢
  have hs2 : gk < (w1.alloc (.cells #[.int .i64 kt, .int .i64 kg] 63)).heap.size := by simp; omega
  clear hgk
  generalize (w1.alloc (.cells #[.int .i64 kt, .int .i64 kg] 63)) = w2 at *
  refine (upto_any a.p.bA a.p.bc u.d.bl u.d.bl.length rfl (by have := o.b; omega) hc kg _ (h0.th.b.later hB)).mono ?_
  rintro e w3 ⟨Au, cu, rfl, hlu, hsu, hb1⟩
  replace B1 := boxOf_keep B1 hb1
  replace B2 := boxOf_keep B2 hb1
  replace B3 := boxOf_keep B3 hb1
  replace hB := below_next hB hB.size hb1
  replace hs2 := Nat.lt_of_lt_of_le hs2 hb1.size
  clear hb1 hlu
  have HA := hide (all_any Au cu (u.d.bl.take (upN kg u.d.bl.length)) (upN kg u.d.bl.length) (by have := upN_le kg u.d.bl.length; simp; omega) (by have := o.b; have := upN_le kg u.d.bl.length; omega) u.d.x u.c.x9 u.c.x10 (o.f.n _ (by simp [Dt.nums])) o.lo o.hi (o.f.b.take _) w3 hsu)
  obtain ⟨xv, hxv⟩ : ∃ x, allV (u.d.bl.take (upN kg u.d.bl.length)) u.d.x u.c.x9 u.c.x10 = x := ⟨_, rfl⟩
  rw [hxv] at HA
  have HG : Hid (gets u = xv) := hide (by rw [gets, hkv]; exact hxv)
  clear hxv
  generalize upN kg u.d.bl.length = nu at *
  go_wp2_with fail
  refine HA.out.mono ?_
  rintro e w4 ⟨rfl, hb1⟩
  replace B1 := boxOf_keep B1 hb1
  replace B2 := boxOf_keep B2 hb1
  replace B3 := boxOf_keep B3 hb1
  replace hB := below_next hB hB.size hb1
  replace hs2 := Nat.lt_of_lt_of_le hs2 hb1.size
  clear hb1 HA hsu
  go_wp2_with fail
  have HL := hide (h0.m.words.block_lt)
  obtain ⟨ev, hev⟩ : ∃ x, erV u.ws.length (rsV u.c kt) = x := ⟨_, rfl⟩
  obtain ⟨nw, hnw⟩ : ∃ x, stV u.ws (rsV u.c kt) xv = x := ⟨_, rfl⟩
  have HN : Hid (nw.length = u.ws.length) := hide (by rw [← hnw]; exact stV_length _ _ _)
  have KS := hide (fun W m => store_any a.mA a.mB a.mc a.md u.ws a.bs (rsV u.c kt) xv W m)
  rw [hev, hnw] at KS
  have Z : boxOf w4.drew (w.heap.size + 1 + 1) = some (tcs u a) ∧ boxOf w4.drew gk = some [.int .i64 kt, .int .i64 kg] ∧ boxOf w4.drew (w.heap.size + 1) = some zT ∧ Below w.heap.size w w4.drew := ⟨by rw [boxOf_drew]; exact B1, by rw [boxOf_drew]; exact B3, by rw [boxOf_drew]; exact B2, hB.drew⟩
  go_cut [8, 9] from 10 (fun p e wc => ∃ k A c, p = .pointer (some ⟨k, 0, none⟩) ∧ e = .int .i64 ev ∧ StAt w (w.heap.size + 1 + 1) (w.heap.size + 1) (tcs u a) zT A nw c (.slice a.mB a.bs.length a.md) k a.mA wc)
  case first =>
    go_region_held3 (fun w' => boxOf w' (w.heap.size + 1 + 1) = some (tcs u a) ∧ boxOf w' gk = some [.int .i64 kt, .int .i64 kg] ∧ boxOf w' (w.heap.size + 1) = some zT ∧ Below w.heap.size w w')
      (first | (with_reducible exact Z) | (with_reducible exact Z1) | (with_reducible exact Z2) | (with_reducible exact keepT4 (by assumption) (belowN _ _)) | (with_reducible exact keepT4s Z2 _ _ _ (by omega) (by omega) (by omega) (by omega)) | (with_reducible exact keepT4s (keepT4s Z2 _ _ _ (by omega) (by omega) (by omega) (by omega)) _ _ _ (by omega) (by omega) (by omega) (by omega)))
      (first
        | (go_at_call 69; refine (result_tn u.c o.c kt HK.out.1 _).mono ?_; rintro e v1 ⟨rfl, hb1⟩; have Z1 : boxOf v1 (w.heap.size + 1 + 1) = some (tcs u a) ∧ boxOf v1 gk = some [.int .i64 kt, .int .i64 kg] ∧ boxOf v1 (w.heap.size + 1) = some zT ∧ Below w.heap.size w v1 := keepT4 (by assumption) hb1; (first | (with_reducible have tk := box_newk hb1) | (with_reducible have tk := box_newd hb1) | skip); have q1 : w4.heap.size ≤ v1.heap.size := Nat.le_trans (by simp) hb1.size)
        | (go_at_call 52; refine (KS.out _ (h0.m.later (And.right (And.right (And.right (by assumption)))))).mono ?_; rintro e v2 ⟨A, c, rfl, hsA, hor, hb2⟩; have Z2 : boxOf v2 (w.heap.size + 1 + 1) = some (tcs u a) ∧ boxOf v2 gk = some [.int .i64 kt, .int .i64 kg] ∧ boxOf v2 (w.heap.size + 1) = some zT ∧ Below w.heap.size w v2 := keepT4 (by assumption) hb2; (first | (with_reducible have tk := box_keep2 tk hb2) | (with_reducible have tk := box_keep2n tk hb2) | (with_reducible have tk := box_newk hb2) | (with_reducible have tk := box_newd hb2) | skip); have q2 : v1.heap.size ≤ v2.heap.size := Nat.le_trans (by simp) hb2.size))
    all_goals go_wp2_with fail
    all_goals go_meet
    all_goals
      have hfa : 0 < nw.length → ∀ p, A = some p → p.block ≠ w.heap.size + 1 + 1 ∧ p.block ≠ w.heap.size + 1 := fun hn p hp => by
        rcases hor with e | f
        · have := HL.out (by rw [← HN.out]; exact hn) p (e ▸ hp); omega
        · have := f p hp; (try simp at this); omega
    all_goals
      have hoo : A = a.mA ∨ Fresh w A := hor.imp_right (fun f p hp => by have := f p hp; (try simp at this); have := hB.size; omega)
    all_goals first
      | exact ⟨_, A, c, rfl, rfl, st_new _ hsA hfa Z2.1 Z2.2.2.1 Z2.2.2.2 hoo⟩
      | exact ⟨_, A, c, rfl, rfl, st_set hsA hfa Z2.1 Z2.2.2.1 Z2.2.2.2 tk.1 rfl (by omega) (by omega) (by omega) (fun hn p hp => by
          rcases hor with e | f
          · have := HL.out (by rw [← HN.out]; exact hn) p (e ▸ hp); omega
          · have := f p hp; (try simp at this); omega) hoo⟩
  case rest =>
    obtain ⟨k, A, c, rfl, rfl, hst⟩ := hcut
    clear B1 B2 B3 hB Z KS
    obtain ⟨bk, sA, fa, B1, B2, hB, hoo⟩ := hst
    have he : ev = 0 ∨ ev = 30 := by rw [← hev]; unfold erV; split <;> simp
    rcases he with he | he
    · subst he
      have H : Hid (shrV u = { u with ws := nw, d := { u.d with ph := 16 } }) := hide (by rw [shrV, if_pos ⟨hkb, by rw [hkv]; exact hev⟩, HG.out, hkv]; exact congrArg (fun z => ({ u with ws := z, d := { u.d with ph := 16 } } : Tn)) hnw)
      go_wp2
      have hBf : Below w.heap.size w ((((wc.setCell ⟨w.heap.size + 1 + 1, 14, none⟩ (.slice A nw.length c)).setCell ⟨w.heap.size + 1 + 1, 15, none⟩ (.slice a.mB a.bs.length a.md)).setCell ⟨w.heap.size + 1 + 1, 16, none⟩ (.int .i64 16)).setCells (w.heap.size + 1) 0 (tcs { u with ws := nw, d := { u.d with ph := 16 } } { a with mA := A, mc := c })) := by repeat first | exact hB | refine below_sets _ (by omega) _ _ _ _ ?_ | refine Below.setCell ?_ (by first | omega | (simp; omega) | simp) _ | refine Below.alloc ?_ (by first | omega | (simp; omega) | simp) _
      refine bodyPost_ret (v := .agg (tcs { u with ws := nw, d := { u.d with ph := 16 } } { a with mA := A, mc := c }).toArray) (results_box Try.results56 _ _ (w.heap.size + 1) _ _ rfl (by simp [go_sem, B1, B2]) Try.underlying38 rfl (by kernel_rfl)) rfl ?_
      rw [H.out]
      exact ⟨A, c, rfl, (((sA.own1 _ _ _ (fun hn p hp => (fa hn p hp).1)).own1 _ _ _ (fun hn p hp => (fa hn p hp).1)).own1 _ _ _ (fun hn p hp => (fa hn p hp).1)).setCells2 _ (fun hn p hp => (fa hn p hp).2) _ _, hoo, hBf⟩
    · subst he
      have H : Hid (shrV u = u) := hide (by rw [shrV, if_neg (fun e => by rw [hkv, hev] at e; exact absurd e.2 (by decide))])
      go_wp2
      have hBf : Below w.heap.size w (wc.setCells (w.heap.size + 1) 0 (tcs u a)) := by repeat first | exact hB | refine below_sets _ (by omega) _ _ _ _ ?_ | refine Below.setCell ?_ (by first | omega | (simp; omega) | simp) _ | refine Below.alloc ?_ (by first | omega | (simp; omega) | simp) _
      refine bodyPost_ret (v := .agg (tcs u a).toArray) (results_box Try.results56 _ _ (w.heap.size + 1) _ _ rfl (by simp [go_sem, B1, B2]) Try.underlying38 rfl (by kernel_rfl)) rfl (by rw [H.out]; exact ⟨a.mA, a.mc, rfl, h0.m.words.later hBf, .inl rfl, hBf⟩)
end Go.Proofs.Ytnmffjlfdnebnaa
