/- Places, Late, Down, and the ends of a way up. -/
import Derived.Test.YtjghdbkkjhnpfaaTnI
import Derived.Test.YtjghdbkkjhnpfaaArT
import Derived.Test.YtjghdbkkjhnpfaaM4
import Derived.Test.YtjghdbkkjhnpfaaM5
import Derived.Test.YtjghdbkkjhnpfaaM6
import Derived.Lib.QuietBelow
import Derived.Deep.QuietTactic
import Derived.BigQuiet
namespace Go.Proofs.Ytjghdbkkjhnpfaa
open Go.RowKit Go.Sort
set_option linter.unusedVariables false
set_option linter.unusedSimpArgs false

theorem Sees.setsC {w : World} {sz n : Nat} {A : Option Addr} {xs : List Value} (h : Sees w w.heap.size sz A n xs) (g : Nat) (hA : 0 < n → ∀ p, A = some p → p.block ≠ g) (cs : List Value) (o : Nat) : Sees (w.setCells g o cs) (w.setCells g o cs).heap.size sz A n xs := by
  rw [size_setCells]
  rcases Nat.eq_zero_or_pos n with h0 | h0
  · exact ⟨h.1, fun hn => absurd hn (by omega)⟩
  · exact h.setCells g o (hA h0) cs o
/-- Behind a store into a memory that a new variable keeps. -/
structure StAt (w : World) (g1 g2 : Nat) (cs1 cs2 : List Value) (A : Option Addr) (ws : List Int) (c : Nat) (sB : Value) (k : Nat) (A0 : Option Addr) (W : World) : Prop where
  bk : boxOf W k = some [.slice A ws.length c, sB]
  s : Sees W W.heap.size 1 A ws.length (ws.map (Value.int .i64))
  fa : 0 < ws.length → ∀ p, A = some p → p.block ≠ g1 ∧ p.block ≠ g2
  b1 : boxOf W g1 = some cs1
  b2 : boxOf W g2 = some cs2
  lo : Below w.heap.size w W
  orr : A = A0 ∨ Fresh w A
theorem st_new {w X : World} {g1 g2 : Nat} {cs1 cs2 : List Value} {A : Option Addr} {ws : List Int} {c : Nat} {sB : Value} (t : TypeId) (hs : Sees X X.heap.size 1 A ws.length (ws.map (Value.int .i64))) (hf : 0 < ws.length → ∀ p, A = some p → p.block ≠ g1 ∧ p.block ≠ g2)
    (b1 : boxOf X g1 = some cs1) (b2 : boxOf X g2 = some cs2) (hB : Below w.heap.size w X) {A0 : Option Addr} (ho : A = A0 ∨ Fresh w A) : StAt w g1 g2 cs1 cs2 A ws c sB X.heap.size A0 (X.alloc (.cells #[.slice A ws.length c, sB] t)) :=
  ⟨boxOf_newA _ _ _ _ rfl, hs.later (belowN X _), hf, boxOf_keep b1 (belowN X _), boxOf_keep b2 (belowN X _), hB.alloc hB.size _, ho⟩
theorem Sees.own1 {w : World} {sz n : Nat} {A : Option Addr} {xs : List Value} (h : Sees w w.heap.size sz A n xs) (g o : Nat) (v : Value) (hA : 0 < n → ∀ p, A = some p → p.block ≠ g) : Sees (w.setCell ⟨g, o, none⟩ v) (w.setCell ⟨g, o, none⟩ v).heap.size sz A n xs := h.setsC g hA [v] o
theorem st_set {w X : World} {g1 g2 k : Nat} {cs1 cs2 zs : List Value} {A : Option Addr} {ws : List Int} {c : Nat} {sB : Value} (hs : Sees X X.heap.size 1 A ws.length (ws.map (Value.int .i64))) (hf : 0 < ws.length → ∀ p, A = some p → p.block ≠ g1 ∧ p.block ≠ g2)
    (b1 : boxOf X g1 = some cs1) (b2 : boxOf X g2 = some cs2) (hB : Below w.heap.size w X) (bk : boxOf X k = some zs) (hz : zs.length = 2) (k1 : k ≠ g1) (k2 : k ≠ g2) (k0 : w.heap.size ≤ k) (hk : 0 < ws.length → ∀ p, A = some p → p.block ≠ k) {A0 : Option Addr} (ho : A = A0 ∨ Fresh w A) :
    StAt w g1 g2 cs1 cs2 A ws c sB k A0 ((X.setCell ⟨k, 0, none⟩ (.slice A ws.length c)).setCell ⟨k, 1, none⟩ sB) := by
  refine ⟨?_, (hs.own1 k 0 _ hk).own1 k 1 _ hk, hf, ?_, ?_, (hB.setCell k0 _).setCell k0 _, ho⟩
  · match zs, hz with
    | [x, y], _ => rw [boxOf_set _ _ _ _ (boxOf_set _ _ _ _ bk)]; rfl
  · rw [boxOf_far _ _ _ _ k1, boxOf_far _ _ _ _ k1]; exact b1
  · rw [boxOf_far _ _ _ _ k2, boxOf_far _ _ _ _ k2]; exact b2
theorem box_newk {W w' : World} {zs : Array Value} {t : TypeId} (hb : Below (W.alloc (.cells zs t)).heap.size (W.alloc (.cells zs t)) w') : boxOf w' W.heap.size = some zs.toList ∧ W.heap.size < w'.heap.size := ⟨boxOf_keep (boxOf_newA _ _ _ _ rfl) hb, by have := hb.size; simp at this; omega⟩
theorem box_newd {W w' : World} {zs : Array Value} {t : TypeId} (hb : Below (W.alloc (.cells zs t)).drew.heap.size (W.alloc (.cells zs t)).drew w') : boxOf w' W.heap.size = some zs.toList ∧ W.heap.size < w'.heap.size := ⟨boxOf_keep (w := (W.alloc (.cells zs t)).drew) (boxOf_newA _ _ _ _ rfl) hb, by have := hb.size; simp at this; omega⟩
theorem box_keep2 {W w' : World} {g : Nat} {cs : List Value} (h : boxOf W g = some cs ∧ g < W.heap.size) (hb : Below W.heap.size W w') : boxOf w' g = some cs ∧ g < w'.heap.size := ⟨boxOf_keep h.1 hb, Nat.lt_of_lt_of_le h.2 hb.size⟩
theorem box_keep2n {W w' : World} {g : Nat} {cs : List Value} {o : Obj} (h : boxOf W g = some cs ∧ g < W.heap.size) (hb : Below (W.alloc o).heap.size (W.alloc o) w') : boxOf w' g = some cs ∧ g < w'.heap.size := box_keep2 (W := W.alloc o) ⟨boxOf_keep h.1 (belowN W o), by simp; omega⟩ hb
theorem keepT4 {w W W' : World} {g gk gz : Nat} {cs ds es : List Value} (h : boxOf W g = some cs ∧ boxOf W gk = some ds ∧ boxOf W gz = some es ∧ Below w.heap.size w W) (hb : Below W.heap.size W W') : boxOf W' g = some cs ∧ boxOf W' gk = some ds ∧ boxOf W' gz = some es ∧ Below w.heap.size w W' := ⟨boxOf_keep h.1 hb, boxOf_keep h.2.1 hb, boxOf_keep h.2.2.1 hb, below_next h.2.2.2 h.2.2.2.size hb⟩
theorem keepT4s {w W : World} {g gk gz : Nat} {cs ds es : List Value} (h : boxOf W g = some cs ∧ boxOf W gk = some ds ∧ boxOf W gz = some es ∧ Below w.heap.size w W) (k i : Nat) (v : Value) (h1 : k ≠ g) (h2 : k ≠ gk) (h3 : k ≠ gz) (h0 : w.heap.size ≤ k) : boxOf (W.setCell ⟨k, i, none⟩ v) g = some cs ∧ boxOf (W.setCell ⟨k, i, none⟩ v) gk = some ds ∧ boxOf (W.setCell ⟨k, i, none⟩ v) gz = some es ∧ Below w.heap.size w (W.setCell ⟨k, i, none⟩ v) :=
  ⟨by rw [boxOf_far _ _ _ _ h1]; exact h.1, by rw [boxOf_far _ _ _ _ h2]; exact h.2.1, by rw [boxOf_far _ _ _ _ h3]; exact h.2.2.1, h.2.2.2.setCell h0 _⟩
/-- The place of a node. -/
def npV (c : Cf) (i n : Int) : Int := nodeV c.x1 (bkV c.x3 c.x4 c.x5) (ndV c.x3) i n
def ndP (u : Tn) : Int := npV u.c u.d.it u.d.nd
theorem late_tn (u : Tn) (a : TA) (w : World) : Calls Try.prog 20 #[.agg (tcs u a).toArray] w (BoolPost (lateB u.d.un u.now) w) := by
  have := late_any u.now u.d.un (.int .i64 u.c.x0) (.int .i64 u.c.x1) (.int .i64 u.c.x2) (.int .i64 u.c.x3) (.int .i64 u.c.x4) (.int .i64 u.c.x5) (.int .i64 u.c.x6) (.int .i64 u.c.x7) (.bool u.c.b) (.int .i64 u.c.x9) (.int .i64 u.c.x10) (.int .i64 u.c.x11) (.int .i64 u.tt) (.slice a.mA u.ws.length a.mc) (.slice a.mB a.bs.length a.md) (.int .i64 u.d.ph) (.int .i64 u.d.it) (.int .i64 u.d.tg) (.int .i64 u.d.v) (.slice a.p.bA u.d.bl.length a.p.bc) (.slice a.p.kA u.d.kl.length a.p.kc) (.slice a.p.hA u.d.hl.length a.p.hc) (.int .i64 u.d.st) (.int .i64 u.d.nd) (.int .i64 u.d.pl) (.int .i64 u.d.ly) (.int .i64 u.d.lf) (.int .i64 u.d.wd) (.int .i64 u.d.who) (.int .i64 u.d.x) (.int .i64 u.d.y) (.slice a.tA u.tl.length a.tc) (.int .i64 u.ta) (.slice a.lA u.ll.length a.lc) (.bool u.dn) w
  with_unfolding_all exact this
/-- Where a thread goes on whose way up is over. -/
def downV (u : Tn) : Tn := if 0 ≤ u.d.pl ∧ u.d.pl < (u.d.hl.length : Int) then { u with d := { u.d with ph := 7 } } else if 0 < u.d.st then { u with d := { u.d with ph := 11 } } else { u with d := { u.d with ph := 2 } }
def overV (u : Tn) : Tn := downV ({ u with d := { u.d with pl := 0 } } : Tn)
def wonV (u : Tn) : Tn := overV ({ u with d := { u.d with st := u.d.nd } } : Tn)
attribute [local irreducible] tcs thc ccs zT
attribute [local go_sem ↓] alTn_is alRn_is
attribute [local go_sem] run_alTnf run_alTnt run_alRnf run_alRnt zT_length
attribute [local go_sem ↓] lbTn_is lbRn_is lbTh_is lbRh_is lbCf_is lbRc_is sbTn_is sbRn_is sbTh_is sbRh_is sbCf_is sbRc_is
attribute [local go_sem] run_lbTn run_lbRn run_lbTh run_lbRh run_lbCf run_lbRc run_sbTn run_sbRn run_sbTh run_sbRh run_sbCf run_sbRc
attribute [local go_sem 2000] boxOf_old'
attribute [local go_sem] boxOf_at' boxOf_free' boxOf_alloc objBox_cells objBox_cellsA boxOf_drew boxOf_setI boxOf_setsI size_sets tcs_length thc_length ccs_length tcs_one thc_one ccs_one sub_tn sub_th sub_cf sub_thAll sub_cfAll put_turn put_thread
attribute [local go_sem] tc0 tc1 tc2 tc3 tc4 tc5 tc6 tc7 tc8 tc9 tc10 tc11 tc12 tc13 tc14 tc15 tc16 tc17 tc18 tc19 tc20 tc21 tc22 tc23 tc24 tc25 tc26 tc27 tc28 tc29 tc30 tc31 tc32 tc33 tc34 tc35 tc36 hc0 hc1 hc2 hc3 hc4 hc5 hc6 hc7 hc8 hc9 hc10 hc11 hc12 hc13 hc14 hc15 hc16 kc0 kc1 kc2 kc3 kc4 kc5 kc6 kc7 kc8 kc9 kc10 kc11 tg0 tg1 tg2 tg3 tg4 tg5 tg6 tg7 tg8 tg9 tg10 tg11 tg12 tg13 tg14 tg15 tg16 tg17 tg18 tg19 tg20 tg21 tg22 tg23 tg24 tg25 tg26 tg27 tg28 tg29 tg30 tg31 tg32 tg33 tg34 tg35 tg36 hg0 hg1 hg2 hg3 hg4 hg5 hg6 hg7 hg8 hg9 hg10 hg11 hg12 hg13 hg14 hg15 hg16 kg0 kg1 kg2 kg3 kg4 kg5 kg6 kg7 kg8 kg9 kg10 kg11
attribute [local go_sem] ts12 ts13 ts14 ts16 ts17 ts18 ts19 ts20 ts21 ts22 ts23 ts24 ts25 ts26 ts27 ts28 ts29 ts30 ts31 ts32 ts33 ts34 ts35 ts36 ts15 hs0 hs1 hs2 hs3 hs7 hs8 hs9 hs10 hs11 hs12 hs13 hs14 hs15 hs16

end Go.Proofs.Ytjghdbkkjhnpfaa
