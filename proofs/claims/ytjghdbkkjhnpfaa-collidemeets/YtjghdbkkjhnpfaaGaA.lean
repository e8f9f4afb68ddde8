/- Layer 14: what a step does, as plain data; places of nodes; onward. -/
import Derived.Test.YtjghdbkkjhnpfaaClA
import Derived.Test.YtjghdbkkjhnpfaaTnI
import Derived.Test.YtjghdbkkjhnpfaaArT
import Derived.Test.YtjghdbkkjhnpfaaM4
import Derived.Test.YtjghdbkkjhnpfaaM5
import Derived.Test.YtjghdbkkjhnpfaaM6
import Derived.Lib.QuietBelow
import Derived.Deep.QuietTactic
import Derived.BigQuiet
namespace Go.Proofs.Ytjghdbkkjhnpfaa
open Go.RowKit Go.Sort
set_option linter.unusedVariables false
set_option linter.unusedSimpArgs false

/-- The place of a held node, of the node where a thread joined. -/
def hdN (u : Tn) : Int := u.d.hl[u.d.pl.toNat]?.getD 0
def hdP (u : Tn) : Int := if inR u.d.hl.length u.d.pl = true then npV u.c u.d.it (hdN u) else -1
def stP (u : Tn) : Int := npV u.c u.d.it u.d.st
/-- A turn behind a node. -/
def nxG (u : Tn) : Tn := downV ({ u with d := { u.d with pl := wrap64 (u.d.pl + 1) } } : Tn)
/-- .. to which a batch was left. -/
def tkG (u : Tn) (who : Int) (b : List E3) : Tn := ({ u with d := { u.d with kl := u.d.kl ++ [(who, (u.d.bl.length : Int))], bl := u.d.bl ++ b } } : Tn)
def lokG (u : Tn) : Tn := if erV u.ws.length (hdP u) = 0 then (if ldV u.ws (hdP u) = frV 1 u.tt then ({ u with d := { u.d with ph := 8 } } : Tn) else if kdV (ldV u.ws (hdP u)) = 3 then { u with d := { u.d with who := whV (ldV u.ws (hdP u)), ph := 9 } } else u) else u
def relG (u : Tn) : Tn := if erV u.ws.length (hdP u) = 0 then (if casB u.ws (hdP u) (frV 1 u.tt) = true then nxG { u with ws := casV u.ws (hdP u) (frV 1 u.tt) 0 } else ({ u with d := { u.d with ph := 7 } } : Tn)) else u
def colG (u : Tn) : Tn := if erV u.bx.length u.d.who = 0 then { (tkG u u.d.who (bxV u.bx u.d.who)) with d := { (tkG u u.d.who (bxV u.bx u.d.who)).d with ph := 10 } } else u
def freG (u : Tn) : Tn := if erV u.ws.length (hdP u) = 0 then nxG { u with ws := stV u.ws (hdP u) 0 } else u
def pubG (u : Tn) : Tn := if erV u.bx.length u.tt = 0 then { u with bx := ptV u.bx u.tt u.d.bl, d := { u.d with ph := 12 } } else u
def depG (u : Tn) : Tn := if erV u.ws.length (stP u) = 0 then { u with ws := stV u.ws (stP u) (frV 3 u.tt), d := { u.d with ph := 13 } } else u
def stepG (u : Tn) : Tn := if u.d.ph = 7 then lokG u else if u.d.ph = 8 then relG u else if u.d.ph = 9 then colG u else if u.d.ph = 10 then freG u else if u.d.ph = 11 then pubG u else if u.d.ph = 12 then depG u else u
def isG (u : Tn) : Bool := u.d.ph == 7 || u.d.ph == 8 || u.d.ph == 9 || u.d.ph == 10 || u.d.ph == 11 || u.d.ph == 12

/-- A block in which no list of the turn lies. -/
structure Off (g : Nat) (u : Tn) (a : TA) : Prop where
  w : 0 < u.ws.length → ∀ p, a.mA = some p → p.block ≠ g
  x : 0 < a.bs.length → ∀ p, a.mB = some p → p.block ≠ g
  e : ∀ q ∈ a.bs, 0 < q.l.length → ∀ p, q.A = some p → p.block ≠ g
  b : 0 < u.d.bl.length → ∀ p, a.p.bA = some p → p.block ≠ g
  k : 0 < u.d.kl.length → ∀ p, a.p.kA = some p → p.block ≠ g
  h : 0 < u.d.hl.length → ∀ p, a.p.hA = some p → p.block ≠ g
  t : 0 < u.tl.length → ∀ p, a.tA = some p → p.block ≠ g
  l : 0 < u.ll.length → ∀ p, a.lA = some p → p.block ≠ g
theorem Sees.off {w : World} {sz n : Nat} {A : Option Addr} {xs : List Value} (h : Sees w w.heap.size sz A n xs) {g : Nat} (hg : w.heap.size ≤ g) : 0 < n → ∀ p, A = some p → p.block ≠ g := fun hn p hp => by have := h.block_lt hn p hp; omega
theorem TnAt.off {w : World} {u : Tn} {a : TA} (h : TnAt w u a) {g : Nat} (hg : w.heap.size ≤ g) : Off g u a := ⟨h.m.words.off hg, h.m.bxs.off hg, fun q hq => (show Sees w w.heap.size 3 q.A q.l.length (ecells q.l) from h.m.each q hq).off hg, h.th.b.off hg, h.th.k.off hg, h.th.h.off hg, h.tp.off hg, h.lg.off hg⟩
theorem TnAt.sets {w : World} {u : Tn} {a : TA} (h : TnAt w u a) {g : Nat} (f : Off g u a) (cs : List Value) (o : Nat) : TnAt (w.setCells g o cs) u a :=
  ⟨⟨⟨h.m.words.setsC g f.w cs o, h.m.bxs.setsC g f.x cs o, fun q hq => (show Sees w w.heap.size 3 q.A q.l.length (ecells q.l) from h.m.each q hq).setsC g (f.e q hq) cs o⟩, h.m.few, h.m.fewb, h.m.short⟩, h.bx, ⟨h.th.b.setsC g f.b cs o, h.th.k.setsC g f.k cs o, h.th.h.setsC g f.h cs o⟩, h.tp.setsC g f.t cs o, h.lg.setsC g f.l cs o⟩
theorem TnAt.set1 {w : World} {u : Tn} {a : TA} (h : TnAt w u a) {g : Nat} (f : Off g u a) (o : Nat) (v : Value) : TnAt (w.setCell ⟨g, o, none⟩ v) u a := h.sets f [v] o
/-- Behind a step: how the turn lies, and that no list of it came to lie in an elder block. -/
def GPost (v u : Tn) (a : TA) (w : World) (e : Ending) (w' : World) : Prop := ∃ b, e = .returned (.agg (tcs v b).toArray) ∧ TnAt w' v b ∧ (∀ g, g < w.heap.size → Off g u a → Off g v b) ∧ Below w.heap.size w w'
/-- The same lists. -/
structure Lk (u v : Tn) : Prop where
  ws : v.ws = u.ws
  bx : v.bx = u.bx
  bl : v.d.bl = u.d.bl
  kl : v.d.kl = u.d.kl
  hl : v.d.hl = u.d.hl
  tl : v.tl = u.tl
  ll : v.ll = u.ll
theorem Lk.refl (u : Tn) : Lk u u := ⟨rfl, rfl, rfl, rfl, rfl, rfl, rfl⟩
theorem Lk.trans {u v x : Tn} (h : Lk u v) (k : Lk v x) : Lk u x := ⟨k.ws.trans h.ws, k.bx.trans h.bx, k.bl.trans h.bl, k.kl.trans h.kl, k.hl.trans h.hl, k.tl.trans h.tl, k.ll.trans h.ll⟩
theorem Lk.at {u v : Tn} {a : TA} {w : World} (l : Lk u v) (h : TnAt w u a) : TnAt w v a := ⟨by rw [l.ws]; exact h.m, by rw [l.bx]; exact h.bx, ⟨by rw [l.bl]; exact h.th.b, by rw [l.kl]; exact h.th.k, by rw [l.hl]; exact h.th.h⟩, by rw [l.tl]; exact h.tp, by rw [l.ll]; exact h.lg⟩
theorem Lk.off {u v : Tn} {a : TA} {g : Nat} (l : Lk u v) (h : Off g u a) : Off g v a := ⟨by rw [l.ws]; exact h.w, h.x, h.e, by rw [l.bl]; exact h.b, by rw [l.kl]; exact h.k, by rw [l.hl]; exact h.h, by rw [l.tl]; exact h.t, by rw [l.ll]; exact h.l⟩
theorem gp_tp {v u : Tn} {a : TA} {w w' : World} {e : Ending} (l : Lk u v) (h : TnAt w u a) (p : TPost v a w e w') : GPost v u a w e w' := ⟨a, p.1, l.at (h.later p.2), fun g _ f => l.off f, p.2⟩
theorem down_lk (u : Tn) : Lk u (downV u) := by unfold downV; split; exact ⟨rfl, rfl, rfl, rfl, rfl, rfl, rfl⟩; split <;> exact ⟨rfl, rfl, rfl, rfl, rfl, rfl, rfl⟩
theorem nx_lk (u : Tn) : Lk u (nxG u) := Lk.trans (v := ({ u with d := { u.d with pl := wrap64 (u.d.pl + 1) } } : Tn)) ⟨rfl, rfl, rfl, rfl, rfl, rfl, rfl⟩ (down_lk _)
theorem lok_lk (u : Tn) : Lk u (lokG u) := by unfold lokG; repeat (first | exact Lk.refl u | exact ⟨rfl, rfl, rfl, rfl, rfl, rfl, rfl⟩ | split)
theorem hs4 (d : Dt) (p : Ad) (A : Option Addr) (l : List E3) (k : Nat) : (thc d p).set 4 (.slice A l.length k) = thc { d with bl := l } { p with bA := A, bc := k } := id rfl
theorem hs5 (d : Dt) (p : Ad) (A : Option Addr) (l : List (Int × Int)) (k : Nat) : (thc d p).set 5 (.slice A l.length k) = thc { d with kl := l } { p with kA := A, kc := k } := id rfl
theorem hdN_i64 {u : Tn} (o : TnOk u) : I64 (hdN u) := by
  unfold hdN
  cases he : u.d.hl[u.d.pl.toNat]? with
  | none => exact i64_k 0 (by decide)
  | some x => exact o.f.h x (List.mem_of_getElem? he)
theorem fr_i64 {k t : Int} (hk : 0 ≤ k ∧ k ≤ 5) (ht : 0 ≤ t ∧ t ≤ 15) : I64 (frV k t) := by unfold frV I64; omega
theorem TnOk.ipl' {u : Tn} (o : TnOk u) : I64 u.d.pl := o.f.n _ (by simp [Dt.nums])
theorem TnOk.iit {u : Tn} (o : TnOk u) : I64 u.d.it := o.f.n _ (by simp [Dt.nums])
theorem TnOk.ist {u : Tn} (o : TnOk u) : I64 u.d.st := o.f.n _ (by simp [Dt.nums])
theorem TnOk.iwho {u : Tn} (o : TnOk u) : I64 u.d.who := o.f.n _ (by simp [Dt.nums])
attribute [local irreducible] tcs thc ccs zT
attribute [local go_sem ↓] alTn_is alRn_is
attribute [local go_sem] run_alTnf run_alTnt run_alRnf run_alRnt zT_length
attribute [local go_sem ↓] lbTn_is lbRn_is lbTh_is lbRh_is lbCf_is lbRc_is sbTn_is sbRn_is sbTh_is sbRh_is sbCf_is sbRc_is
attribute [local go_sem] run_lbTn run_lbRn run_lbTh run_lbRh run_lbCf run_lbRc run_sbTn run_sbRn run_sbTh run_sbRh run_sbCf run_sbRc
attribute [local go_sem 2000] boxOf_old'
attribute [local go_sem] boxOf_at' boxOf_free' boxOf_alloc objBox_cells objBox_cellsA boxOf_drew boxOf_setI boxOf_setsI size_sets tcs_length thc_length ccs_length tcs_one thc_one ccs_one sub_tn sub_th sub_cf sub_thAll sub_cfAll put_turn put_thread
attribute [local go_sem] tc0 tc1 tc2 tc3 tc4 tc5 tc6 tc7 tc8 tc9 tc10 tc11 tc12 tc13 tc14 tc15 tc16 tc17 tc18 tc19 tc20 tc21 tc22 tc23 tc24 tc25 tc26 tc27 tc28 tc29 tc30 tc31 tc32 tc33 tc34 tc35 tc36 hc0 hc1 hc2 hc3 hc4 hc5 hc6 hc7 hc8 hc9 hc10 hc11 hc12 hc13 hc14 hc15 hc16 kc0 kc1 kc2 kc3 kc4 kc5 kc6 kc7 kc8 kc9 kc10 kc11 tg0 tg1 tg2 tg3 tg4 tg5 tg6 tg7 tg8 tg9 tg10 tg11 tg12 tg13 tg14 tg15 tg16 tg17 tg18 tg19 tg20 tg21 tg22 tg23 tg24 tg25 tg26 tg27 tg28 tg29 tg30 tg31 tg32 tg33 tg34 tg35 tg36 hg0 hg1 hg2 hg3 hg4 hg5 hg6 hg7 hg8 hg9 hg10 hg11 hg12 hg13 hg14 hg15 hg16 kg0 kg1 kg2 kg3 kg4 kg5 kg6 kg7 kg8 kg9 kg10 kg11
attribute [local go_sem] ts12 ts13 ts14 ts16 ts17 ts18 ts19 ts20 ts21 ts22 ts23 ts24 ts25 ts26 ts27 ts28 ts29 ts30 ts31 ts32 ts33 ts34 ts35 ts36 ts15 hs0 hs1 hs2 hs3 hs7 hs8 hs9 hs10 hs11 hs12 hs13 hs14 hs15 hs16

attribute [local go_sem] hs4 hs5
end Go.Proofs.Ytjghdbkkjhnpfaa
