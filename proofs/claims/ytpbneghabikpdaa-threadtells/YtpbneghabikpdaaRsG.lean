/- The document's Same of threads. -/
import Derived.Test.YtpbneghabikpdaaRsL
import Derived.Test.YtpbneghabikpdaaRsA
import Derived.Test.YtpbneghabikpdaaRsB
import Derived.Test.YtpbneghabikpdaaRsC
import Derived.Test.YtpbneghabikpdaaRsD
namespace Go.Proofs.Ytpbneghabikpdaa
open Go.RowKit Go.Sort
set_option linter.unusedVariables false

theorem rsameAny (a b : Dt) (p q : Ad) (o : DtOk a) (w : World) (ha : ThAt w a p) (hb : ThAt w b q) : Calls Try.prog 12 #[.agg #[.int .i64 a.ph, .int .i64 a.it, .int .i64 a.tg, .int .i64 a.v, .slice p.bA a.bl.length p.bc, .slice p.kA a.kl.length p.kc, .slice p.hA a.hl.length p.hc, .int .i64 a.st, .int .i64 a.nd, .int .i64 a.pl, .int .i64 a.ly, .int .i64 a.lf, .int .i64 a.wd, .int .i64 a.who, .int .i64 a.x, .int .i64 a.y, .int .i64 a.un], .agg #[.int .i64 b.ph, .int .i64 b.it, .int .i64 b.tg, .int .i64 b.v, .slice q.bA b.bl.length q.bc, .slice q.kA b.kl.length q.kc, .slice q.hA b.hl.length q.hc, .int .i64 b.st, .int .i64 b.nd, .int .i64 b.pl, .int .i64 b.ly, .int .i64 b.lf, .int .i64 b.wd, .int .i64 b.who, .int .i64 b.x, .int .i64 b.y, .int .i64 b.un]] w (BoolPost (sameB a b) w) := by
  by_cases hl : a.bl = b.bl ∧ a.hl = b.hl ∧ a.kl = b.kl
  case neg =>
    rw [same_no (fun h => hl ⟨by rw [h], by rw [h], by rw [h]⟩)]
    exact rs_lists a b p q o w ha hb hl
  obtain ⟨e1, e2, e3⟩ := hl
  have hq : ThAt w a q := ⟨by rw [e1]; exact hb.b, by rw [e3]; exact hb.k, by rw [e2]; exact hb.h⟩
  obtain ⟨b_ph, b_it, b_tg, b_v, b_bl, b_kl, b_hl, b_st, b_nd, b_pl, b_ly, b_lf, b_wd, b_who, b_x, b_y, b_un⟩ := b
  simp only at e1 e2 e3
  subst e1 e2 e3
  have E := eql_opR a.tg a.v b_tg b_v
  by_cases uph : a.ph = b_ph
  case neg =>
    rw [same_no (fun h => uph (by rw [h]))]
    have zph : (a.ph == b_ph) = false := beq_eq_false_iff_ne.2 uph
    exact rs_core0 a p q b_ph b_it b_tg b_v b_st b_nd b_pl b_ly b_lf b_wd b_who b_x b_y b_un o w ha hq zph
  have zph : (a.ph == b_ph) = true := beq_iff_eq.2 uph
  by_cases uit : a.it = b_it
  case neg =>
    rw [same_no (fun h => uit (by rw [h]))]
    have zit : (a.it == b_it) = false := beq_eq_false_iff_ne.2 uit
    exact rs_core1 a p q b_ph b_it b_tg b_v b_st b_nd b_pl b_ly b_lf b_wd b_who b_x b_y b_un o w ha hq zph zit
  have zit : (a.it == b_it) = true := beq_iff_eq.2 uit
  by_cases uop : a.tg = b_tg ∧ a.v = b_v
  case neg =>
    rw [same_no (fun h => uop (by rw [h]; exact ⟨rfl, rfl⟩))]
    have zop := E
    rw [decide_eq_false uop] at zop
    exact rs_core2 a p q b_ph b_it b_tg b_v b_st b_nd b_pl b_ly b_lf b_wd b_who b_x b_y b_un o w ha hq zph zit zop
  have zop := E
  rw [decide_eq_true uop] at zop
  by_cases ust : a.st = b_st
  case neg =>
    rw [same_no (fun h => ust (by rw [h]))]
    have zst : (a.st == b_st) = false := beq_eq_false_iff_ne.2 ust
    exact rs_core3 a p q b_ph b_it b_tg b_v b_st b_nd b_pl b_ly b_lf b_wd b_who b_x b_y b_un o w ha hq zph zit zop zst
  have zst : (a.st == b_st) = true := beq_iff_eq.2 ust
  by_cases und : a.nd = b_nd
  case neg =>
    rw [same_no (fun h => und (by rw [h]))]
    have znd : (a.nd == b_nd) = false := beq_eq_false_iff_ne.2 und
    exact rs_core4 a p q b_ph b_it b_tg b_v b_st b_nd b_pl b_ly b_lf b_wd b_who b_x b_y b_un o w ha hq zph zit zop zst znd
  have znd : (a.nd == b_nd) = true := beq_iff_eq.2 und
  by_cases upl : a.pl = b_pl
  case neg =>
    rw [same_no (fun h => upl (by rw [h]))]
    have zpl : (a.pl == b_pl) = false := beq_eq_false_iff_ne.2 upl
    exact rs_core5 a p q b_ph b_it b_tg b_v b_st b_nd b_pl b_ly b_lf b_wd b_who b_x b_y b_un o w ha hq zph zit zop zst znd zpl
  have zpl : (a.pl == b_pl) = true := beq_iff_eq.2 upl
  by_cases uly : a.ly = b_ly
  case neg =>
    rw [same_no (fun h => uly (by rw [h]))]
    have zly : (a.ly == b_ly) = false := beq_eq_false_iff_ne.2 uly
    exact rs_core6 a p q b_ph b_it b_tg b_v b_st b_nd b_pl b_ly b_lf b_wd b_who b_x b_y b_un o w ha hq zph zit zop zst znd zpl zly
  have zly : (a.ly == b_ly) = true := beq_iff_eq.2 uly
  by_cases ulf : a.lf = b_lf
  case neg =>
    rw [same_no (fun h => ulf (by rw [h]))]
    have zlf : (a.lf == b_lf) = false := beq_eq_false_iff_ne.2 ulf
    exact rs_core7 a p q b_ph b_it b_tg b_v b_st b_nd b_pl b_ly b_lf b_wd b_who b_x b_y b_un o w ha hq zph zit zop zst znd zpl zly zlf
  have zlf : (a.lf == b_lf) = true := beq_iff_eq.2 ulf
  by_cases uwd : a.wd = b_wd
  case neg =>
    rw [same_no (fun h => uwd (by rw [h]))]
    have zwd : (a.wd == b_wd) = false := beq_eq_false_iff_ne.2 uwd
    exact rs_core8 a p q b_ph b_it b_tg b_v b_st b_nd b_pl b_ly b_lf b_wd b_who b_x b_y b_un o w ha hq zph zit zop zst znd zpl zly zlf zwd
  have zwd : (a.wd == b_wd) = true := beq_iff_eq.2 uwd
  by_cases uwho : a.who = b_who
  case neg =>
    rw [same_no (fun h => uwho (by rw [h]))]
    have zwho : (a.who == b_who) = false := beq_eq_false_iff_ne.2 uwho
    exact rs_core9 a p q b_ph b_it b_tg b_v b_st b_nd b_pl b_ly b_lf b_wd b_who b_x b_y b_un o w ha hq zph zit zop zst znd zpl zly zlf zwd zwho
  have zwho : (a.who == b_who) = true := beq_iff_eq.2 uwho
  by_cases ux : a.x = b_x
  case neg =>
    rw [same_no (fun h => ux (by rw [h]))]
    have zx : (a.x == b_x) = false := beq_eq_false_iff_ne.2 ux
    exact rs_core10 a p q b_ph b_it b_tg b_v b_st b_nd b_pl b_ly b_lf b_wd b_who b_x b_y b_un o w ha hq zph zit zop zst znd zpl zly zlf zwd zwho zx
  have zx : (a.x == b_x) = true := beq_iff_eq.2 ux
  by_cases uy : a.y = b_y
  case neg =>
    rw [same_no (fun h => uy (by rw [h]))]
    have zy : (a.y == b_y) = false := beq_eq_false_iff_ne.2 uy
    exact rs_core11 a p q b_ph b_it b_tg b_v b_st b_nd b_pl b_ly b_lf b_wd b_who b_x b_y b_un o w ha hq zph zit zop zst znd zpl zly zlf zwd zwho zx zy
  have zy : (a.y == b_y) = true := beq_iff_eq.2 uy
  by_cases uun : a.un = b_un
  case neg =>
    rw [same_no (fun h => uun (by rw [h]))]
    have zun : (a.un == b_un) = false := beq_eq_false_iff_ne.2 uun
    exact rs_core12 a p q b_ph b_it b_tg b_v b_st b_nd b_pl b_ly b_lf b_wd b_who b_x b_y b_un o w ha hq zph zit zop zst znd zpl zly zlf zwd zwho zx zy zun
  have zun : (a.un == b_un) = true := beq_iff_eq.2 uun
  obtain ⟨a_ph, a_it, a_tg, a_v, a_bl, a_kl, a_hl, a_st, a_nd, a_pl, a_ly, a_lf, a_wd, a_who, a_x, a_y, a_un⟩ := a
  obtain ⟨v1, v2⟩ := uop
  simp only at uph uit ust und upl uly ulf uwd uwho ux uy uun v1 v2
  subst uph uit ust und upl uly ulf uwd uwho ux uy uun v1 v2
  rw [sameB_self]
  exact rsame_yes _ p q o w ha hq
end Go.Proofs.Ytpbneghabikpdaa
