import PyProof.Rows.All
import Wide.All
import OpenK.AllK
import Wide.FinOn
import HandS.ForMost
import HandS.Wide
import HandS.Style
import HandS.Codes
import HandS.Conv
import HandS.OwnEq
import HandS.TupAny
import HandS.Flow
import HandS.IsInst
import HandS.Deep
import PySem.Challenge.RW_farcalls_k25_wires_step_by_step
set_option Elab.async false
set_option maxRecDepth 100000
set_option maxHeartbeats 4000000
namespace K3
open PySem L2
def top (i : Nat) : Stmt := PySem.Challenge.pw_farcalls_k25_wires_step_by_step.main.body.getD i (.Pass ⟨0, 0, 0, 0⟩)
abbrev sPen : Stmt := top 10
abbrev sDraw : Stmt := top 11
abbrev sPick : Stmt := top 12
/-! ### frames -/
/-- all that stood stands as it stood, but at M -/
def But (M : Addr → Prop) (H H' : Hp) : Prop := ∀ b o, ¬ M b → H b = some o → H' b = some o
theorem But.refl (M : Addr → Prop) (H : Hp) : But M H H := fun _ _ _ h => h
theorem But.trans {M : Addr → Prop} {H H1 H2 : Hp} (a : But M H H1) (b : But M H1 H2) : But M H H2 := fun c o m h => b c o m (a c o m h)
theorem But.new {M : Addr → Prop} {H H' : Hp} (a : But M H H') {p : Addr} {o : HO} (h : H' p = none) : But M H (upd H' p o) := fun c u m e => by
  have e1 := a c u m e
  rw [upd_ne (ne_of_none e1 h)]
  exact e1
theorem But.mut {M : Addr → Prop} {H H' : Hp} (a : But M H H') {p : Addr} {o : HO} (h : M p) : But M H (upd H' p o) := fun c u m e => by
  have e1 := a c u m e
  rw [upd_ne (fun z => m (by rw [z]; exact h))]
  exact e1
theorem But.mono {M N : Addr → Prop} {H H' : Hp} (a : But M H H') (h : ∀ b, M b → N b) : But N H H' := fun c o m e => a c o (fun z => m (h c z)) e
/-- what was new and is not M is new or .. (used for new objects made on the way) -/
theorem But.mutNew {M : Addr → Prop} {H H' : Hp} (a : But M H H') {p : Addr} {o : HO} (h : H p = none) : But M H (upd H' p o) := fun c u m e => by
  have e1 := a c u m e
  rw [upd_ne (ne_of_none e h)]
  exact e1
theorem But.free {M : Addr → Prop} {H H' : Hp} (a : But M H H') {l : Addr} (h : H' l = none) (n : ¬ M l) : H l = none := by
  cases q : H l with
  | none => rfl
  | some o =>
    rw [a l o n q] at h
    cases h
/-! ### the pen -/
def penK (c : Addr) (at' lf : Int) : List (Key × V) := [(Sum.inr "cells", .ref c), (Sum.inr "at", .int at'), (Sum.inr "left", .int lf)]
/-- the pen at p, its cells the list at c; at most n were begun -/
def Pen (H : Hp) (p c : Addr) (ns : List Int) (n : Nat) : Prop :=
  ∃ at' lf : Int, 0 ≤ at' ∧ at' ≤ (n : Int) ∧ 0 ≤ lf ∧ H p = some (.dK (penK c at' lf)) ∧ H c = some (.lst (ns.map V.int)) ∧ ns.length ≤ 63
theorem pen_cells (c : Addr) (a l : Int) : valV (penK c a l) (Sum.inr "cells") = some (.ref c) := rfl
theorem pen_at (c : Addr) (a l : Int) : valV (penK c a l) (Sum.inr "at") = some (.int a) := rfl
theorem pen_left (c : Addr) (a l : Int) : valV (penK c a l) (Sum.inr "left") = some (.int l) := rfl
theorem pen_put_at (c : Addr) (a l b : Int) : putK (penK c a l) (Sum.inr "at") (.int b) = penK c b l := rfl
theorem pen_put_left (c : Addr) (a l b : Int) : putK (penK c a l) (Sum.inr "left") (.int b) = penK c a b := rfl
theorem pen_gl {H : Hp} {p c : Addr} {a l : Int} (h : H p = some (.dK (penK c a l))) : DGet H p (.str "left") (some (.int l)) := DGet.k (k := Sum.inr "left") h
theorem pen_ga {H : Hp} {p c : Addr} {a l : Int} (h : H p = some (.dK (penK c a l))) : DGet H p (.str "at") (some (.int a)) := DGet.k (k := Sum.inr "at") h
theorem pen_gc {H : Hp} {p c : Addr} {a l : Int} (h : H p = some (.dK (penK c a l))) : DGet H p (.str "cells") (some (.ref c)) := DGet.k (k := Sum.inr "cells") h
theorem pen_pl {H : Hp} {p c : Addr} {a l b : Int} (h : H p = some (.dK (penK c a l))) : DPut H p (.str "left") (.int b) (upd H p (.dK (penK c a b))) := DPut.k (k := Sum.inr "left") h (by show 3 < sizeLine; decide)
theorem pen_pa {H : Hp} {p c : Addr} {a l b : Int} (h : H p = some (.dK (penK c a l))) : DPut H p (.str "at") (.int b) (upd H p (.dK (penK c b l))) := DPut.k (k := Sum.inr "at") h (by show 3 < sizeLine; decide)
theorem dp_ints {K : PySem.W.Frag} {H : Hp} : ∀ ns : List Int, DpAll K H (ns.map V.int) (ns.map PyData.int)
  | [] => .nil
  | n :: r => .cons (.int n) (dp_ints r)
theorem lay_ints : ∀ ns : List Int, PyData.canLayAll0 (ns.map PyData.int) = true ∧ PyData.depthAll (ns.map PyData.int) ≤ 1
  | [] => ⟨rfl, Nat.zero_le _⟩
  | n :: r => by
    obtain ⟨a, b⟩ := lay_ints r
    simp only [List.map_cons, PyData.canLayAll0, PyData.canLay0, PyData.depthAll, PyData.depth, a, Bool.and_self, true_and]
    omega
theorem shaped_ints (ns : List Int) : SeqAt.shaped (.list (ns.map PyData.int)) = true := by
  obtain ⟨a, b⟩ := lay_ints ns
  unfold SeqAt.shaped
  simp only [PyData.canLay0, PyData.depth, a, Bool.true_and]
  exact decide_eq_true (by omega)
theorem eqv_ints (ns : List Int) : PyData.eqv (.list (ns.map PyData.int)) (.list []) = ns.isEmpty := by
  cases ns <;> rfl
theorem atI_int {α : Type} {xs : List α} {i : Int} {v : α} (h0 : 0 ≤ i) (h : xs[i.toNat]? = some v) : atI xs i = some v := by
  have e : ((i.toNat : Nat) : Int) = i := Int.toNat_of_nonneg h0
  rw [← e]
  exact atI_nat h
theorem get_map_int {ns : List Int} {j : Nat} (h : j < ns.length) : (ns.map V.int)[j]? = some (V.int ns[j]) := by
  rw [List.getElem?_map, List.getElem?_eq_getElem h]
  rfl
structure Txt (mg : Str → Option Value) : Prop where
  len : mg "len" = none
  abs : mg "abs" = none
  list : mg "list" = none
  tuple : mg "tuple" = none
  dict : mg "dict" = none
  range : mg "range" = none
  int : mg "int" = none
  max : mg "max" = none
  sorted : mg "sorted" = none
  repr : mg "repr" = none
  isinstance : mg "isinstance" = none
def spDraw : Sp := fun vs H Q _ => ∃ (p c : Addr) (ns : List Int) (n : Nat) (m : Int), vs = [.ref p, .int m] ∧ Pen H p c ns n ∧ n ≤ 1000000000 ∧ 1 ≤ m ∧ m ≤ 1000000 ∧
  ∀ (r : Int) (H' : Hp), 0 ≤ r → r < m → Pen H' p c ns (n + 1) → But (· = p) H H' → Q (.int r) H'
end K3
namespace K3
open PySem L2
section
variable {P : Program} {w : World} {K : PySem.W.Frag} {mg : Str → Option Value} {base : Heap}
theorem scD : FnScope ["_law_pen_here", "_law_many", "_law_digit", "_law_at", "_law_cell", "_law_number"] ["_law_pen_here", "_law_many"] (defScope sDraw) := ⟨rfl, rfl, rfl, by decide +kernel, rfl, by decide +kernel, by decide +kernel⟩
theorem ok_draw {f : Addr} {fd : FuncData} (F : Fun K "_law_draw" "_law_draw" sDraw f fd) (T : Txt mg) : FnOk P w K mg base CX0 1 f fd ["_law_pen_here", "_law_many"] spDraw := by
  refine F.ok scD (fun vs H Q E h => ?_) (fun cdv A outer s H vs Q E hr h => ?_)
  · obtain ⟨p, c, ns, n, m, rfl, _⟩ := h
    rfl
  · obtain ⟨p, c, ns, n, m, rfl, ⟨at', lf, a0, a1, l0, hp, hc, h63⟩, hn, m1, m2, k⟩ := h
    have hu := hu_of hr
    refine ⟨_, pss_cons (ps_if (pt_cmpR op_gt (pe_dget hu (pv 0) pe_str (fun _ _ => rfl)) pe_int (nomark _))
        (pss_cons (ps_set (i := 2) scD.nd rfl (.inl rfl) (pe_op op_modN (pe_dget hu (pv 0) pe_str (fun _ _ => rfl)) (pv 1)))
        (pss_cons (ps_dput hu (pv 0) pe_str (pe_op op_fdivN (pe_dget hu (pv 0) pe_str (fun _ _ => rfl)) (pv 1)) rfl)
        (pss_one (ps_ret (pv 2))))) pss_nil)
      (pss_cons (ps_set (i := 3) scD.nd rfl (.inl rfl) (pe_dget hu (pv 0) pe_str (fun _ _ => rfl)))
      (pss_cons (ps_dput hu (pv 0) pe_str (pe_op op_add (pv 3) pe_int) rfl)
      (pss_cons (ps_set (i := 4) scD.nd rfl (.inl rfl) pe_int)
      (C8.pss_cut (ps_if (pt_cmpR (op_neD hr.units) (pe_dget hu (pv 0) pe_str (fun _ _ => rfl)) (pe_lst pa_nil) (nomark _))
        (pss_one (ps_set (i := 4) scD.nd rfl (.inl rfl) (pe_ix ix_list (pe_dget hu (pv 0) pe_str (fun _ _ => rfl)) (pe_op op_modN (pv 3) (pe_callB call_len_seq (by rfl) T.len PySem.boot_len (pa_cons (pe_dget hu (pv 0) pe_str (fun _ _ => rfl)) pa_nil))) (fun _ _ => rfl)))) pss_nil)
      (C8.pss_cut (ps_if (PW.pt (pw_and (pt_cmpR op_lt (pv 3) (pe_callB call_len_seq (by rfl) T.len PySem.boot_len (pa_cons (pe_dget hu (pv 0) pe_str (fun _ _ => rfl)) pa_nil)) (nomark _)) (pw_and1 (pt_cmpR op_ge (pe_callB call_abs (by rfl) T.abs (by decide +kernel) (pa_cons (pv 4) pa_nil)) (pe_op op_pow pe_int pe_int) (nomark _)))))
        (pss_cons (ps_dput hu (pv 0) pe_str (pe_op op_fdivN (pe_op op_sub (pe_callB call_abs (by rfl) T.abs (by decide +kernel) (pa_cons (pv 4) pa_nil)) (pe_op op_pow pe_int pe_int)) (pv 1)) rfl)
        (pss_one (ps_ret (pe_op op_modN (pe_op op_sub (pe_callB call_abs (by rfl) T.abs (by decide +kernel) (pa_cons (pv 4) pa_nil)) (pe_op op_pow pe_int pe_int)) (pv 1))))) pss_nil)
      (pss_cons (ps_set (i := 5) scD.nd rfl (.inl rfl) (pe_op op_add (pe_op op_add (pe_op op_add (pe_op op_modN (pv 4) pe_int) (pe_op op_mul (pe_op op_mul pe_int (pv 3)) (pv 3))) (pe_op op_mul pe_int (pv 3))) pe_int))
      (C8.pss_cut (ps_set (i := 5) scD.nd rfl (.inl rfl) (pe_op op_modN (pe_op op_mul (pv 5) pe_int) pe_int))
      (C8.pss_cut (ps_set (i := 5) scD.nd rfl (.inl rfl) (pe_op op_modN (pe_op op_add (pe_op op_add (pe_op op_mul (pv 5) (pv 5)) (pe_op op_mul pe_int (pv 5))) (pv 3)) pe_int))
      (pss_one (ps_ret (pe_op op_modN (pe_op op_fdivN (pe_op op_modN (pe_op op_mul (pv 5) (pe_op op_add (pv 5) pe_int)) pe_int) pe_int) (pv 1)))))))))))), ?_⟩
    have npc : p ≠ c := ne_of hp hc (by intro z; cases z)
    have nm : m ≠ 0 := by omega
    have dm : CDivN 0 m := ⟨nm, by omega⟩
    refine ⟨_, rfl, p, _, rfl, pen_gl hp, lf, 0, rfl, rfl, _, rfl, ?_⟩
    refine ite2 (fun hl => ?_) (fun hl => ?_)
    · -- a great one's next digit
      refine ⟨_, rfl, p, _, rfl, pen_gl hp, _, rfl, _, _, rfl, rfl, nm, ?_⟩
      refine ⟨_, rfl, p, _, rfl, pen_gl hp, _, rfl, _, _, rfl, rfl, dm, _, rfl, p, _, rfl, pen_pl hp, ?_⟩
      refine ⟨_, rfl, ?_⟩
      refine k _ _ (Int.fmod_nonneg_of_pos _ (by omega)) (Int.fmod_lt_of_pos _ (by omega)) ⟨at', _, a0, by omega, ?_, upd_same, by rw [upd_ne npc.symm]; exact hc, h63⟩ ((But.refl _ H).mut rfl)
      rw [Int.fdiv_eq_ediv_of_nonneg _ (by omega)]
      exact Int.ediv_nonneg l0 (by omega)
    · -- the cell, mixed
      refine ⟨_, rfl, p, _, rfl, pen_ga hp, ?_⟩
      refine ⟨_, rfl, _, _, rfl, rfl, _, rfl, p, _, rfl, pen_pa hp, ?_⟩
      have hp1 : upd H p (HO.dK (penK c (at' + 1) lf)) p = some (.dK (penK c (at' + 1) lf)) := upd_same
      have hc1 : upd H p (HO.dK (penK c (at' + 1) lf)) c = some (.lst (ns.map V.int)) := by rw [upd_ne npc.symm]; exact hc
      have b1 : But (· = p) H (upd H p (HO.dK (penK c (at' + 1) lf))) := (But.refl _ H).mut rfl
      generalize upd H p (HO.dK (penK c (at' + 1) lf)) = H1 at hp1 hc1 b1 ⊢
      refine ⟨fun σ' H' => (∃ cell : Int, σ' = [some (.ref p), some (.int m), none, some (.int at'), some (.int cell), none]) ∧ H' p = some (.dK (penK c (at' + 1) lf)) ∧ H' c = some (.lst (ns.map V.int)) ∧ But (· = p) H H', ?_, ?_⟩
      · refine ⟨_, rfl, p, _, rfl, pen_gc hp1, Nat.zero_le _, fun l hl => ?_⟩
        have hp2 : upd H1 l (.lst []) p = some (.dK (penK c (at' + 1) lf)) := by rw [upd_ne (ne_of_none hp1 hl)]; exact hp1
        have hc2 : upd H1 l (.lst []) c = some (.lst (ns.map V.int)) := by rw [upd_ne (ne_of_none hc1 hl)]; exact hc1
        have hl2 : upd H1 l (.lst []) l = some (.lst []) := upd_same
        have b2 : But (· = p) H (upd H1 l (.lst [])) := b1.new hl
        generalize upd H1 l (.lst []) = H2 at hp2 hc2 hl2 b2 ⊢
        refine ⟨_, _, .lst (SqL.of hc2) (dp_ints ns), .lst (SqL.of hl2) .nil, shaped_ints ns, by decide +kernel, _, rfl, ?_⟩
        rw [eqv_ints]
        cases he : ns.isEmpty with
        | true => exact iteF ⟨⟨_, rfl⟩, hp2, hc2, b2⟩
        | false =>
          have hlen : 1 ≤ ns.length := by
            cases ns with
            | nil => cases he
            | cons _ _ => exact Nat.le_add_left _ _
          have hm1 := Int.fmod_nonneg_of_pos at' (b := ((ns.map V.int).length : Int)) (by rw [List.length_map]; omega)
          have hm2 := Int.fmod_lt_of_pos at' (b := ((ns.map V.int).length : Int)) (by rw [List.length_map]; omega)
          have hidx : (at'.fmod ((ns.map V.int).length : Int)).toNat < ns.length := by rw [List.length_map] at hm1 hm2 ⊢; omega
          have hat := atI_int hm1 (get_map_int hidx)
          refine iteT ?_
          refine ⟨_, rfl, p, _, rfl, pen_gc hp2, _, rfl, _, rfl, p, _, rfl, pen_gc hp2, c, _, rfl, .inl (SqL.of hc2), _, _, rfl, rfl, (by rw [List.length_map]; omega), c, _, _, _, rfl, rfl, SqL.of hc2, hat, ?_⟩
          exact ⟨⟨_, rfl⟩, hp2, hc2, b2⟩
      · rintro σ' H2 ⟨⟨cell, rfl⟩, hp2, hc2, b2⟩
        have ab : ∀ x : Int, 0 ≤ (if x < 0 then -x else x) := fun x => by split <;> omega
        refine ⟨fun σ' H' => σ' = [some (.ref p), some (.int m), none, some (.int at'), some (.int cell), none] ∧ H' p = some (.dK (penK c (at' + 1) lf)) ∧ H' c = some (.lst (ns.map V.int)) ∧ But (· = p) H H', ?_, ?_⟩
        · refine ⟨_, rfl, _, rfl, p, _, rfl, pen_gc hp2, c, _, rfl, .inl (SqL.of hc2), _, _, rfl, rfl, _, rfl, ?_⟩
          refine ite2 (fun ha => ?_) (fun ha => ?_)
          · refine ⟨_, rfl, _, rfl, _, _, rfl, rfl, ⟨by decide, by decide, by decide⟩, _, _, rfl, rfl, _, rfl, ?_⟩
            refine ite2 (fun hg => ?_) (fun hg => ?_)
            · have hge : (10 : Int) ^ (Int.toNat 18) ≤ (if cell < 0 then -cell else cell) := of_decide_eq_true hg
              refine ⟨_, rfl, _, rfl, _, _, rfl, rfl, ⟨by decide, by decide, by decide⟩, _, _, rfl, rfl, _, rfl, _, _, rfl, rfl, dm, _, rfl, p, _, rfl, pen_pl hp2, ?_⟩
              refine ⟨_, rfl, _, rfl, _, _, rfl, rfl, ⟨by decide, by decide, by decide⟩, _, _, rfl, rfl, _, rfl, _, _, rfl, rfl, nm, ?_⟩
              refine k _ _ (Int.fmod_nonneg_of_pos _ (by omega)) (Int.fmod_lt_of_pos _ (by omega)) ⟨at' + 1, _, by omega, by omega, ?_, upd_same, by rw [upd_ne npc.symm]; exact hc2, h63⟩ (b2.mut rfl)
              rw [Int.fdiv_eq_ediv_of_nonneg _ (by omega)]
              exact Int.ediv_nonneg (by omega) (by omega)
            · exact ⟨rfl, hp2, hc2, b2⟩
          · exact ⟨rfl, hp2, hc2, b2⟩
        · rintro σ' H3 ⟨rfl, hp3, hc3, b3⟩
          have sq : 0 ≤ at' * at' := Int.mul_nonneg a0 a0
          have at9 : at' ≤ 1000000000 := Int.le_trans a1 (Int.ofNat_le.mpr hn)
          refine ⟨_, rfl, _, _, rfl, rfl, (show (2147483629 : Int) ≠ 0 by decide), _, rfl, _, _, rfl, rfl, .inl ⟨by decide, by decide⟩, _, rfl, _, _, rfl, rfl, .inl ⟨by omega, by omega⟩, _, _, rfl, rfl, _, rfl, _, _, rfl, rfl, .inl ⟨by decide, by decide⟩, _, _, rfl, rfl, _, _, rfl, rfl, ?_⟩
          refine ⟨fun σ' H' => ∃ y : Int, 0 ≤ y ∧ y < 2147483647 ∧ σ' = [some (.ref p), some (.int m), none, some (.int at'), some (.int cell), some (.int y)] ∧ H' = H3, ?_, ?_⟩
          · exact ⟨_, rfl, _, _, rfl, rfl, .inr ⟨by decide, by decide⟩, _, _, rfl, rfl, (show (2147483647 : Int) ≠ 0 by decide), _, Int.fmod_nonneg_of_pos _ (by decide), Int.fmod_lt_of_pos _ (by decide), rfl, rfl⟩
          · rintro σ' H' ⟨y, y0, y1, rfl, rfl⟩
            refine ⟨fun σ2 H2 => ∃ y : Int, 0 ≤ y ∧ y < 2147483587 ∧ σ2 = [some (.ref p), some (.int m), none, some (.int at'), some (.int cell), some (.int y)] ∧ H2 = H', ?_, ?_⟩
            · exact ⟨_, rfl, _, rfl, _, _, rfl, rfl, .inl ⟨by omega, by omega⟩, _, rfl, _, _, rfl, rfl, .inl ⟨by decide, by decide⟩, _, _, rfl, rfl, _, rfl, _, _, rfl, rfl, _, _, rfl, rfl, (show (2147483587 : Int) ≠ 0 by decide), _, Int.fmod_nonneg_of_pos _ (by decide), Int.fmod_lt_of_pos _ (by decide), rfl, rfl⟩
            · rintro σ2 H2 ⟨z, z0, z1, rfl, rfl⟩
              refine ⟨_, rfl, _, rfl, _, _, rfl, rfl, _, _, rfl, rfl, .inl ⟨by omega, by omega⟩, _, _, rfl, rfl, (show (2147483563 : Int) ≠ 0 by decide), _, _, rfl, rfl, (show CDivN 0 64 from ⟨by decide, by decide⟩), _, rfl, _, _, rfl, rfl, nm, ?_⟩
              exact k _ _ (Int.fmod_nonneg_of_pos _ (by omega)) (Int.fmod_lt_of_pos _ (by omega)) ⟨at' + 1, lf, by omega, by omega, l0, hp3, hc3, h63⟩ b3
end
end K3
namespace K3
open PySem L2
/-- what a caller wants of a def by its name -/
def Cal (P : Program) (w : World) (K : PySem.W.Frag) (mg : Str → Option Value) (base : Heap) (x : Str) (k : Nat) (ps : List Str) (sp : Sp) : Prop :=
  ∃ f fd, mg x = some (.ref f) ∧ PySem.W.keepIn K (.ref f) = true ∧ Binds K fd ps [] ∧ FnOk P w K mg base CX0 k f fd ps sp
theorem But.seqL {K : PySem.W.Frag} {M : Addr → Prop} {H H' : Hp} {a : Addr} {xs : List V} (e : But M H H') (n : ¬ M a) (h : SqL K H a xs) : SqL K H' a xs := by
  rcases h with (h | ⟨o, h⟩) | h
  · exact .inl (.inl (e _ _ n h))
  · exact .inl (.inr ⟨o, e _ _ n h⟩)
  · exact .inr h
theorem But.seqT {K : PySem.W.Frag} {M : Addr → Prop} {H H' : Hp} {a : Addr} {xs : List V} (e : But M H H') (n : ¬ M a) (h : SqT K H a xs) : SqT K H' a xs := by
  rcases h with (h | ⟨o, h⟩) | h
  · exact .inl (.inl (e _ _ n h))
  · exact .inl (.inr ⟨o, e _ _ n h⟩)
  · exact .inr h
/-- the items of a text -/
def signs (z : Str) : List V := z.cps.toList.map fun c => V.str ⟨#[c]⟩
theorem signs_len (z : Str) : (signs z).length = z.length := by
  unfold signs
  rw [List.length_map]
  rfl
/-- x is a list or a tuple of ys that stands in H, or a text of these signs -/
def Menu (H : Hp) (x : V) (ys : List V) : Prop :=
  1 ≤ ys.length ∧ ys.length ≤ 1000 ∧ ((∃ l, x = .ref l ∧ (H l = some (.lst ys) ∨ H l = some (.tup ys))) ∨ ∃ z : Str, x = .str z ∧ ys = signs z)
theorem Menu.but {M : Addr → Prop} {H H' : Hp} {x : V} {ys : List V} (h : Menu H x ys) (e : But M H H') (n : ∀ l, M l → H l ≠ some (.lst ys) ∧ H l ≠ some (.tup ys)) : Menu H' x ys := by
  obtain ⟨h1, h2, h3⟩ := h
  refine ⟨h1, h2, ?_⟩
  rcases h3 with ⟨l, rfl, q | q⟩ | q
  · exact .inl ⟨l, rfl, .inl (e l _ (fun m => (n l m).1 q) q)⟩
  · exact .inl ⟨l, rfl, .inr (e l _ (fun m => (n l m).2 q) q)⟩
  · exact .inr q
def spPick : Sp := fun vs H Q _ => ∃ (p c : Addr) (ns : List Int) (n : Nat) (x : V) (ys : List V), vs = [.ref p, x] ∧ Pen H p c ns n ∧ n ≤ 1000000000 ∧ Menu H x ys ∧
  ∀ (v : V) (H' : Hp), v ∈ ys → Pen H' p c ns (n + 1) → But (· = p) H H' → Q v H'
theorem scP : FnScope ["_law_pen_here", "_law_some"] ["_law_pen_here", "_law_some"] (defScope sPick) := ⟨rfl, rfl, rfl, by decide +kernel, rfl, by decide +kernel, by decide +kernel⟩
section
variable {P : Program} {w : World} {K : PySem.W.Frag} {mg : Str → Option Value} {base : Heap}
theorem ok_pick {f : Addr} {fd : FuncData} (F : Fun K "_law_pick" "_law_pick" sPick f fd) (T : Txt mg) (CD : Cal P w K mg base "_law_draw" 1 ["_law_pen_here", "_law_many"] spDraw) : FnOk P w K mg base CX0 2 f fd ["_law_pen_here", "_law_some"] spPick := by
  obtain ⟨fD, fdD, mD, kD, bD, GD⟩ := CD
  refine F.ok scP (fun vs H Q E h => ?_) (fun cdv A outer s H vs Q E hr h => ?_)
  · obtain ⟨p, c, ns, n, x, ys, rfl, _⟩ := h
    rfl
  · obtain ⟨p, c, ns, n, x, ys, rfl, hP, hn, hM, k⟩ := h
    obtain ⟨_, _, _, _, _, hp, _, _⟩ := id hP
    refine ⟨_, pss_one (ps_ret (pe_ix ix_seq (pv 1) (pe_call GD hr (by rfl) mD kD bD .nil pass0 (pa_cons (pv 0) (pa_cons (pe_callB call_len (by rfl) T.len PySem.boot_len (pa_cons (pv 1) pa_nil)) pa_nil))) (fun _ _ => rfl))), ?_⟩
    have hL : LenV K x H ys.length := by
      obtain ⟨_, _, h3⟩ := id hM
      rcases h3 with ⟨l, rfl, q | q⟩ | ⟨z, rfl, rfl⟩
      · exact .inl ⟨_, SqL.of q, rfl⟩
      · exact .inr ⟨_, SqT.of q, rfl⟩
      · refine ⟨?_, signs_len z⟩
        have e := signs_len z
        have h1 := hM.2.1
        rw [e] at h1
        exact Nat.le_trans h1 (by decide)
    refine ⟨_, rfl, _, rfl, _, rfl, x, ys.length, rfl, hL, ?_⟩
    refine ⟨p, c, ns, n, _, rfl, hP, hn, Int.ofNat_le.mpr hM.1, ?_, fun r H' r0 r1 hP' b => ?_⟩
    · have := hM.2.1
      omega
    · have hM' := hM.but b (fun l q => by rw [q]; exact ⟨fun z => (by rw [hp] at z; cases z), fun z => (by rw [hp] at z; cases z)⟩)
      have hr' : r.toNat < ys.length := by omega
      have hv := List.getElem?_eq_getElem hr'
      have kk := k ys[r.toNat] H' (List.getElem_mem _) hP' b
      obtain ⟨_, h1000, h3⟩ := hM'
      rcases h3 with ⟨l, rfl, q | q⟩ | ⟨z, rfl, rfl⟩
      · exact .inl ⟨l, _, _, _, rfl, rfl, SqL.of q, atI_int r0 hv, kk⟩
      · exact .inr (.inl ⟨l, _, _, _, rfl, rfl, SqT.of q, atI_int r0 hv, kk⟩)
      · have hz : r.toNat < z.cps.toList.length := by
          have e : (signs z).length = z.cps.toList.length := List.length_map _
          rw [e] at hr'
          exact hr'
        refine .inr (.inr ⟨z, r, z.cps.toList[r.toNat], rfl, rfl, ?_, atI_int r0 (List.getElem?_eq_getElem hz), ?_⟩)
        · rw [signs_len z] at h1000
          exact Nat.le_trans h1000 (by decide)
        · have e : (signs z)[r.toNat] = V.str ⟨#[z.cps.toList[r.toNat]]⟩ := List.getElem_map _
          rw [e] at kk
          exact kk
end
end K3
namespace K3
open PySem L2
def spPen (K : PySem.W.Frag) : Sp := fun vs H Q _ => ∃ (a : Addr) (ns : List Int), vs = [.ref a] ∧ SqL K H a (ns.map V.int) ∧ ns.length ≤ 63 ∧
  ∀ (p c : Addr) (H' : Hp), H p = none → H c = none → Pen H' p c ns 0 → Same H H' → Q (.ref p) H'
theorem scN : FnScope ["_law_script"] ["_law_script"] (defScope sPen) := ⟨rfl, rfl, rfl, by decide +kernel, rfl, by decide +kernel, by decide +kernel⟩
theorem cut63 {xs : List V} (h : xs.length ≤ 63) : cutV xs none (some 63) = xs := by
  have e : HT.sIx xs.length xs.length (some 63) = xs.length := by
    unfold HT.sIx
    simp
    omega
  have e0 : HT.sIx xs.length 0 none = 0 := rfl
  unfold cutV
  rw [e, e0]
  simp
section
variable {P : Program} {w : World} {K : PySem.W.Frag} {mg : Str → Option Value} {base : Heap}
theorem ok_pen {f : Addr} {fd : FuncData} (F : Fun K "_law_pen" "_law_pen" sPen f fd) (T : Txt mg) : FnOk P w K mg base CX0 1 f fd ["_law_script"] (spPen K) := by
  refine F.ok scN (fun vs H Q E h => ?_) (fun cdv A outer s H vs Q E hr h => ?_)
  · obtain ⟨a, ns, rfl, _⟩ := h
    rfl
  · obtain ⟨a, ns, rfl, hS, h63, k⟩ := h
    refine ⟨_, pss_one (ps_ret (pe_disp (pps_cons pe_str (pe_callTy call_list_of (by rfl) T.list (by decide +kernel) (pa_cons (pe_slice sl_list (pv 0) po_none (po_some pe_int)) pa_nil)) (pps_cons pe_str pe_int (pps_cons pe_str pe_int pps_nil))) (by rfl) (by rfl) (fun z => by cases z) (by decide))), ?_⟩
    intro p hp
    refine ⟨_, rfl, _, rfl, a, _, rfl, (Same.seq (fun b o e => by rw [upd_ne (ne_of_none e hp)]; exact e) hS), fun t ht => ?_⟩
    rw [cut63 (by rw [List.length_map]; exact h63)]
    refine ⟨t, _, rfl, .inl (SqL.of upd_same), fun l hl => ?_⟩
    have ntl : t ≠ l := ne_of_none upd_same hl
    have hl1 : upd H p (HO.dK []) l = none := by rw [upd_ne ntl.symm] at hl; exact hl
    have npl : p ≠ l := ne_of_none upd_same hl1
    have hl0 : H l = none := by rw [upd_ne npl.symm] at hl1; exact hl1
    have npt : p ≠ t := ne_of_none upd_same ht
    refine ⟨by rw [upd_ne npl, upd_ne npt, upd_same], [(Sum.inr "cells", .ref l), (Sum.inr "at", .int 0), (Sum.inr "left", .int 0)], rfl, (by show 3 ≤ 15; decide), ?_⟩
    refine k p l _ hp hl0 ⟨0, 0, Int.le_refl _, Int.le_refl _, Int.le_refl _, upd_same, by rw [upd_ne npl.symm, upd_same], h63⟩ (fun b o e => ?_)
    have ht0 : H t = none := by rw [upd_ne npt.symm] at ht; exact ht
    rw [upd_ne (ne_of_none e hp), upd_ne (ne_of_none e hl0), upd_ne (ne_of_none e ht0), upd_ne (ne_of_none e hp)]
    exact e
end
end K3
namespace K3
open PySem L2
theorem Pen.but {M : Addr → Prop} {H H' : Hp} {p c : Addr} {ns : List Int} {n : Nat} (h : Pen H p c ns n) (e : But M H H') (n1 : ¬ M p) (n2 : ¬ M c) : Pen H' p c ns n := by
  obtain ⟨a, l, h1, h2, h3, h4, h5, h6⟩ := h
  exact ⟨a, l, h1, h2, h3, e _ _ n1 h4, e _ _ n2 h5, h6⟩
theorem Pen.new {H : Hp} {p c : Addr} {ns : List Int} {n : Nat} (h : Pen H p c ns n) {l : Addr} {o : HO} (hl : H l = none) : Pen (upd H l o) p c ns n :=
  h.but (M := fun _ => False) ((But.refl _ H).new hl) (fun z => z) (fun z => z)
theorem Pen.fresh {H : Hp} {p c : Addr} {ns : List Int} {n : Nat} (h : Pen H p c ns n) {l : Addr} (hl : H l = none) : l ≠ p ∧ l ≠ c := by
  obtain ⟨a, b, _, _, _, h4, h5, _⟩ := h
  exact ⟨(ne_of_none h4 hl).symm, (ne_of_none h5 hl).symm⟩
/-- an object beside the pen changes -/
theorem Pen.mut {H : Hp} {p c : Addr} {ns : List Int} {n : Nat} (h : Pen H p c ns n) {l : Addr} {o : HO} (n1 : l ≠ p) (n2 : l ≠ c) : Pen (upd H l o) p c ns n :=
  h.but (M := (· = l)) ((But.refl _ H).mut rfl) (fun z => n1 z.symm) (fun z => n2 z.symm)
theorem Pen.mono {H : Hp} {p c : Addr} {ns : List Int} {n m : Nat} (h : Pen H p c ns n) (hm : n ≤ m) : Pen H p c ns m := by
  obtain ⟨a, l, h1, h2, h3, h4, h5, h6⟩ := h
  exact ⟨a, l, h1, by omega, h3, h4, h5, h6⟩
theorem Pen.ne {H : Hp} {p c : Addr} {ns : List Int} {n : Nat} (h : Pen H p c ns n) {l : Addr} {xs : List V} (q : H l = some (.lst xs)) : l ≠ p := by
  obtain ⟨a, b, _, _, _, h4, _, _⟩ := h
  exact ne_of q h4 (by intro z; cases z)
theorem Pen.neT {H : Hp} {p c : Addr} {ns : List Int} {n : Nat} (h : Pen H p c ns n) {l : Addr} {xs : List V} (q : H l = some (.tup xs)) : l ≠ p := by
  obtain ⟨a, b, _, _, _, h4, _, _⟩ := h
  exact ne_of q h4 (by intro z; cases z)
end K3
namespace K3
open PySem L2
/-! ### data of tuples -/
def Tups (H H' : Hp) : Prop := ∀ a xs, H a = some (.tup xs) → H' a = some (.tup xs)
theorem Tups.refl (H : Hp) : Tups H H := fun _ _ h => h
theorem Tups.trans {H H1 H2 : Hp} (a : Tups H H1) (b : Tups H1 H2) : Tups H H2 := fun c o h => b c o (a c o h)
theorem But.tups {M : Addr → Prop} {H H' : Hp} (e : But M H H') (n : ∀ a xs, M a → H a ≠ some (.tup xs)) : Tups H H' := fun a xs h => e a _ (fun m => n a xs m h) h
theorem Tups.new {H H' : Hp} (e : Tups H H') {p : Addr} {o : HO} (h : H' p = none) : Tups H (upd H' p o) := fun a xs z => by
  have z1 := e a xs z
  rw [upd_ne (ne_of_none z1 h)]
  exact z1
theorem Tups.mut {H H' : Hp} (e : Tups H H') {p : Addr} {u o : HO} (h : H' p = some u) (n : ∀ xs, u ≠ .tup xs) : Tups H (upd H' p o) := fun a xs z => by
  have z1 := e a xs z
  rw [upd_ne (fun q => by rw [q, h] at z1; exact n xs (Option.some.inj z1))]
  exact z1
theorem Pen.tups {H H' : Hp} {p c : Addr} {ns : List Int} {n : Nat} (h : Pen H p c ns n) (e : But (· = p) H H') : Tups H H' := e.tups fun a xs q z => by
  obtain ⟨_, _, _, _, _, h4, _, _⟩ := h
  rw [q, h4] at z
  cases z
mutual
inductive Dt (H : Hp) : V → PyData → Prop
  | non : Dt H .non .none
  | int (i : Int) : Dt H (.int i) (.int i)
  | str (z : Str) : Dt H (.str z) (.str z)
  | tup {a : Addr} {xs : List V} {ds : List PyData} : H a = some (.tup xs) → DtAll H xs ds → Dt H (.ref a) (.tuple ds)
inductive DtAll (H : Hp) : List V → List PyData → Prop
  | nil : DtAll H [] []
  | cons {v : V} {vs : List V} {d : PyData} {ds : List PyData} : Dt H v d → DtAll H vs ds → DtAll H (v :: vs) (d :: ds)
end
mutual
theorem Dt.mono {H H' : Hp} (e : Tups H H') : ∀ {d : PyData} {v : V}, Dt H v d → Dt H' v d
  | _, _, .non => .non
  | _, _, .int i => .int i
  | _, _, .str z => .str z
  | _, _, .tup h a => .tup (e _ _ h) (DtAll.mono e a)
theorem DtAll.mono {H H' : Hp} (e : Tups H H') : ∀ {ds : List PyData} {vs : List V}, DtAll H vs ds → DtAll H' vs ds
  | _, _, .nil => .nil
  | _, _, .cons h a => .cons (Dt.mono e h) (DtAll.mono e a)
end
mutual
theorem Dt.dp {K : PySem.W.Frag} {H : Hp} : ∀ {d : PyData} {v : V}, Dt H v d → Dp K H v d
  | _, _, .non => .non
  | _, _, .int i => .int i
  | _, _, .str z => .str z
  | _, _, .tup h a => .tup (SqT.of h) (DtAll.dp a)
theorem DtAll.dp {K : PySem.W.Frag} {H : Hp} : ∀ {ds : List PyData} {vs : List V}, DtAll H vs ds → DpAll K H vs ds
  | _, _, .nil => .nil
  | _, _, .cons h a => .cons (Dt.dp h) (DtAll.dp a)
end
theorem DtAll.length {H : Hp} : ∀ {ds : List PyData} {vs : List V}, DtAll H vs ds → vs.length = ds.length
  | _, _, .nil => rfl
  | _, _, .cons _ a => by rw [List.length_cons, List.length_cons, DtAll.length a]
theorem DtAll.app {H : Hp} : ∀ {ds es : List PyData} {vs ws : List V}, DtAll H vs ds → DtAll H ws es → DtAll H (vs ++ ws) (ds ++ es)
  | _, _, _, _, .nil, b => b
  | _, _, _, _, .cons h a, b => .cons h (DtAll.app a b)
theorem DtAll.drop {H : Hp} : ∀ (n : Nat) {ds : List PyData} {vs : List V}, DtAll H vs ds → DtAll H (vs.drop n) (ds.drop n)
  | 0, _, _, h => h
  | n + 1, _, _, .nil => .nil
  | n + 1, _, _, .cons _ a => DtAll.drop n a
theorem DtAll.take {H : Hp} : ∀ (n : Nat) {ds : List PyData} {vs : List V}, DtAll H vs ds → DtAll H (vs.take n) (ds.take n)
  | 0, _, _, h => .nil
  | n + 1, _, _, .nil => .nil
  | n + 1, _, _, .cons h a => .cons h (DtAll.take n a)
theorem DtAll.get {H : Hp} : ∀ {ds : List PyData} {vs : List V}, DtAll H vs ds → ∀ (i : Nat) (v : V), vs[i]? = some v → ∃ d, ds[i]? = some d ∧ Dt H v d
  | _, _, .nil, i, v, e => by simp at e
  | _, _, .cons h a, 0, v, e => by
    cases e
    exact ⟨_, rfl, h⟩
  | _, _, .cons h a, i + 1, v, e => DtAll.get a i v e
theorem DtAll.mem {H : Hp} : ∀ {ds : List PyData} {vs : List V}, DtAll H vs ds → ∀ v, v ∈ vs → ∃ d, d ∈ ds ∧ Dt H v d
  | _, _, .nil, v, e => absurd e (by simp)
  | _, _, .cons h a, v, e => by
    rcases List.mem_cons.mp e with rfl | e
    · exact ⟨_, List.mem_cons_self .., h⟩
    · obtain ⟨d, h1, h2⟩ := DtAll.mem a v e
      exact ⟨d, List.mem_cons_of_mem _ h1, h2⟩
/-- a worth without holds, as a draw gives it -/
def PlainD (d : PyData) : Prop := d = .none ∨ (∃ i : Int, -999999999 ≤ i ∧ i ≤ 999999999 ∧ d = .int i) ∨ (∃ z : Str, z ∈ ([("a" : Str), "ab", "b", "to", "zzzzzzzz", "odd"] : List Str) ∧ d = .str z) ∨
  d = .tuple [.int 1, .str "a"] ∨ d = .tuple [.str "to", .str "a"] ∨ d = .tuple []
theorem PlainD.lay {d : PyData} (h : PlainD d) : d.canLay0 = true ∧ d.depth ≤ 3 := by
  rcases h with rfl | ⟨i, _, _, rfl⟩ | ⟨z, hz, rfl⟩ | rfl | rfl | rfl
  · exact ⟨rfl, by decide⟩
  · exact ⟨rfl, by simp [PyData.depth]⟩
  · refine ⟨?_, by simp [PyData.depth]⟩
    simp only [List.mem_cons, List.not_mem_nil, or_false] at hz
    rcases hz with rfl | rfl | rfl | rfl | rfl | rfl <;> decide +kernel
  · exact ⟨by decide +kernel, by decide +kernel⟩
  · exact ⟨by decide +kernel, by decide +kernel⟩
  · exact ⟨by decide +kernel, by decide +kernel⟩
def spPlain : Sp := fun vs H Q _ => ∃ (p c : Addr) (ns : List Int) (n : Nat), vs = [.ref p] ∧ Pen H p c ns n ∧ n + 5 ≤ 1000000000 ∧
  ∀ (v : V) (d : PyData) (H' : Hp), Dt H' v d → PlainD d → Pen H' p c ns (n + 5) → But (· = p) H H' → Q v H'
abbrev sPlain : Stmt := top 13
theorem scPl : FnScope ["_law_pen_here", "_law_some"] ["_law_pen_here"] (defScope sPlain) := ⟨rfl, rfl, rfl, by decide +kernel, rfl, by decide +kernel, by decide +kernel⟩
section
variable {P : Program} {w : World} {K : PySem.W.Frag} {mg : Str → Option Value} {base : Heap}
theorem ok_plain {f : Addr} {fd : FuncData} (F : Fun K "_law_plain" "_law_plain" sPlain f fd) (T : Txt mg) (CD : Cal P w K mg base "_law_draw" 1 ["_law_pen_here", "_law_many"] spDraw)
    (CP : Cal P w K mg base "_law_pick" 2 ["_law_pen_here", "_law_some"] spPick) : FnOk P w K mg base CX0 3 f fd ["_law_pen_here"] spPlain := by
  obtain ⟨fD, fdD, mD, kD, bD, GD⟩ := CD
  obtain ⟨fP, fdP, mP, kP, bP, GP⟩ := CP
  refine F.ok scPl (fun vs H Q E h => ?_) (fun cdv A outer s H vs Q E hr h => ?_)
  · obtain ⟨p, c, ns, n, rfl, _⟩ := h
    rfl
  · obtain ⟨p, c, ns, n, rfl, hP, hn, k⟩ := h
    have hr1 : Room 1 _ := hr.mono (by decide)
    refine ⟨_, C8.pss_cut (ps_set (i := 1) scPl.nd rfl (.inl rfl) (pe_lst (pa_cons pe_non (pa_cons pe_int (pa_cons pe_int (pa_cons (pe_call GD hr1 (by rfl) mD kD bD .nil pass0 (pa_cons (pv 0) (pa_cons pe_int pa_nil)))
          (pa_cons (pe_call GP hr (by rfl) mP kP bP .nil pass0 (pa_cons (pv 0) (pa_cons (pe_lst (pa_cons (pe_un un_neg pe_int) (pa_cons pe_int (pa_cons pe_int (pa_cons pe_int (pa_cons pe_int (pa_cons (pe_un un_neg pe_int) pa_nil))))))) pa_nil))) pa_nil)))))))
      (C8.pss_cut (ps_set (i := 1) scPl.nd rfl (.inl rfl) (pe_op op_cat (pv 1) (pe_lst
          (pa_cons (pe_call GP hr (by rfl) mP kP bP .nil pass0 (pa_cons (pv 0) (pa_cons (pe_lst (pa_cons pe_str (pa_cons pe_str (pa_cons pe_str (pa_cons pe_str (pa_cons pe_str (pa_cons pe_str pa_nil))))))) pa_nil)))
          (pa_cons (pe_tup (pa_cons pe_int (pa_cons pe_str pa_nil))) (pa_cons (pe_tup (pa_cons pe_str (pa_cons pe_str pa_nil))) (pa_cons (pe_tup pa_nil) pa_nil)))))))
      (pss_one (ps_ret (pe_ix ix_list (pv 1) (pe_call GD hr1 (by rfl) mD kD bD .nil pass0 (pa_cons (pv 0) (pa_cons pe_int pa_nil))) (fun _ _ => rfl))))), ?_⟩
    refine ⟨fun σ' H' => ∃ (l : Addr) (xs : List V) (ds : List PyData), l ≠ p ∧ l ≠ c ∧ σ' = [some (.ref p), some (.ref l)] ∧ xs.length = 5 ∧ H' l = some (.lst xs) ∧ DtAll H' xs ds ∧ (∀ d ∈ ds, PlainD d) ∧ Pen H' p c ns (n + 2) ∧ But (· = p) H H', ?_, ?_⟩
    · refine ⟨_, rfl, p, c, ns, n, 12, rfl, hP, by omega, by decide, by decide, fun r H1 r0 r1 hP1 b1 => ?_⟩
      refine ⟨_, rfl, _, rfl, _, rfl, (by show 6 ≤ sizeLine; decide), fun l hl => ?_⟩
      refine ⟨p, c, ns, n + 1, _, _, rfl, hP1.new hl, by omega, ⟨by show 1 ≤ 6; decide, by show 6 ≤ 1000; decide, .inl ⟨l, rfl, .inl upd_same⟩⟩, fun v H2 hv hP2 b2 => ?_⟩
      refine ⟨(by show 5 ≤ sizeLine; decide), fun l2 hl2 => ?_⟩
      have hv' : v ∈ ([-9, 10, 99, 100, 999999999, -999999999] : List Int).map V.int := hv
      obtain ⟨q, hq, rfl⟩ := List.mem_map.mp hv'
      have nl := hP2.fresh hl2
      refine ⟨l2, _, [.none, .int 0, .int 1, .int r, .int q], nl.1, nl.2, rfl, rfl, upd_same, .cons .non (.cons (.int _) (.cons (.int _) (.cons (.int _) (.cons (.int _) .nil)))), ?_, hP2.new hl2, ((b1.new hl).trans b2).new hl2⟩
      intro d hd
      simp only [List.mem_cons, List.not_mem_nil, or_false] at hd hq
      rcases hd with rfl | rfl | rfl | rfl | rfl
      · exact .inl rfl
      · exact .inr (.inl ⟨_, by decide, by decide, rfl⟩)
      · exact .inr (.inl ⟨_, by decide, by decide, rfl⟩)
      · exact .inr (.inl ⟨_, by omega, by omega, rfl⟩)
      · exact .inr (.inl ⟨_, by omega, by omega, rfl⟩)
    rintro σ1 H1 ⟨l, xs, ds, nlp, nlc, rfl, hx5, hL, hD, hPl, hP1, b1⟩
    refine ⟨fun σ' H' => ∃ (l : Addr) (xs : List V) (ds : List PyData), l ≠ p ∧ l ≠ c ∧ σ' = [some (.ref p), some (.ref l)] ∧ xs.length = 9 ∧ H' l = some (.lst xs) ∧ DtAll H' xs ds ∧ (∀ d ∈ ds, PlainD d) ∧ Pen H' p c ns (n + 3) ∧ But (· = p) H H', ?_, ?_⟩
    · refine ⟨_, rfl, _, rfl, (by show 6 ≤ sizeLine; decide), fun l1 hl1 => ?_⟩
      refine ⟨p, c, ns, n + 2, _, _, rfl, hP1.new hl1, by omega, ⟨by show 1 ≤ 6; decide, by show 6 ≤ 1000; decide, .inl ⟨l1, rfl, .inl upd_same⟩⟩, fun v H2 hv hP2 b2 => ?_⟩
      have hv' : v ∈ ([("a" : Str), "ab", "b", "to", "zzzzzzzz", "odd"] : List Str).map V.str := hv
      obtain ⟨q, hq, rfl⟩ := List.mem_map.mp hv'
      have T1 : Tups H1 (upd H1 l1 (.lst [.str "a", .str "ab", .str "b", .str "to", .str "zzzzzzzz", .str "odd"])) := (Tups.refl _).new hl1
      have T2 : Tups H1 H2 := T1.trans ((hP1.new hl1).tups b2)
      have hL2 : H2 l = some (.lst xs) := b2 _ _ nlp (by rw [upd_ne (ne_of_none hL hl1)]; exact hL)
      refine ⟨(by show 2 ≤ sizeLine; decide), fun t1 ht1 => ⟨(by show 2 ≤ sizeLine; decide), fun t2 ht2 => ⟨Nat.zero_le _, fun t3 ht3 => ⟨(by show 4 ≤ sizeLine; decide), fun l2 hl2 => ?_⟩⟩⟩⟩
      have T3 : Tups H1 (upd (upd (upd H2 t1 (.tup [.int 1, .str "a"])) t2 (.tup [.str "to", .str "a"])) t3 (.tup [])) := ((T2.new ht1).new ht2).new ht3
      have n12 : t1 ≠ t2 := ne_of_none upd_same ht2
      have n23 : t2 ≠ t3 := ne_of_none upd_same ht3
      have n13 : t1 ≠ t3 := ne_of_none (show upd (upd H2 t1 (.tup [.int 1, .str "a"])) t2 (.tup [.str "to", .str "a"]) t1 = some (.tup [.int 1, .str "a"]) by rw [upd_ne n12, upd_same]) ht3
      have a1 : upd (upd (upd H2 t1 (.tup [.int 1, .str "a"])) t2 (.tup [.str "to", .str "a"])) t3 (.tup []) t1 = some (.tup [.int 1, .str "a"]) := by rw [upd_ne n13, upd_ne n12, upd_same]
      have a2 : upd (upd (upd H2 t1 (.tup [.int 1, .str "a"])) t2 (.tup [.str "to", .str "a"])) t3 (.tup []) t2 = some (.tup [.str "to", .str "a"]) := by rw [upd_ne n23, upd_same]
      have a3 : upd (upd (upd H2 t1 (.tup [.int 1, .str "a"])) t2 (.tup [.str "to", .str "a"])) t3 (.tup []) t3 = some (.tup []) := upd_same
      have hL3 : upd (upd (upd H2 t1 (.tup [.int 1, .str "a"])) t2 (.tup [.str "to", .str "a"])) t3 (.tup []) l = some (.lst xs) := ((((But.refl (fun _ => False) H2).new ht1).new ht2).new ht3) _ _ (fun z => z) hL2
      have hP3 := ((hP2.new ht1).new ht2 (o := .tup [.str "to", .str "a"])).new ht3 (o := .tup [])
      have b3 : But (· = p) H (upd (upd (upd H2 t1 (.tup [.int 1, .str "a"])) t2 (.tup [.str "to", .str "a"])) t3 (.tup [])) := (((b1.new hl1).trans b2).new ht1).new ht2 |>.new ht3
      generalize upd (upd (upd H2 t1 (.tup [.int 1, .str "a"])) t2 (.tup [.str "to", .str "a"])) t3 (.tup []) = H3 at *
      have hl3 : upd H3 l2 (.lst [.str q, .ref t1, .ref t2, .ref t3]) l = some (.lst xs) := by rw [upd_ne (ne_of_none hL3 hl2)]; exact hL3
      refine ⟨l, l2, _, _, rfl, rfl, hl3, upd_same, (by show xs.length + 4 ≤ sizeLine; rw [hx5]; decide), fun l4 hl4 => ?_⟩
      have nl := ((hP3.new hl2).fresh hl4)
      refine ⟨l4, _, ds ++ [.str q, .tuple [.int 1, .str "a"], .tuple [.str "to", .str "a"], .tuple []], nl.1, nl.2, rfl, ?_, upd_same, ?_, ?_, (hP3.new hl2).new hl4, (b3.new hl2).new hl4⟩
      · rw [List.length_append, hx5]; rfl
      · have D3 : DtAll H3 (xs ++ [.str q, .ref t1, .ref t2, .ref t3]) (ds ++ [.str q, .tuple [.int 1, .str "a"], .tuple [.str "to", .str "a"], .tuple []]) :=
          (hD.mono T3).app (.cons (.str _) (.cons (.tup a1 (.cons (.int _) (.cons (.str _) .nil))) (.cons (.tup a2 (.cons (.str _) (.cons (.str _) .nil))) (.cons (.tup a3 .nil) .nil))))
        exact D3.mono (((Tups.refl _).new hl2).new hl4)
      · intro d hd
        rcases List.mem_append.mp hd with hd | hd
        · exact hPl d hd
        · simp only [List.mem_cons, List.not_mem_nil, or_false] at hd
          rcases hd with rfl | rfl | rfl | rfl
          · exact .inr (.inr (.inl ⟨q, hq, rfl⟩))
          · exact .inr (.inr (.inr (.inl rfl)))
          · exact .inr (.inr (.inr (.inr (.inl rfl))))
          · exact .inr (.inr (.inr (.inr (.inr rfl))))
    rintro σ2 H2 ⟨l, xs, ds, nlp, nlc, rfl, hx9, hL, hD, hPl, hP2, b2⟩
    refine ⟨_, rfl, _, rfl, p, c, ns, n + 3, 9, rfl, hP2, by omega, by decide, by decide, fun r H3 r0 r1 hP3 b3 => ?_⟩
    have hr9 : r.toNat < xs.length := by omega
    obtain ⟨d, hd, hdt⟩ := hD.get _ _ (List.getElem?_eq_getElem hr9)
    refine ⟨l, _, _, _, rfl, rfl, SqL.of (b3 _ _ nlp hL), atI_int r0 (List.getElem?_eq_getElem hr9), ?_⟩
    exact k _ d H3 (hdt.mono (hP2.tups b3)) (hPl d (List.mem_of_getElem? hd)) (hP3.mono (by omega)) (b2.trans b3)
end
end K3
namespace K3
open PySem L2
def spRow : Sp := fun vs H Q _ => ∃ (p c : Addr) (ns : List Int) (n : Nat), vs = [.ref p] ∧ Pen H p c ns n ∧ n + 20 ≤ 1000000000 ∧
  ∀ (t : Addr) (xs : List V) (ds : List PyData) (H' : Hp), H t = none → H' t = some (.tup xs) → DtAll H' xs ds → ds.length ≤ 3 → (∀ d ∈ ds, PlainD d) → Pen H' p c ns (n + 20) → But (· = p) H H' → Q (.ref t) H'
abbrev sRow : Stmt := top 14
theorem scRo : FnScope ["_law_pen_here", "_law_k"] ["_law_pen_here"] (defScope sRow) := ⟨rfl, rfl, rfl, by decide +kernel, rfl, by decide +kernel, by decide +kernel⟩
section
variable {P : Program} {w : World} {K : PySem.W.Frag} {mg : Str → Option Value} {base : Heap}
theorem ok_row {f : Addr} {fd : FuncData} (F : Fun K "_law_row_of" "_law_row_of" sRow f fd) (T : Txt mg) (CD : Cal P w K mg base "_law_draw" 1 ["_law_pen_here", "_law_many"] spDraw)
    (CP : Cal P w K mg base "_law_plain" 3 ["_law_pen_here"] spPlain) : FnOk P w K mg base CX0 4 f fd ["_law_pen_here"] spRow := by
  obtain ⟨fD, fdD, mD, kD, bD, GD⟩ := CD
  obtain ⟨fP, fdP, mP, kP, bP, GP⟩ := CP
  refine F.ok scRo (fun vs H Q E h => ?_) (fun cdv A outer s H vs Q E hr h => ?_)
  · obtain ⟨p, c, ns, n, rfl, _⟩ := h
    rfl
  · obtain ⟨p, c, ns, n, rfl, hP, hn, k⟩ := h
    have hr1 : Room 1 _ := hr.mono (by decide)
    refine ⟨_, pss_one (ps_ret (pe_callTy call_tuple_of (by rfl) T.tuple (by decide +kernel) (pa_cons (pe_lc (own := [("_law_k", 1)]) (g := gName 1) (tt := tYes) rfl scRo.nd
          (pi_range1 rfl T.range (pa_cons (pe_call GD hr1 (by rfl) mD kD bD .nil pass0 (pa_cons (pv 0) (pa_cons pe_int pa_nil))) pa_nil))
          (blkOk_by (N := ["_law_pen_here", "_law_k"]) (sc := defScope sRow) (by decide +kernel))
          (fun _ _ _ _ _ => pg_name (i := 1) scRo.nd rfl (Or.inl rfl)) (fun _ _ _ _ _ => pts_nil)
          (fun _ _ _ _ _ => pe_call GP hr (by rfl) mP kP bP .nil pass0 (pa_cons (pv 0) pa_nil))) pa_nil))), ?_⟩
    refine ⟨_, rfl, p, c, ns, n, 4, rfl, hP, by omega, by decide, by decide, fun r H1 r0 r1 hP1 b1 => ?_⟩
    refine ⟨_, rfl, by omega, by omega, fun D hD => ?_⟩
    have nD := hP1.fresh hD
    refine lc_range (lo := 0) (n := r.toNat) (fun i H' => ∃ (xs : List V) (ds : List PyData), H' D = some (.lst xs) ∧ DtAll H' xs ds ∧ ds.length = i ∧ (∀ d ∈ ds, PlainD d) ∧ Pen H' p c ns (n + 1 + 5 * i) ∧ But (· = p) H H') ?_ ?_ ?_
    · exact ⟨[], [], upd_same, .nil, rfl, fun d hd => absurd hd (by simp), hP1.new hD, b1.new hD⟩
    · rintro i H2 hi ⟨xs, ds, hL, hd, hl, hp, hP2, b2⟩
      refine ⟨rfl, _, rfl, p, c, ns, n + 1 + 5 * i, rfl, hP2, by omega, fun v d H3 hv hpd hP3 b3 => ?_⟩
      have hL3 := b3 _ _ nD.1 hL
      have T3 := hP2.tups b3
      refine ⟨_, hL3, ?_, xs ++ [v], ds ++ [d], upd_same, ?_, ?_, ?_, ?_, (b2.trans b3).mutNew (b1.free hD nD.1)⟩
      · rw [hd.length]
        exact small1000 (by omega)
      · exact ((hd.mono T3).app (.cons hv .nil)).mono ((Tups.refl _).mut hL3 (by intro _ z; cases z))
      · rw [List.length_append, hl]; rfl
      · intro e he
        rcases List.mem_append.mp he with q | q
        · exact hp e q
        · rw [List.mem_singleton.mp q]; exact hpd
      · exact (hP3.mut nD.1 nD.2).mono (by omega)
    · rintro H2 ⟨xs, ds, hL, hd, hl, hp, hP2, b2⟩
      refine ⟨D, _, rfl, .inl ⟨SqL.of hL, fun t ht => ?_⟩⟩
      have nt := hP2.fresh ht
      exact k t xs ds _ (b2.free ht nt.1) upd_same (hd.mono ((Tups.refl _).new ht)) (by omega) hp ((hP2.new ht).mono (by omega)) (b2.new ht)
end
end K3
namespace GG
open PySem PySem.Spec PyProof.Rows L2
/-! ### defs that are called where no repr is under way: the same promises, for such callers alone -/
section
variable {P : Program} {w : World} {K : PySem.W.Frag} {mg : Str → Option Value} {base : Heap} {CX : CXT} {k : Nat} {f : Addr} {fd : FuncData} {ps : List Str} {sp : Sp}
/-- nothing is being shown by the callers -/
abbrev Free (A : Around) : Prop := A.guards = some []
def FnG (P : Program) (w : World) (K : PySem.W.Frag) (mg : Str → Option Value) (base : Heap) (CX : CXT) (k : Nat) (f : Addr) (fd : FuncData) (ps : List Str) (sp : Sp) : Prop :=
  (∀ vs H Q E, sp vs H Q E → vs.length = ps.length) ∧
  ∀ (A : Around), Free A → Room k A → ∀ (outer : List Env) (s : Shared) (H : Hp), Env0 P w K mg base A outer s H →
    ∀ (args : Args) (us : List Value) (vs : List V), BindsTo s fd args (ps.zip us) → Vals vs us → ∀ (Q : VK) (E : XK), sp vs H Q E →
      codeAny (model P w) A (.call (.ref f) args) (CR CX outer P w H s Q E) s
theorem FnG.of (F : FnOk P w K mg base CX k f fd ps sp) : FnG P w K mg base CX k f fd ps sp :=
  ⟨F.len, fun A _ hr outer s H e0 args us vs hb hv Q E hs => F.run A outer s H args us vs Q E hr e0 hb hv hs⟩
end
theorem fng_fn {CX : CXT} {P : Program} {w : World} {K : PySem.W.Frag} {mg : Str → Option Value} {base : Heap} {k : Nat} {f : Addr} {nm qn : Str} {pa : Arguments} {bd : List Stmt} {sc : Scope} {dv kv doc pm cv ct oc : Value} {an od : Option Addr}
    {sl : Array (Option Value)} {N ps : List Str} {sp : Sp} (lk : K.lookup f = some ⟨oc, od, .func (PySem.W.fnOf nm qn pa bd sc dv kv doc pm an cv ct), sl⟩) (hc : PySem.W.codeIn K cv qn = true) (S : FnScope N ps sc)
    (ln : ∀ vs H Q E, sp vs H Q E → vs.length = ps.length)
    (hbd : ∀ (A : Around) (outer : List Env) (s : Shared) (H : Hp) (vs : List V) (Q : VK) (E : XK), Free A → Room k (A.deeper (envOfC qn sc s.heap.objs.size f cv)) → sp vs H Q E →
      ∃ t, PSs (cxOf CX P w K mg base N qn sc f cv A outer s H E) bd t ∧ t { nx := fun _ H' => Q .non H', rt := Q } (start N vs) H) :
    FnG P w K mg base CX (k + 1) f (PySem.W.fnOf nm qn pa bd sc dv kv doc pm an cv ct) ps sp := by
  refine ⟨ln, ?_⟩
  intro A hg hr outer s H e0 args us vs hb rv Q E hs
  have many := ln _ _ _ _ hs
  have stay : ∀ b o, base.get? b = some o → s.heap.get? b = some o := fun b o e => (e0.bs b o e).1
  have kin : K.In s.heap := e0.mod.kin.keeps stay
  have kinds : ∀ z ∈ ps.zip us, sc.names.lookup z.1 = some .local ∨ (sc.names.lookup z.1 = some .cell ∧ ((cellsFrom (s.heap.objs.size + 1) sc.names []).lookup z.1).isSome = true) := by
    rintro ⟨y, v⟩ hz
    rcases S.par y (List.of_mem_zip hz).1 with h | h
    · exact Or.inl h
    · exact Or.inr ⟨h, PySem.W.cellsFrom_some _ _ _ (Or.inl h)⟩
  refine codeAny_call_function hr.depth (kin _ _ lk) rfl S.co S.gen rfl (PySem.W.codeRec_of kin hc) (hb _ _ _ _ (wpAny_newFunctionEnv_cells S.kind kinds ?_))
  intro env eenv s1 x
  subst eenv
  refine ⟨(e0.mod.nolimit.keeps stay).keeps x.toInCall.keep, codeAny_func ?_⟩
  obtain ⟨t, ht, hq⟩ := hbd A outer s H vs Q E hg (hr.deeper _) hs
  have I0 := inv_start (CX := CX) (E := E) S hr.hd e0 many rv x
  refine wpAny_mono (ht.run [] s1 (start N vs) H _ I0 hq) ?_ (fun e s' z => z)
  intro fl s' z
  match fl, z with
  | .ret u, ⟨v, σ', H', J, r1, q1⟩ => exact ⟨v, H', J.os, J.bare, J.base, J.hok, r1, q1⟩
  | .next, ⟨σ', H', J, q1⟩ => exact ⟨V.non, H', J.os, J.bare, J.base, J.hok, rfl, q1⟩
  | .brk, ⟨_, _, _, q1⟩ => exact q1.elim
  | .cont, ⟨_, _, _, q1⟩ => exact q1.elim
theorem deeper_free {A : Around} {e : Env} (h : Free A) : Free (A.deeper e) := h
/-- a def of the text -/
theorem fun_okG {P : Program} {w : World} {K : PySem.W.Frag} {mg : Str → Option Value} {base : Heap} {x qn : Str} {st : Stmt} {f : Addr} {fd : FuncData} {N ps : List Str} {k : Nat} {sp : Sp} (F : Fun K x qn st f fd) (S : FnScope N ps (defScope st))
    (ln : ∀ vs H Q E, sp vs H Q E → vs.length = ps.length)
    (hbd : ∀ (cdv : Value) (A : Around) (outer : List Env) (s : Shared) (H : Hp) (vs : List V) (Q : VK) (E : XK), Free (A.deeper (envOfC qn (defScope st) s.heap.objs.size f cdv)) → Room k (A.deeper (envOfC qn (defScope st) s.heap.objs.size f cdv)) → sp vs H Q E →
      ∃ t, PSs (cxOf CX0 P w K mg base N qn (defScope st) f cdv A outer s H E).nox (defBody st) t ∧ t { nx := fun _ H' => Q .non H', rt := Q } (start N vs) H) : FnG P w K mg base CX0 (k + 1) f fd ps sp := by
  obtain ⟨_, _, _, _, _, _, cdv, _, _, rfl, lk, hc⟩ := F.ex
  refine fng_fn lk hc S ln ?_
  intro A outer s H vs Q E hg hr hs
  obtain ⟨t, h1, h2⟩ := hbd cdv A outer s H vs Q E (deeper_free hg) hr hs
  exact ⟨t, h1.nox, h2⟩
section
variable {X : Cx} {CX : CXT} {k : Nat} {f : Addr} {fd : FuncData} {ps : List Str} {sp : Sp} {dvs : List V} {ds : List Value} {E : XK} {x : Str} {p pos : Pos} {e : Expr} {es : List Expr} {t : TA}
/-- f(e, ..) of such a def -/
theorem pe_callG (F : FnG X.prog X.w X.K X.mg X.base CX k f fd ps sp) (hf : Free X.A) (hr : Room k X.A) (hg : Gl X x) (hm : X.mg x = some (.ref f)) (hk : PySem.W.keepIn X.K (.ref f) = true) (hb : Binds X.K fd ps ds) (hd : Vals dvs ds) (hx : Passes CX X E)
    (ha : PA X (e :: es) t) (h1 : (x == ("__debug__" : Str)) = false := by decide) (h2 : starEach (e :: es) X.env = (false, eval e X.env) :: starEach es X.env := by rfl) (h3 : (backTo pos (starEach es X.env)).any (·.1) = false := by rfl) :
    PE X (.Call (.Name x p) (e :: es) [] pos) (tCall sp dvs E t) := by
  constructor
  intro pins s σ H Q I h
  refine wpAny_Call_Name_kw (ld_glob I hg hm (PySem.W.callWith_K (h₀ := X.base) I.ok.mod.kin hk (thn (ha.run pos pins s σ H _ I h) ?_) h2 h3) h1)
  rintro us s1 ⟨vs, H1, I1, r, q⟩
  refine ⟨I1.kIn, ?_⟩
  have r2 := r.append hd
  have many : (us ++ ds).length = ps.length := r2.length.symm.trans (F.1 _ _ _ _ q)
  refine wpAny_call (codeAny_mono (F.2 X.A hf hr X.stack s1 H1 I1.env0 ⟨us, []⟩ (us ++ ds) (vs ++ dvs) (hb s1 us I1.kIn many) r2 Q E q) ?_)
  intro r s' z
  match r, z with
  | .error e, z => exact hx pins σ H1 s1 e s' I1 z
  | .ok (.ret u), z => exact I1.after z
  | .ok .next, z => exact z.elim
  | .ok .brk, z => exact z.elim
  | .ok .cont, z => exact z.elim
/-- repr of data without dicts -/
def ShowOk (d : PyData) : Prop := d.showable = true ∧ d.hasDict = false ∧ d.depth ≤ 60 ∧ d.shown.length ≤ sizeLine ∧ (∀ i, d = .int i → i.natAbs.log2 < 1920) ∧ (∀ b, d ≠ .bool b)
def rRepr (K : PySem.W.Frag) : List V → Hp → VK → Prop := fun xs H Q => ∃ (v : V) (d : PyData), xs = [v] ∧ Dp K H v d ∧ ShowOk d ∧ Q (.str d.shown) H
end
section
variable {X : Cx}
theorem call_repr (hf : Free X.A) (hu : X.A.units + 64 < cLine) : CallR X (.builtin "repr") (rRepr X.K) := by
  intro pins s σ H xs us Q I r h
  obtain ⟨v, d, rfl, hd, ⟨h1, h2, h3, h4, h5, h6⟩, q⟩ := h
  obtain ⟨u, rfl, rv⟩ := vals1 r
  obtain ⟨as, hr⟩ := Dp.reads I d v u hd rv
  cases hd with
  | non =>
    obtain rfl : u = Value.none := rv
    exact PySem.P.repr_of_none ⟨.str _, H, I.tok _, ⟨_, rfl⟩, q⟩
  | bl b => exact absurd rfl (h6 b)
  | int i =>
    obtain ⟨t, rfl⟩ := rv
    exact PySem.P.repr_of_int (h5 i rfl) ⟨.str _, H, I.tok _, ⟨_, rfl⟩, q⟩
  | str z =>
    obtain ⟨t, rfl⟩ := rv
    exact PySem.P.repr_of_str ⟨.str _, H, I.tok _, ⟨_, rfl⟩, q⟩ h4
  | lst _ _ =>
    cases rv
    exact repr_of_reads' hr h1 (fun z => by rw [h2] at z; cases z) hf (by omega) (fun _ _ e => e) (fun h' t tk hk => ⟨.str _, H, I.kept hk, ⟨_, rfl⟩, q⟩) h4
  | tup _ _ =>
    cases rv
    exact repr_of_reads' hr h1 (fun z => by rw [h2] at z; cases z) hf (by omega) (fun _ _ e => e) (fun h' t tk hk => ⟨.str _, H, I.kept hk, ⟨_, rfl⟩, q⟩) h4
end
end GG
namespace GG
open PySem PySem.Spec PyProof.Rows L2
/-- the law itself, where its own text shows things -/
theorem law_callG {P : Program} {w : World} {K : PySem.W.Frag} {mg mb : Str → Option Value} {k : Nat} {fa a : Addr} {fd : FuncData} {x : Str} {sp : Sp} {s₁ : Shared} {vs : List Value} {ns : List Int}
    (KX : K.In s₁.heap) (gN : s₁.heap.Ns mainGlobals mg) (bN : s₁.heap.Ns builtinsNs mb) (bB : ∀ x : Str, x ≠ "__name__" → mb x = bootBuiltins x) (lim : s₁.heap.NoLimit) (gen : s₁.gens = #[])
    (ha : s₁.heap.get? a = some { cls := .type "list", data := .seq vs.toArray }) (hi : IntsAre vs ns) (hl : ns.length ≤ sizeLine) (hr : Room k callerA)
    (F : ∀ b : Heap, K.In b → b.Ns mainGlobals mg → FnG P w K mg b CX0 k fa fd [x] sp) (hb : ∀ (s : Shared) (u : Value), BindsTo s fd ⟨[u], []⟩ [(x, u)])
    (hs : ∀ H : Hp, Only H → SqL K H a (ns.map V.int) → sp [.ref a] H (fun v _ => v = .bl true) fun _ _ _ => False) :
    codeAny (model P w) callerA (.call (.ref fa) ⟨[.ref a], []⟩) (fun r s' => r = .ok (.ret (.bool true)) ∧ OldK s₁.heap s'.heap ∧ s'.os = s₁.os ∧ AllBare s'.gens) s₁ := by
  have main : ∀ H : Hp, Only H → SqL K H a (ns.map V.int) → HOk P w H s₁.heap → (∀ b, H b ≠ none → b = a ∧ K.lookup a = none) →
      codeAny (model P w) callerA (.call (.ref fa) ⟨[.ref a], []⟩) (fun r s' => r = .ok (.ret (.bool true)) ∧ OldK s₁.heap s'.heap ∧ s'.os = s₁.os ∧ AllBare s'.gens) s₁ := by
    intro H hO hS ok only
    have dic : ∀ {b : Addr} {o : Obj} {es : Array DictEntry} {ep : Nat}, s₁.heap.get? b = some o → o.data = .dict es ep → H b = none := by
      intro b o es ep e d
      match q : H b with
      | none => rfl
      | some u =>
        obtain ⟨rfl, _⟩ := only b (by rw [q]; exact fun z => by cases z)
        rw [ha] at e
        cases e
        cases d
    have ns1 : ∀ {b : Addr} {m : Str → Option Value}, s₁.heap.Ns b m → (hidT s₁.heap H).Ns b m := by
      rintro b m ⟨o, es, ep, e, d, r⟩
      exact ⟨o, es, ep, hidT_get e (dic e d), d, r⟩
    have kin : K.In (hidT s₁.heap H) := by
      intro b o e
      refine hidT_get (KX b o e) ?_
      match q : H b with
      | none => rfl
      | some u =>
        obtain ⟨rfl, h2⟩ := only b (by rw [q]; exact fun z => by cases z)
        rw [h2] at e
        cases e
    obtain ⟨mc, l1, l2⟩ := lim
    have e0 : Env0 P w K mg (hidT s₁.heap H) callerA [] s₁ H :=
      { frames := rfl, mod := ⟨kin, ns1 gN, ⟨mb, ns1 bN, bB⟩, ⟨mc, ns1 l1, l2⟩⟩, bs := fun b o e => of_hidT e, bsz := Nat.le_of_eq (hidT_size _ _), funs := trivial, frf := fun b z => (List.not_mem_nil (show b ∈ ([] : List Addr) from z)).elim, hok := ok, bare := .of_eq gen }
    refine codeAny_mono ((F _ kin (ns1 gN)).2 callerA rfl hr [] s₁ H e0 ⟨[.ref a], []⟩ [.ref a] [.ref a] (hb s₁ (.ref a)) (.cons rfl .nil) _ _ (hs H hO hS)) ?_
    intro r s' z
    match r, z with
    | .error e, z => exact z.elim
    | .ok .next, z => exact z.elim
    | .ok .brk, z => exact z.elim
    | .ok .cont, z => exact z.elim
    | .ok (.ret u), ⟨v, H', os, bare, un, ok', rv, q⟩ =>
      have q' : v = .bl true := q
      subst q'
      have eu : u = Value.bool true := rv
      subst eu
      refine ⟨rfl, OldK.of_keep ?_, os, bare⟩
      intro b o e
      match q : H b with
      | none => exact un.keep b o e q (fun z => List.not_mem_nil (show b ∈ ([] : List Addr) from z)) (fun z => List.not_mem_nil (show b ∈ ([] : List Addr) from z))
      | some u =>
        rcases hO b with z | ⟨ob, xs, z⟩
        · rw [z] at q
          cases q
        · have i1 := (ok b _ z).1
          have i2 := (ok' b _ (un.frzs b ob _ z)).1
          rw [e] at i1
          cases i1
          exact i2
  have rv := vals_ints hi
  match hk : K.lookup a with
  | some o =>
    have e := KX a o hk
    rw [ha] at e
    cases e
    exact main (fun _ => none) (fun _ => .inl rfl) (.inr ⟨_, vs.toArray, _, hk, rfl, rfl, rfl, by rw [List.size_toArray, hi.length]; exact hl, by simpa using rv⟩) (fun b u z => nomatch z) (fun b z => absurd rfl z)
  | none =>
    have atA : ∀ {b : Addr} {u : HO}, (if b = a then some (HO.frz { cls := .type "list", data := .seq vs.toArray } (.lst (ns.map V.int))) else none) = some u → b = a ∧ u = HO.frz { cls := .type "list", data := .seq vs.toArray } (.lst (ns.map V.int)) := by
      intro b u z
      by_cases hb : b = a
      · rw [if_pos hb] at z
        exact ⟨hb, (Option.some.inj z).symm⟩
      · rw [if_neg hb] at z
        cases z
    refine main (fun b => if b = a then some (.frz { cls := .type "list", data := .seq vs.toArray } (.lst (ns.map V.int))) else none) ?_ (.inl (.inr ⟨{ cls := .type "list", data := .seq vs.toArray }, if_pos rfl⟩)) ?_ ?_
    · intro b
      by_cases hb : b = a
      · exact .inr ⟨_, _, if_pos hb⟩
      · exact .inl (if_neg hb)
    · intro b u z
      obtain ⟨rfl, rfl⟩ := atA z
      exact ⟨ha, by rw [List.length_map]; exact hl, vs, _, rv, ha⟩
    · intro b z
      refine ⟨?_, hk⟩
      by_cases hb : b = a
      · exact hb
      · exact absurd (if_neg hb) z
/-- the end of a law whose text shows things -/
theorem walk_ofG {l : PySem.W.OpenLaw} {n k : Nat} {q : Program} {loose : List Str} {XP : (Str → Option Value) → Heap → Prop} {YP : World → Heap → Prop} {d : DefRec} {K : Params → PySem.W.Frag} {sp : PySem.W.Frag → Sp} {x : Str}
    (hn : l.most = some n) (h2 : n ≤ sizeLine) (hd : d.params.defaults = []) (hr : Room k callerA) (hY : ∀ (w : World) (h : Heap), YP w h → (K w.params).In h)
    (F : ∀ (w : World) (mg : Str → Option Value) (fa : Addr) (h : Heap), (K w.params).In h → h.Ns mainGlobals mg → mg d.name = some (.ref fa) → ∃ fd : FuncData, (∀ (s : Shared) (u : Value), BindsTo s fd ⟨[u], []⟩ [(x, u)]) ∧
      ∀ b : Heap, (K w.params).In b → b.Ns mainGlobals mg → FnG l.prog w (K w.params) mg b CX0 k fa fd [x] (sp (K w.params)))
    (hs : ∀ (K : PySem.W.Frag) (H : Hp) (a : Addr) (ns : List Int), ns.length ≤ n → Only H → SqL K H a (ns.map V.int) → sp K [.ref a] H (fun v _ => v = .bl true) fun _ _ _ => False) :
    PySem.W.WalkO q loose XP YP l.row.toRowW d [] (fun f vs => PySem.call f vs) := by
  refine Att.attach_call hn hd ?_
  intro w s₀ s₁ mg mb fa o pm cd doc a vs ns G Y ho hod hcd hmg hobj hints hlen hg
  have KX := hY w _ Y
  obtain ⟨fd, hb, hF⟩ := F w mg fa _ KX G.T.g hmg
  exact law_callG KX G.T.g G.T.b G.T.builtins G.T.nolimit hg hobj hints (Nat.le_trans hlen h2) hr hF hb (fun H hO hS => hs (K w.params) H a ns hlen hO hS)
end GG
namespace GG
open PySem PySem.Spec PyProof.Rows L2
section
variable {X : Cx} {k : Nat} {C f : Addr} {fd : FuncData} {ps : List Str} {sp : Sp}
/-- what a def of one's own, called by the machine, hands back -/
theorem run_in1 {pins : List (Addr × Obj)} {σ : L2.St} {H : Hp} {s : Shared} {Q : VK} {us : List Value} {vs : List V} (F : FnOk X.prog X.w X.K X.mg X.base CX0 k f fd ps sp) (hr : Room (k + 1) X.A) (hb : Binds X.K fd ps [])
    (I : Inv X pins σ H s) (rv : Vals vs us) (h : sp vs H Q E0) : wpAny (model X.prog X.w) X.A.in1 (call (.ref f) us) (EP X pins σ Q) X.xe s := by
  have many : (us ++ ([] : List Value)).length = ps.length := by
    rw [List.append_nil, ← rv.length]
    exact F.len _ _ _ _ h
  have bb := hb s us I.kIn many
  rw [List.append_nil] at bb
  refine wpAny_call (codeAny_mono (F.run X.A.in1 X.stack s H ⟨us, []⟩ us vs Q E0 hr.in1 I.env0.in1 bb rv h) ?_)
  intro r s' z
  match r, z with
  | .error e, z => exact z.elim
  | .ok (.ret u), z => exact I.after z
  | .ok .next, z => exact z.elim
  | .ok .brk, z => exact z.elim
  | .ok .cont, z => exact z.elim
/-- len(w) by an own __len__ -/
def rLenO (C : Addr) (sp : Sp) : List V → Hp → VK → Prop := fun xs H Q => ∃ a dx fs, xs = [.ref a] ∧ H a = some (.ins C dx fs) ∧ sp [.ref a] H (fun v H' => ∃ n : Int, v = .int n ∧ 0 ≤ n ∧ n < 2 ^ 63 ∧ Q (.int n) H') E0
theorem call_lenO (F : FnOk X.prog X.w X.K X.mg X.base CX0 k f fd ps sp) (hr : Room (k + 1) X.A) (hb : Binds X.K fd ps []) (hs : PySem.W.findIn X.K (.ref C) "__len__" = some (some (.ref f))) (hf : PySem.W.isFn X.K (.ref f) = true) :
    CallR X (.builtin "len") (rLenO C sp) := by
  intro pins s σ H xs us Q I r h
  obtain ⟨a, dx, fs, rfl, ha, hsp⟩ := h
  obtain ⟨u, rfl, ru⟩ := vals1 r
  cases ru
  obtain ⟨mA, J, _⟩ := ins_get I.hok ha
  obtain ⟨od, J, _⟩ := J.look
  obtain ⟨m, hF⟩ := I.fr
  refine PySem.W.len_K hF I.ok.mod.kin J hs hf (wpAny_mono (run_in1 F hr hb I (.cons (show RelV (V.ref a) (Value.ref a) from rfl) .nil) hsp) ?_ fun _ _ z => z)
  rintro v s' ⟨y, H', I', ry, n, rfl, n0, n1, q⟩
  obtain ⟨t, rfl⟩ := ry
  exact ⟨⟨n0, n1⟩, .int n, H', I'.tok _, ⟨_, rfl⟩, q⟩
/-- w == y by an own __eq__, whatever y is (but of a class below C's) -/
def rEqO (K : PySem.W.Frag) (C : Addr) (sp : Sp) : R2 := fun x y H Q => ∃ (a dx : Addr) (fs : List (Str × V)) (t : Value), x = .ref a ∧ H a = some (.ins C dx fs) ∧ TyX K H y t ∧ PySem.W.notFirst K C t = true ∧ sp [.ref a, y] H (fun v H' => ∃ b : Bool, v = .bl b ∧ Q (.bl b) H') E0
end
end GG
namespace K3
open PySem L2
/-! ### what a law may lean on of a wire -/
def RowD (d : PyData) : Prop := ∃ ds, d = .tuple ds ∧ ds.length ≤ 4 ∧ ∀ e ∈ ds, PlainD e
def LetD (first : Nat) (rows : List PyData) (heard : Nat) : PyData := .tuple [.str "rows", .int first, .tuple rows, .int heard]
theorem Dt.tupI {H : Hp} {a : Addr} {ds : List PyData} (h : Dt H (.ref a) (.tuple ds)) : ∃ xs, H a = some (.tup xs) ∧ DtAll H xs ds := by
  cases h with
  | tup h1 h2 => exact ⟨_, h1, h2⟩
theorem Dt.ref_of {H : Hp} {v : V} {ds : List PyData} (h : Dt H v (.tuple ds)) : ∃ a, v = .ref a := by
  cases h with
  | tup h1 h2 => exact ⟨_, rfl⟩
structure WK where
  C : Addr
  At : Hp → List Addr → Addr → List PyData → Nat → Nat → Prop
  ins : ∀ {H fp w rows put tk}, At H fp w rows put tk → ∃ dx fs, H w = some (.ins C dx fs) ∧ ∀ m ∈ ([("put" : Str), "letter", "take", "heard", "unheard"] : List Str), fs.lookup m = none
  mem : ∀ {H fp w rows put tk}, At H fp w rows put tk → w ∈ fp
  there : ∀ {H fp w rows put tk}, At H fp w rows put tk → ∀ a ∈ fp, ∃ u, H a = some u ∧ ∀ xs, u ≠ .tup xs
  keep : ∀ {H H' fp w rows put tk}, At H fp w rows put tk → (∀ a ∈ fp, H' a = H a) → Tups H H' → At H' fp w rows put tk
  le : ∀ {H fp w rows put tk}, At H fp w rows put tk → rows.length ≤ put
  rowD : ∀ {H fp w rows put tk}, At H fp w rows put tk → ∀ d ∈ rows, RowD d
variable (W : WK)
def spWInit : Sp := fun vs H Q _ => ∃ (H0 : Hp) (w dx : Addr), vs = [.ref w] ∧ Same H0 H ∧ H0 w = none ∧ H w = some (.ins W.C dx []) ∧ ∀ (fp : List Addr) (H' : Hp), W.At H' fp w [] 0 0 → (∀ a ∈ fp, H0 a = none) → Same H0 H' → Q .non H'
def spWPut : Sp := fun vs H Q _ => ∃ (w r : Addr) (d : PyData) (fp : List Addr) (rows : List PyData) (put tk : Nat), vs = [.ref w, .ref r] ∧ W.At H fp w rows put tk ∧ Dt H (.ref r) d ∧ RowD d ∧ put ≤ 1000 ∧
  ∀ (fp' : List Addr) (H' : Hp), W.At H' fp' w (rows ++ [d]) (put + 1) tk → (∀ a ∈ fp', a ∈ fp ∨ H a = none) → But (· ∈ fp) H H' → Q (.int put) H'
def spWLetter : Sp := fun vs H Q _ => ∃ (w : Addr) (fp : List Addr) (rows : List PyData) (put tk : Nat), vs = [.ref w] ∧ W.At H fp w rows put tk ∧ put ≤ 1000 ∧
  ∀ (t : Addr) (H' : Hp), H t = none → Dt H' (.ref t) (LetD (put - rows.length) rows tk) → Same H H' → Q (.ref t) H'
def spWTake : Sp := fun vs H Q _ => ∃ (w t : Addr) (fp : List Addr) (rows new : List PyData) (put tk first heard : Nat), vs = [.ref w, .ref t] ∧ W.At H fp w rows put tk ∧ Dt H (.ref t) (LetD first new heard) ∧
  first ≤ tk ∧ heard ≤ put ∧ (∀ d ∈ new, RowD d) ∧ new.length ≤ 1000 ∧ put ≤ 1000 ∧ tk ≤ 1000 ∧
  ∀ (l : Addr) (xs : List V) (fp' : List Addr) (H' : Hp), H l = none → l ∉ fp' → H' l = some (.lst xs) → DtAll H' xs (new.drop (tk - first)) →
    W.At H' fp' w (rows.drop (heard - (put - rows.length))) put (tk + (new.drop (tk - first)).length) → (∀ a ∈ fp', a ∈ fp ∨ H a = none) → But (· ∈ fp) H H' → Q (.ref l) H'
def spWHeard : Sp := fun vs H Q _ => ∃ (w : Addr) (fp : List Addr) (rows : List PyData) (put tk : Nat), vs = [.ref w] ∧ W.At H fp w rows put tk ∧ ∀ H', Same H H' → Q (.int tk) H'
def spWUnheard : Sp := fun vs H Q _ => ∃ (w : Addr) (fp : List Addr) (rows : List PyData) (put tk : Nat), vs = [.ref w] ∧ W.At H fp w rows put tk ∧ put ≤ 1000 ∧
  ∀ (l : Addr) (xs : List V) (H' : Hp), H l = none → H' l = some (.lst xs) → DtAll H' xs rows → Same H H' → Q (.ref l) H'
def spWLen : Sp := fun vs H Q _ => ∃ (w : Addr) (fp : List Addr) (rows : List PyData) (put tk : Nat), vs = [.ref w] ∧ W.At H fp w rows put tk ∧ put ≤ 1000 ∧ ∀ H', Same H H' → Q (.int rows.length) H'
/-- a method by its name -/
def MCal (P : Program) (w : World) (K : PySem.W.Frag) (mg : Str → Option Value) (base : Heap) (C : Addr) (m : Str) (k : Nat) (sp : Sp) : Prop :=
  ∃ f fd ps, Meth K C m f ∧ Binds K fd ps [] ∧ FnOk P w K mg base CX0 k f fd ps sp
theorem MCal.mono {P : Program} {w : World} {K : PySem.W.Frag} {mg : Str → Option Value} {base : Heap} {C : Addr} {m : Str} {j k : Nat} {sp : Sp} (h : MCal P w K mg base C m j sp) (jk : j ≤ k) : MCal P w K mg base C m k sp := by
  obtain ⟨f, fd, ps, h1, h2, h3⟩ := h
  exact ⟨f, fd, ps, h1, h2, h3.mono jk⟩
structure Wires (P : Program) (w : World) (K : PySem.W.Frag) (mg : Str → Option Value) (base : Heap) (k : Nat) : Prop where
  cls : Cls K W.C
  glob : mg "Wire" = some (.ref W.C)
  new : ∃ f fd ps, Mk K W.C f ∧ Binds K fd ps [] ∧ FnOk P w K mg base CX0 k f fd ps (spWInit W)
  put : MCal P w K mg base W.C "put" k (spWPut W)
  letter : MCal P w K mg base W.C "letter" k (spWLetter W)
  take : MCal P w K mg base W.C "take" k (spWTake W)
  heard : MCal P w K mg base W.C "heard" k (spWHeard W)
  unheard : MCal P w K mg base W.C "unheard" k (spWUnheard W)
  len : ∃ f fd ps, PySem.W.findIn K (.ref W.C) "__len__" = some (some (.ref f)) ∧ PySem.W.isFn K (.ref f) = true ∧ Binds K fd ps [] ∧ FnOk P w K mg base CX0 k f fd ps (spWLen W)
theorem sameBut {H H' : Hp} (s : Same H H') (M : Addr → Prop) : But M H H' := fun b o _ e => s b o e
theorem sameTups {H H' : Hp} (s : Same H H') : Tups H H' := fun a xs e => s a _ e
/-- a wire stands through what leaves it alone -/
theorem WK.but {W : WK} {M : Addr → Prop} {H H' : Hp} {fp : List Addr} {w : Addr} {rows : List PyData} {put tk : Nat} (h : W.At H fp w rows put tk) (e : But M H H') (n : ∀ a ∈ fp, ¬ M a) (t : Tups H H') : W.At H' fp w rows put tk :=
  W.keep h (fun a ha => by
    obtain ⟨u, hu, _⟩ := W.there h a ha
    rw [hu, e a u (n a ha) hu]) t
theorem WK.same {W : WK} {H H' : Hp} {fp : List Addr} {w : Addr} {rows : List PyData} {put tk : Nat} (h : W.At H fp w rows put tk) (e : Same H H') : W.At H' fp w rows put tk :=
  WK.but h (sameBut e fun _ => False) (fun _ _ z => z) (sameTups e)
theorem WK.tups {W : WK} {H H' : Hp} {fp : List Addr} {w : Addr} {rows : List PyData} {put tk : Nat} (h : W.At H fp w rows put tk) (e : But (· ∈ fp) H H') : Tups H H' :=
  e.tups fun a xs m z => by
    obtain ⟨u, hu, hn⟩ := W.there h a m
    rw [hu] at z
    exact hn xs (Option.some.inj z)
theorem WK.ne {W : WK} {H : Hp} {fp : List Addr} {w : Addr} {rows : List PyData} {put tk : Nat} (h : W.At H fp w rows put tk) {l : Addr} (hl : H l = none) : l ∉ fp := fun m => by
  obtain ⟨u, hu, _⟩ := W.there h l m
  rw [hl] at hu
  cases hu
end K3
namespace K3
open PySem L2 GG
/-! ### how long what is shown may be -/
structure Sh (n k : Nat) (d : PyData) : Prop where
  show' : d.showable = true
  plain : d.hasDict = false
  deep : d.depth ≤ k
  long : d.shown.length ≤ n
theorem Sh.mono {n m k l : Nat} {d : PyData} (h : Sh n k d) (a : n ≤ m) (b : k ≤ l) : Sh m l d := ⟨h.show', h.plain, Nat.le_trans h.deep b, Nat.le_trans h.long a⟩
theorem sh_all {n k : Nat} : ∀ {ds : List PyData}, (∀ d ∈ ds, Sh n k d) → PyData.showableAll ds = true ∧ PyData.hasDictAll ds = false ∧ PyData.depthAll ds ≤ k ∧ piled (PyData.shownAll ds) ≤ ds.length * (n + 2) ∧ (PyData.shownAll ds).length = ds.length
  | [], _ => ⟨rfl, rfl, Nat.zero_le _, Nat.zero_le _, rfl⟩
  | d :: ds, h => by
    obtain ⟨a, b, c, e, f⟩ := sh_all (ds := ds) fun x hx => h x (List.mem_cons_of_mem _ hx)
    have q := h d (List.mem_cons_self ..)
    refine ⟨?_, ?_, ?_, ?_, ?_⟩
    · simp only [PyData.showableAll, q.show', a, Bool.and_self]
    · simp only [PyData.hasDictAll, q.plain, b, Bool.or_self]
    · simp only [PyData.depthAll]
      have := q.deep
      omega
    · simp only [PyData.shownAll, piled_cons, List.length_cons, Nat.add_mul, Nat.one_mul]
      have := q.long
      omega
    · simp only [PyData.shownAll, List.length_cons, f]
theorem textFrom_le (ts : List Str) : (listText ts).length ≤ piled ts + 2 := by
  unfold listText
  rw [strLen_append]
  have e1 : (("]" : String) : Str).length = 1 := rfl
  rw [e1]
  cases ts with
  | nil => exact Nat.le_refl 2
  | cons t r =>
    show (textFrom 1 _ r).length + 1 ≤ _
    rw [textFrom_length_pos _ _ _ (by decide), strLen_append, strLen_append, piled_cons]
    have e2 : (("[" : String) : Str).length = 1 := rfl
    have e3 : ((if 0 > 0 then ", " else "" : String) : Str).length = 0 := rfl
    rw [e2, e3]
    omega
theorem tupleText_le (ts : List Str) : (tupleText ts).length ≤ piled ts + 3 := by
  unfold tupleText
  rw [strLen_append, strLen_append]
  have e1 : (("(" : String) : Str).length = 1 := rfl
  have e2 : (Str.ofString (if (ts.length == 1) = true then ",)" else ")")).length ≤ 2 := by
    cases ts.length == 1
    · exact Nat.le_succ 1
    · exact Nat.le_refl 2
  cases ts with
  | nil =>
    have e3 : (Str.join ", " []).length = 0 := rfl
    rw [e1, e3]
    omega
  | cons t r =>
    have e3 := join_length_add (t :: r) (by simp)
    rw [e1]
    omega
theorem Sh.tup {n k : Nat} {ds : List PyData} (h : ∀ d ∈ ds, Sh n k d) : Sh (ds.length * (n + 2) + 3) (k + 1) (.tuple ds) := by
  obtain ⟨a, b, c, e, f⟩ := sh_all h
  refine ⟨?_, ?_, ?_, ?_⟩
  · simp only [PyData.showable, a]
  · simp only [PyData.hasDict, b]
  · simp only [PyData.depth]
    omega
  · show (tupleText (PyData.shownAll ds)).length ≤ _
    exact Nat.le_trans (tupleText_le _) (by omega)
theorem Sh.lst {n k : Nat} {ds : List PyData} (h : ∀ d ∈ ds, Sh n k d) : Sh (ds.length * (n + 2) + 3) (k + 1) (.list ds) := by
  obtain ⟨a, b, c, e, f⟩ := sh_all h
  refine ⟨?_, ?_, ?_, ?_⟩
  · simp only [PyData.showable, a]
  · simp only [PyData.hasDict, b]
  · simp only [PyData.depth]
    omega
  · show (listText (PyData.shownAll ds)).length ≤ _
    exact Nat.le_trans (textFrom_le _) (by omega)
theorem sh_int {i : Int} (h : i.natAbs < 10 ^ 10) : Sh 12 1 (.int i) := by
  refine ⟨?_, rfl, by simp [PyData.depth], ?_⟩
  · simp only [PyData.showable]
    refine decide_eq_true ?_
    by_cases h0 : i.natAbs = 0
    · rw [h0]; decide
    · refine (Nat.log2_lt h0).mpr (Nat.lt_of_lt_of_le h ?_)
      calc (10 : Nat) ^ 10 ≤ 2 ^ 40 := by decide
        _ ≤ 2 ^ 1920 := Nat.pow_le_pow_right (by decide) (by decide)
  · show (Str.ofString (toString i)).length ≤ 12
    rw [ofString_length]
    exact Nat.le_trans (int_text_length_le10 (k := 10) (by decide) h) (by decide)
theorem sh_rows : Sh 12 1 (.str "rows") := ⟨rfl, rfl, by simp [PyData.depth], by decide +kernel⟩
theorem sh_none : Sh 12 1 .none := ⟨rfl, rfl, by simp [PyData.depth], by decide +kernel⟩
theorem PlainD.sh {d : PyData} (h : PlainD d) : Sh 40 2 d := by
  rcases h with rfl | ⟨i, h1, h2, rfl⟩ | ⟨z, hz, rfl⟩ | rfl | rfl | rfl
  · exact sh_none.mono (by decide) (by decide)
  · exact (sh_int (by omega)).mono (by decide) (by decide)
  · refine ⟨rfl, rfl, by simp [PyData.depth], ?_⟩
    simp only [List.mem_cons, List.not_mem_nil, or_false] at hz
    rcases hz with rfl | rfl | rfl | rfl | rfl | rfl <;> decide +kernel
  · exact ⟨by decide +kernel, by decide +kernel, by decide +kernel, by decide +kernel⟩
  · exact ⟨by decide +kernel, by decide +kernel, by decide +kernel, by decide +kernel⟩
  · exact ⟨by decide +kernel, by decide +kernel, by decide +kernel, by decide +kernel⟩
theorem RowD.sh {d : PyData} (h : RowD d) : Sh 200 3 d := by
  obtain ⟨ds, rfl, h4, hp⟩ := h
  have q := Sh.tup fun e he => (hp e he).sh
  refine q.mono ?_ (by decide)
  have : ds.length * (40 + 2) ≤ 4 * 42 := Nat.mul_le_mul_right _ h4
  omega
theorem RowD.lay {d : PyData} (h : RowD d) : d.canLay0 = true ∧ d.depth ≤ 4 := by
  obtain ⟨ds, rfl, h4, hp⟩ := h
  have all : ∀ l : List PyData, (∀ e ∈ l, PlainD e) → PyData.canLayAll0 l = true ∧ PyData.depthAll l ≤ 3 := by
    intro l
    induction l with
    | nil => exact fun _ => ⟨rfl, Nat.zero_le _⟩
    | cons a r ih =>
      intro h
      obtain ⟨q1, q2⟩ := ih fun e he => h e (List.mem_cons_of_mem _ he)
      obtain ⟨q3, q4⟩ := (h a (List.mem_cons_self ..)).lay
      refine ⟨?_, ?_⟩
      · simp only [PyData.canLayAll0, q3, q1, Bool.and_self]
      · simp only [PyData.depthAll]; omega
  obtain ⟨q1, q2⟩ := all ds hp
  refine ⟨?_, ?_⟩
  · simp only [PyData.canLay0, q1]
  · simp only [PyData.depth]; omega
/-- a list of rows, shown -/
theorem rows_sh {ds : List PyData} (h : ∀ d ∈ ds, RowD d) (n : ds.length ≤ 1000) : Sh 300000 4 (.list ds) := by
  refine (Sh.lst fun d hd => (h d hd).sh).mono ?_ (by decide)
  have : ds.length * (200 + 2) ≤ 1000 * 202 := Nat.mul_le_mul_right _ n
  omega
theorem let_sh {first heard : Nat} {ds : List PyData} (h : ∀ d ∈ ds, RowD d) (n : ds.length ≤ 1000) (hf : first ≤ 1000000) (hh : heard ≤ 1000000) : Sh 1300000 5 (LetD first ds heard) := by
  have rt : Sh 300000 4 (.tuple ds) := by
    refine (Sh.tup fun d hd => (h d hd).sh).mono ?_ (by decide)
    have : ds.length * (200 + 2) ≤ 1000 * 202 := Nat.mul_le_mul_right _ n
    omega
  refine (Sh.tup (n := 300000) (k := 4) ?_).mono (by simp) (by decide)
  intro d hd
  simp only [List.mem_cons, List.not_mem_nil, or_false] at hd
  rcases hd with rfl | rfl | rfl | rfl
  · exact sh_rows.mono (by decide) (by decide)
  · exact (sh_int (by omega)).mono (by decide) (by decide)
  · exact rt
  · exact (sh_int (by omega)).mono (by decide) (by decide)
/-- what repr asks -/
theorem Sh.okT {ds : List PyData} {k : Nat} (h : Sh 1300000 k (.tuple ds)) (hk : k ≤ 60) : ShowOk (.tuple ds) :=
  ⟨h.show', h.plain, Nat.le_trans h.deep hk, Nat.le_trans h.long (by decide), (fun i z => nomatch z), fun b z => nomatch z⟩
theorem Sh.okL {ds : List PyData} {k : Nat} (h : Sh 1300000 k (.list ds)) (hk : k ≤ 60) : ShowOk (.list ds) :=
  ⟨h.show', h.plain, Nat.le_trans h.deep hk, Nat.le_trans h.long (by decide), (fun i z => nomatch z), fun b z => nomatch z⟩
end K3
namespace K3
open PySem L2 GG
theorem cutV_drop {xs : List V} {k : Nat} : cutV xs (some (k : Int)) none = xs.drop k := by
  have e1 : HT.sIx xs.length 0 (some (k : Int)) = min k xs.length := HT.sIx_nat ..
  have e2 : HT.sIx xs.length xs.length none = xs.length := rfl
  unfold cutV
  rw [e1, e2]
  by_cases h : k ≤ xs.length
  · rw [Nat.min_eq_left h]
    apply List.take_of_length_le
    rw [List.length_drop]
    exact Nat.le_refl _
  · rw [Nat.min_eq_right (by omega), List.drop_eq_nil_of_le (Nat.le_refl _), List.drop_eq_nil_of_le (by omega)]
    simp
theorem same_new {H H' : Hp} (s : Same H H') {p : Addr} {o : HO} (h : H' p = none) : Same H (upd H' p o) := fun b u z => by
  have z1 := s _ _ z
  rw [upd_ne (ne_of_none z1 h)]
  exact z1
theorem same_mut {H H' : Hp} (s : Same H H') {p : Addr} {o : HO} (h : H p = none) : Same H (upd H' p o) := fun b u z => by
  rw [upd_ne (ne_of_none z h)]
  exact s _ _ z
theorem iteYes {c A B : Prop} [Decidable c] (hc : c) (h : A) : if decide c = true then A else B := by
  rw [decide_eq_true hc]
  exact iteT h
/-! ### objects made one behind the other -/
def Trk (H : Hp) (O : List Addr) : Prop := O.Nodup ∧ ∀ a ∈ O, ∃ u, H a = some u
theorem Trk.same {H H' : Hp} {O : List Addr} (h : Trk H O) (s : Same H H') : Trk H' O := ⟨h.1, fun a m => by
  obtain ⟨u, hu⟩ := h.2 a m
  exact ⟨u, s a u hu⟩⟩
theorem Trk.not {H : Hp} {O : List Addr} (h : Trk H O) {l : Addr} (hl : H l = none) : l ∉ O := fun m => by
  obtain ⟨v, hv⟩ := h.2 l m
  rw [hl] at hv
  cases hv
theorem Trk.add {H H' : Hp} {O : List Addr} (h : Trk H O) {l : Addr} {u : HO} (hl : H l = none) (s : Same H H') (e : H' l = some u) : Trk H' (l :: O) := by
  refine ⟨List.nodup_cons.mpr ⟨h.not hl, h.1⟩, fun a m => ?_⟩
  rcases List.mem_cons.mp m with rfl | m
  · exact ⟨u, e⟩
  · exact (h.same s).2 a m
theorem Trk.two {H H' : Hp} {O : List Addr} (h : Trk H O) {l m : Addr} {u v : HO} (hl : H l = none) (hm : H m = none) (n : l ≠ m) (s : Same H H') (e : H' l = some u) (f : H' m = some v) : Trk H' (m :: l :: O) := by
  refine ⟨List.nodup_cons.mpr ⟨fun z => ?_, (h.add hl s e).1⟩, fun a z => ?_⟩
  · rcases List.mem_cons.mp z with z | z
    · exact n z.symm
    · exact h.not hm z
  · rcases List.mem_cons.mp z with rfl | z
    · exact ⟨v, f⟩
    · exact (h.add hl s e).2 a z
/-- a wire's objects beside others -/
def Dj (H : Hp) (fp O : List Addr) : Prop := (∀ a ∈ fp, ∃ u, H a = some u) ∧ ∀ a ∈ fp, a ∉ O
theorem Dj.same {H H' : Hp} {fp O : List Addr} (h : Dj H fp O) (s : Same H H') : Dj H' fp O := ⟨fun a m => by
  obtain ⟨u, hu⟩ := h.1 a m
  exact ⟨u, s a u hu⟩, h.2⟩
theorem Dj.add {H H' : Hp} {fp O : List Addr} (h : Dj H fp O) {l : Addr} (hl : H l = none) (s : Same H H') : Dj H' fp (l :: O) := ⟨(h.same s).1, fun a m z => by
  rcases List.mem_cons.mp z with z | z
  · obtain ⟨u, hu⟩ := h.1 a m
    rw [z, hl] at hu
    cases hu
  · exact h.2 a m z⟩
theorem Dj.two {H H' : Hp} {fp O : List Addr} (h : Dj H fp O) {l m : Addr} (hl : H l = none) (hm : H m = none) (s : Same H H') : Dj H' fp (m :: l :: O) := ⟨(h.same s).1, fun a z q => by
  obtain ⟨u, hu⟩ := h.1 a z
  rcases List.mem_cons.mp q with q | q
  · rw [q, hm] at hu
    cases hu
  · rcases List.mem_cons.mp q with q | q
    · rw [q, hl] at hu
      cases hu
    · exact h.2 a z q⟩
end K3
namespace K3
open PySem L2 GG
abbrev sEnd : Stmt := top 15
abbrev sLetOf : Stmt := top 16
abbrev sFresh : Stmt := top 17
abbrev sRight : Stmt := top 18
def endK (q : Addr) (kn tk : Nat) : List (Key × V) := [(Sum.inr "put", .ref q), (Sum.inr "known", .int kn), (Sum.inr "taken", .int tk)]
theorem end_gp {H : Hp} {e q : Addr} {kn tk : Nat} (h : H e = some (.dK (endK q kn tk))) : DGet H e (.str "put") (some (.ref q)) := DGet.k (k := Sum.inr "put") h
theorem end_gk {H : Hp} {e q : Addr} {kn tk : Nat} (h : H e = some (.dK (endK q kn tk))) : DGet H e (.str "known") (some (.int kn)) := DGet.k (k := Sum.inr "known") h
theorem end_gt {H : Hp} {e q : Addr} {kn tk : Nat} (h : H e = some (.dK (endK q kn tk))) : DGet H e (.str "taken") (some (.int tk)) := DGet.k (k := Sum.inr "taken") h
theorem end_pt {H : Hp} {e q : Addr} {kn tk n : Nat} (h : H e = some (.dK (endK q kn tk))) : DPut H e (.str "taken") (.int (n : Int)) (upd H e (.dK (endK q kn n))) := DPut.k (k := Sum.inr "taken") h (by show 3 < sizeLine; decide)
theorem end_pk {H : Hp} {e q : Addr} {kn tk n : Nat} (h : H e = some (.dK (endK q kn tk))) : DPut H e (.str "known") (.int (n : Int)) (upd H e (.dK (endK q n tk))) := DPut.k (k := Sum.inr "known") h (by show 3 < sizeLine; decide)
/-- an end of the law's own -/
def EndAt (H : Hp) (e q : Addr) (rows : List PyData) (kn tk : Nat) : Prop := H e = some (.dK (endK q kn tk)) ∧ (∃ xs, H q = some (.lst xs) ∧ DtAll H xs rows) ∧ kn ≤ rows.length ∧ rows.length ≤ 1000 ∧ (∀ d ∈ rows, RowD d)
def spEnd : Sp := fun vs H Q _ => vs = [] ∧ ∀ (e q : Addr) (H' : Hp), H e = none → H q = none → e ≠ q → H' e = some (.dK (endK q 0 0)) → H' q = some (.lst []) → Same H H' → Q (.ref e) H'
def spLetOf : Sp := fun vs H Q _ => ∃ (e q : Addr) (rows : List PyData) (kn tk : Nat), vs = [.ref e] ∧ EndAt H e q rows kn tk ∧
  ∀ (t : Addr) (H' : Hp), H t = none → Dt H' (.ref t) (LetD kn (rows.drop kn) tk) → Same H H' → Q (.ref t) H'
def spFresh : Sp := fun vs H Q _ => ∃ (e t q : Addr) (new : List PyData) (kn tk first heard : Nat), vs = [.ref e, .ref t] ∧ H e = some (.dK (endK q kn tk)) ∧ Dt H (.ref t) (LetD first new heard) ∧ new.length ≤ 1000 ∧ tk ≤ 1000 ∧ first ≤ tk ∧
  ∀ (l : Addr) (xs : List V) (H' : Hp), H l = none → H' l = some (.lst xs) → DtAll H' xs (new.drop (tk - first)) → H' e = some (.dK (endK q (max kn heard) (tk + (new.drop (tk - first)).length))) → But (· = e) H H' → Q (.ref l) H'
theorem scE : FnScope [] [] (defScope sEnd) := ⟨rfl, rfl, rfl, by decide +kernel, rfl, by decide +kernel, by decide +kernel⟩
theorem scLO : FnScope ["_law_end_here"] ["_law_end_here"] (defScope sLetOf) := ⟨rfl, rfl, rfl, by decide +kernel, rfl, by decide +kernel, by decide +kernel⟩
theorem scFr : FnScope ["_law_end_here", "_law_letter", "_law_fresh"] ["_law_end_here", "_law_letter"] (defScope sFresh) := ⟨rfl, rfl, rfl, by decide +kernel, rfl, by decide +kernel, by decide +kernel⟩
section
variable {P : Program} {w : World} {K : PySem.W.Frag} {mg : Str → Option Value} {base : Heap}
theorem ok_end {f : Addr} {fd : FuncData} (F : Fun K "_law_end" "_law_end" sEnd f fd) : FnOk P w K mg base CX0 1 f fd [] spEnd := by
  refine F.ok scE (fun vs H Q E h => ?_) (fun cdv A outer s H vs Q E hr h => ?_)
  · obtain ⟨rfl, _⟩ := h
    rfl
  · obtain ⟨rfl, k⟩ := h
    refine ⟨_, pss_one (ps_ret (pe_disp (pps_cons pe_str (pe_lst pa_nil) (pps_cons pe_str pe_int (pps_cons pe_str pe_int pps_nil))) (by rfl) (by rfl) (fun z => by cases z) (by decide))), ?_⟩
    intro e he
    refine ⟨Nat.zero_le _, fun q hq => ?_⟩
    have ne : e ≠ q := ne_of_none upd_same hq
    have hq0 : H q = none := by rw [upd_ne ne.symm] at hq; exact hq
    refine ⟨by rw [upd_ne ne, upd_same], [(Sum.inr "put", .ref q), (Sum.inr "known", .int 0), (Sum.inr "taken", .int 0)], rfl, (by show 3 ≤ 15; decide), ?_⟩
    refine k e q _ he hq0 ne upd_same (by rw [upd_ne ne.symm, upd_same]) (fun b o z => ?_)
    rw [upd_ne (ne_of_none z he), upd_ne (ne_of_none z hq0), upd_ne (ne_of_none z he)]
    exact z
theorem ok_letOf {f : Addr} {fd : FuncData} (F : Fun K "_law_letter_of" "_law_letter_of" sLetOf f fd) (T : Txt mg) : FnOk P w K mg base CX0 1 f fd ["_law_end_here"] spLetOf := by
  refine F.ok scLO (fun vs H Q E h => ?_) (fun cdv A outer s H vs Q E hr h => ?_)
  · obtain ⟨e, q, rows, kn, tk, rfl, _⟩ := h
    rfl
  · obtain ⟨e, q, rows, kn, tk, rfl, ⟨he, ⟨xs, hq, hx⟩, hk, h1000, hrow⟩, k⟩ := h
    have hu := hu_of hr
    refine ⟨_, pss_one (ps_ret (pe_tup (pa_cons pe_str (pa_cons (pe_dget hu (pv 0) pe_str (fun _ _ => rfl))
      (pa_cons (pe_callTy call_tuple_of (by rfl) T.tuple (by decide +kernel) (pa_cons (pe_slice sl_list (pe_dget hu (pv 0) pe_str (fun _ _ => rfl)) (po_some (pe_dget hu (pv 0) pe_str (fun _ _ => rfl))) po_none) pa_nil))
      (pa_cons (pe_dget hu (pv 0) pe_str (fun _ _ => rfl)) pa_nil)))))), ?_⟩
    refine ⟨_, rfl, e, _, rfl, end_gk he, _, rfl, e, _, rfl, end_gp he, _, rfl, e, _, rfl, end_gk he, _, rfl, q, _, rfl, SqL.of hq, fun l hl => ?_⟩
    rw [cutV_drop]
    refine ⟨l, _, rfl, .inl ⟨SqL.of upd_same, fun t ht => ?_⟩⟩
    have nel : e ≠ l := ne_of_none he hl
    have net : e ≠ t := ne_of_none (show upd H l (.lst (xs.drop kn)) e = some (.dK (endK q kn tk)) by rw [upd_ne nel]; exact he) ht
    refine ⟨_, rfl, e, _, rfl, end_gt (q := q) (kn := kn) (tk := tk) (by rw [upd_ne net, upd_ne nel]; exact he), (by show 4 ≤ sizeLine; decide), fun u hu2 => ?_⟩
    have s1 : Same H (upd H l (.lst (xs.drop kn))) := fun b o z => by rw [upd_ne (ne_of_none z hl)]; exact z
    have s2 : Same H (upd (upd H l (.lst (xs.drop kn))) t (.tup (xs.drop kn))) := fun b o z => by rw [upd_ne (ne_of_none (s1 _ _ z) ht)]; exact s1 _ _ z
    have s3 : Same (upd (upd H l (.lst (xs.drop kn))) t (.tup (xs.drop kn))) (upd (upd (upd H l (.lst (xs.drop kn))) t (.tup (xs.drop kn))) u (.tup [.str "rows", .int kn, .ref t, .int tk])) := fun b o z => by rw [upd_ne (ne_of_none z hu2)]; exact z
    have s4 := s2.trans s3
    refine k u _ (s2.free hu2) (.tup upd_same (.cons (.str _) (.cons (.int _) (.cons (.tup (s3 _ _ upd_same) ((hx.drop kn).mono (sameTups s4))) (.cons (.int _) .nil))))) s4
theorem ok_fresh {f : Addr} {fd : FuncData} (F : Fun K "_law_fresh_by" "_law_fresh_by" sFresh f fd) (T : Txt mg) : FnOk P w K mg base CX0 1 f fd ["_law_end_here", "_law_letter"] spFresh := by
  refine F.ok scFr (fun vs H Q E h => ?_) (fun cdv A outer s H vs Q E hr h => ?_)
  · obtain ⟨e, t, q, new, kn, tk, first, heard, rfl, _⟩ := h
    rfl
  · obtain ⟨e, t, q, new, kn, tk, first, heard, rfl, he, hL, hn, htk, hft, k⟩ := h
    have hu := hu_of hr
    obtain ⟨ls, ht, hls⟩ := hL.tupI
    cases hls with
    | cons h0 hls =>
    cases hls with
    | cons h1 hls =>
    cases hls with
    | cons h2 hls =>
    cases hls with
    | cons h3 hls =>
    cases hls
    cases h0
    cases h1
    cases h3
    obtain ⟨r, rfl⟩ := h2.ref_of
    obtain ⟨ys, hR, hy⟩ := h2.tupI
    refine ⟨_, C8.pss_cut (ps_set (i := 2) scFr.nd rfl (.inl rfl) (pe_slice sl_list (pe_callTy call_list_of (by rfl) T.list (by decide +kernel) (pa_cons (pe_ix ix_tup (pv 1) pe_int (fun _ _ => rfl)) pa_nil))
        (po_some (pe_callB (call_max2 rfl) (by rfl) T.max (by decide +kernel) (pa_cons pe_int (pa_cons (pe_op op_sub (pe_dget hu (pv 0) pe_str (fun _ _ => rfl)) (pe_ix ix_tup (pv 1) pe_int (fun _ _ => rfl))) pa_nil)))) po_none))
      (pss_cons (ps_dput hu (pv 0) pe_str (pe_op op_add (pe_dget hu (pv 0) pe_str (fun _ _ => rfl)) (pe_callB call_len_seq (by rfl) T.len PySem.boot_len (pa_cons (pv 2) pa_nil))) rfl)
      (pss_cons (ps_dput hu (pv 0) pe_str (pe_callB (call_max2 rfl) (by rfl) T.max (by decide +kernel) (pa_cons (pe_dget hu (pv 0) pe_str (fun _ _ => rfl)) (pa_cons (pe_ix ix_tup (pv 1) pe_int (fun _ _ => rfl)) pa_nil))) rfl)
      (pss_one (ps_ret (pv 2))))), ?_⟩
    have hlen := hy.length
    refine ⟨fun σ' H' => ∃ l : Addr, H l = none ∧ l ≠ e ∧ σ' = [some (.ref e), some (.ref t), some (.ref l)] ∧ H' l = some (.lst (ys.drop (tk - first))) ∧ Same H H', ?_, ?_⟩
    · refine ⟨_, rfl, t, _, _, _, rfl, rfl, SqT.of ht, atI_int (by decide) rfl, r, _, rfl, .inr (SqT.of hR), fun l hl => ?_⟩
      have s1 : Same H (upd H l (.lst ys)) := fun b o z => by rw [upd_ne (ne_of_none z hl)]; exact z
      refine ⟨_, rfl, e, _, rfl, end_gt (s1 _ _ he), _, rfl, t, _, _, _, rfl, rfl, SqT.of (s1 _ _ ht), atI_int (by decide) rfl, _, _, rfl, rfl, _, _, rfl, _, rfl, l, _, rfl, SqL.of upd_same, fun l2 hl2 => ?_⟩
      have em : (if (tk : Int) - (first : Int) > 0 then (tk : Int) - (first : Int) else 0) = ((tk - first : Nat) : Int) := by split <;> omega
      rw [em, cutV_drop]
      exact ⟨l2, s1.free hl2, (ne_of_none (s1 _ _ he) hl2).symm, rfl, upd_same, fun b o z => by rw [upd_ne (ne_of_none (s1 _ _ z) hl2)]; exact s1 _ _ z⟩
    · rintro σ1 H1 ⟨l, hl, nle, rfl, hL1, s1⟩
      have hl5 : (ys.drop (tk - first)).length = (new.drop (tk - first)).length := (hy.drop _).length
      refine ⟨_, rfl, e, _, rfl, end_gt (s1 _ _ he), _, rfl, l, _, rfl, .inl (SqL.of hL1), _, _, rfl, rfl, _, rfl, e, _, rfl, end_pt (n := tk + (ys.drop (tk - first)).length) (s1 _ _ he), ?_⟩
      have he2 : upd H1 e (.dK (endK q kn (tk + (ys.drop (tk - first)).length))) e = some (.dK (endK q kn (tk + (ys.drop (tk - first)).length))) := upd_same
      have net : t ≠ e := ne_of ht he (by intro z; cases z)
      have ht2 : upd H1 e (.dK (endK q kn (tk + (ys.drop (tk - first)).length))) t = some (.tup [.str "rows", .int first, .ref r, .int heard]) := by rw [upd_ne net]; exact s1 _ _ ht
      have hL2 : upd H1 e (.dK (endK q kn (tk + (ys.drop (tk - first)).length))) l = some (.lst (ys.drop (tk - first))) := by rw [upd_ne nle]; exact hL1
      have b2 : But (· = e) H (upd H1 e (.dK (endK q kn (tk + (ys.drop (tk - first)).length)))) := (sameBut s1 _).mut rfl
      have em : (if (heard : Int) > (kn : Int) then (heard : Int) else (kn : Int)) = ((max kn heard : Nat) : Int) := by split <;> omega
      have hd : DPut (upd H1 e (.dK (endK q kn (tk + (ys.drop (tk - first)).length)))) e (.str "known") (.int (if (heard : Int) > (kn : Int) then (heard : Int) else (kn : Int)))
          (upd (upd H1 e (.dK (endK q kn (tk + (ys.drop (tk - first)).length)))) e (.dK (endK q (max kn heard) (tk + (ys.drop (tk - first)).length)))) := by
        rw [em]
        exact end_pk he2
      refine ⟨_, rfl, e, _, rfl, end_gk he2, _, rfl, t, _, _, _, rfl, rfl, SqT.of ht2, atI_int (by decide) rfl, _, _, rfl, _, rfl, e, _, rfl, hd, _, rfl, ?_⟩
      have b3 : But (· = e) H (upd (upd H1 e (.dK (endK q kn (tk + (ys.drop (tk - first)).length)))) e (.dK (endK q (max kn heard) (tk + (ys.drop (tk - first)).length)))) := b2.mut rfl
      have T3 := b3.tups fun a xs z y => by
        rw [z, he] at y
        cases y
      rw [hl5] at b3 T3 ⊢
      exact k l _ _ hl (by rw [upd_ne nle, ← hl5]; exact hL2) ((hy.drop _).mono T3) upd_same b3
end
end K3
namespace K3
open PySem L2 GG
theorem scRi : FnScope ["_law_wire", "_law_end_here", "_law_told", "_law_good"] ["_law_wire", "_law_end_here"] (defScope sRight) := ⟨rfl, rfl, rfl, by decide +kernel, rfl, by decide +kernel, by decide +kernel⟩
def spRight (W : WK) : Sp := fun vs H Q _ => ∃ (w e q : Addr) (fp : List Addr) (rows : List PyData) (kn tk : Nat), vs = [.ref w, .ref e] ∧ W.At H fp w (rows.drop kn) rows.length tk ∧ EndAt H e q rows kn tk ∧ tk ≤ 1000 ∧
  ∀ H', Same H H' → Q (.bl true) H'
theorem EndAt.but {M : Addr → Prop} {H H' : Hp} {e q : Addr} {rows : List PyData} {kn tk : Nat} (h : EndAt H e q rows kn tk) (b : But M H H') (n1 : ¬ M e) (n2 : ¬ M q) (t : Tups H H') : EndAt H' e q rows kn tk := by
  obtain ⟨h1, ⟨xs, h2, h3⟩, h4⟩ := h
  exact ⟨b _ _ n1 h1, ⟨xs, b _ _ n2 h2, h3.mono t⟩, h4⟩
theorem EndAt.same {H H' : Hp} {e q : Addr} {rows : List PyData} {kn tk : Nat} (h : EndAt H e q rows kn tk) (s : Same H H') : EndAt H' e q rows kn tk := h.but (sameBut s fun _ => False) (fun z => z) (fun z => z) (sameTups s)
section
variable {P : Program} {w : World} {K : PySem.W.Frag} {mg : Str → Option Value} {base : Heap} {W : WK}
theorem ok_right {f : Addr} {fd : FuncData} (F : Fun K "_law_end_right" "_law_end_right" sRight f fd) (T : Txt mg) (CW : Wires W P w K mg base 9) (CL : Cal P w K mg base "_law_letter_of" 1 ["_law_end_here"] spLetOf) :
    FnG P w K mg base CX0 11 f fd ["_law_wire", "_law_end_here"] (spRight W) := by
  obtain ⟨fL, fdL, mL, kL, bL, GL⟩ := CL
  obtain ⟨f1, fd1, ps1, m1, b1, G1⟩ := CW.letter
  obtain ⟨f2, fd2, ps2, m2, b2, G2⟩ := CW.heard
  obtain ⟨f3, fd3, ps3, m3, b3, G3⟩ := CW.unheard
  obtain ⟨f4, fd4, ps4, i4, n4, b4, G4⟩ := CW.len
  refine fun_okG F scRi (fun vs H Q E h => ?_) (fun cdv A outer s H vs Q E hg hr h => ?_)
  · obtain ⟨w, e, q, fp, rows, kn, tk, rfl, _⟩ := h
    rfl
  · obtain ⟨w, e, q, fp, rows, kn, tk, rfl, hW, hE, htk, k⟩ := h
    have hu := hu_of hr
    have hr1 : Room 1 _ := hr.mono (by decide)
    have hr9 : Room 9 _ := hr.mono (by decide)
    obtain ⟨he, ⟨xs, hq, hx⟩, hk, h1000, hrow⟩ := id hE
    have hd : ∀ d ∈ rows.drop kn, RowD d := fun d hd => hrow d (List.mem_of_mem_drop hd)
    have hdl : (rows.drop kn).length ≤ 1000 := by rw [List.length_drop]; omega
    have hkn : rows.length - (rows.drop kn).length = kn := by rw [List.length_drop]; omega
    have shL : Sh 1300000 5 (LetD kn (rows.drop kn) tk) := let_sh hd hdl (by omega) (by omega)
    have shR : Sh 1300000 4 (.list (rows.drop kn)) := (rows_sh hd hdl).mono (by decide) (Nat.le_refl _)
    have okL := shL.okT (by decide)
    have okR := shR.okL (by decide)
    refine ⟨_, pss_cons (ps_if (PW.pt (pw_or (pt_cmpR op_ne (pe_callB (call_repr hg hr.units) (by rfl) T.repr (by decide +kernel) (pa_cons (pe_meth0 (pv 0) CW.cls m1 G1 hr9 b1 .nil pass0) pa_nil))
          (pe_callB (call_repr hg hr.units) (by rfl) T.repr (by decide +kernel) (pa_cons (pe_call GL hr1 (by rfl) mL kL bL .nil pass0 (pa_cons (pv 1) pa_nil)) pa_nil)) (nomark _))
          (pw_or1 (pt_cmpR op_ne (pe_meth0 (pv 0) CW.cls m2 G2 hr9 b2 .nil pass0) (pe_dget hu (pv 1) pe_str (fun _ _ => rfl)) (nomark _))))) (pss_one (ps_ret pe_bl)) pss_nil)
      (pss_cons (ps_set (i := 2) scRi.nd rfl (.inl rfl) (pe_meth0 (pv 0) CW.cls m3 G3 hr9 b3 .nil pass0))
      (C8.pss_cut (ps_set (i := 3) scRi.nd rfl (.inl rfl) (pe_and (pe_cmpR op_eq (pe_callB (call_repr hg hr.units) (by rfl) T.repr (by decide +kernel) (pa_cons (pv 2) pa_nil))
          (pe_callB (call_repr hg hr.units) (by rfl) T.repr (by decide +kernel) (pa_cons (pe_slice sl_list (pe_dget hu (pv 1) pe_str (fun _ _ => rfl)) (po_some (pe_dget hu (pv 1) pe_str (fun _ _ => rfl))) po_none) pa_nil)) (nomark _))
          (pe_one (pe_cmpR op_eq (pe_callB (call_lenO (C := W.C) G4 hr b4 i4 n4) (by rfl) T.len PySem.boot_len (pa_cons (pv 0) pa_nil)) (pe_callB call_len_seq (by rfl) T.len PySem.boot_len (pa_cons (pv 2) pa_nil)) (nomark _)))))
      (pss_cons (ps_expr (pe_bm PySem.F.plainAttrs_list PySem.F.slot_list_append PySem.F.type_list_append mt_append (pv 2) (pa_cons (pe_tup (pa_cons pe_str pa_nil)) pa_nil)))
      (pss_cons (ps_expr (pe_bm0 PySem.F.plainAttrs_list PySem.F.slot_list_reverse PySem.F.type_list_reverse mt_reverse (pv 2)))
      (pss_one (ps_ret (pe_and (pv 3) (pe_one (pe_cmpR op_eq (pe_callB (call_repr hg hr.units) (by rfl) T.repr (by decide +kernel) (pa_cons (pe_meth0 (pv 0) CW.cls m1 G1 hr9 b1 .nil pass0) pa_nil))
          (pe_callB (call_repr hg hr.units) (by rfl) T.repr (by decide +kernel) (pa_cons (pe_call GL hr1 (by rfl) mL kL bL .nil pass0 (pa_cons (pv 1) pa_nil)) pa_nil)) (nomark _)))))))))), ?_⟩
    have step1 : ∀ {H1 : Hp}, Same H H1 → ∃ dx fs, H1 w = some (.ins W.C dx fs) ∧ ∀ m ∈ ([("put" : Str), "letter", "take", "heard", "unheard"] : List Str), fs.lookup m = none := fun s => W.ins (WK.same hW s)
    obtain ⟨dx, fs, hins, hno⟩ := step1 (Same.refl H)
    refine ⟨_, rfl, w, dx, fs, rfl, hins, hno _ (by simp), w, fp, _, _, _, rfl, hW, h1000, fun t1 H1 ht1 hd1 s1 => ?_⟩
    rw [hkn] at hd1
    refine ⟨_, _, rfl, hd1.dp, okL, _, rfl, e, q, rows, kn, tk, rfl, hE.same s1, fun t2 H2 ht2 hd2 s2 => ?_⟩
    refine ⟨_, _, rfl, hd2.dp, okL, rfl, _, rfl, iteNS rfl ?_⟩
    have s12 := s1.trans s2
    obtain ⟨dx, fs, hins, hno⟩ := step1 s12
    refine ⟨_, rfl, w, dx, fs, rfl, hins, hno _ (by simp), w, fp, _, _, _, rfl, WK.same hW s12, fun H3 s3 => ?_⟩
    have s13 := s12.trans s3
    refine ⟨_, rfl, e, _, rfl, end_gt (s13 _ _ he), rfl, _, rfl, iteNS rfl ?_⟩
    -- told
    obtain ⟨dx, fs, hins, hno⟩ := step1 s13
    refine ⟨_, rfl, w, dx, fs, rfl, hins, hno _ (by simp), w, fp, _, _, _, rfl, WK.same hW s13, h1000, fun l ys H4 hl hL hy s4 => ?_⟩
    have s14 := s13.trans s4
    have hl0 : H l = none := s13.free hl
    -- good
    refine ⟨fun σ' H' => σ' = [some (.ref w), some (.ref e), some (.ref l), some (.bl true)] ∧ H' l = some (.lst ys) ∧ Same H H', ?_, ?_⟩
    · refine ⟨_, rfl, _, _, rfl, .lst (SqL.of hL) hy.dp, okR, _, rfl, e, _, rfl, end_gp (s14 _ _ he), _, rfl, e, _, rfl, end_gk (s14 _ _ he), _, rfl, q, _, rfl, SqL.of (s14 _ _ hq), fun l2 hl2 => ?_⟩
      rw [cutV_drop]
      have s5 : Same H4 (upd H4 l2 (.lst (xs.drop kn))) := same_new (Same.refl _) hl2
      have s15 := s14.trans s5
      obtain ⟨dx, fs, hins, hno⟩ := step1 s15
      refine ⟨_, _, rfl, .lst (SqL.of upd_same) ((hx.drop kn).mono (sameTups s15)).dp, okR, rfl, _, rfl, iteYes rfl ?_⟩
      refine ⟨_, rfl, w, dx, fs, rfl, hins, w, fp, _, _, _, rfl, WK.same hW s15, h1000, fun H6 s6 => ⟨_, rfl, Int.natCast_nonneg _, Int.lt_of_le_of_lt (Int.ofNat_le.mpr hdl) (by decide), ?_⟩⟩
      refine ⟨_, rfl, l, _, rfl, .inl (SqL.of (s6 _ _ (s5 _ _ hL))), rfl, ?_⟩
      refine ⟨?_, s6 _ _ (s5 _ _ hL), s15.trans s6⟩
      have el := hy.length
      rw [el, decide_eq_true rfl]
      rfl
    rintro σ5 H5 ⟨rfl, hL5, s5⟩
    -- told.append(("more",)), told.reverse()
    have hys : ys.length ≤ 1000 := by rw [hy.length]; exact hdl
    refine ⟨_, rfl, .inl ⟨rfl, _, SqL.of hL5⟩, (by show 1 ≤ sizeLine; decide), fun t ht => ?_⟩
    have hLt : upd H5 t (.tup [.str "more"]) l = some (.lst ys) := by rw [upd_ne (ne_of_none hL5 ht)]; exact hL5
    have s6 := same_new s5 ht (o := .tup [.str "more"])
    generalize upd H5 t (.tup [.str "more"]) = H6 at hLt s6 ⊢
    refine ⟨l, _, _, rfl, rfl, hLt, small1000 hys, ?_⟩
    have s7 := same_mut s6 hl0 (o := .lst (ys ++ [V.ref t]))
    have hL7 : upd H6 l (.lst (ys ++ [V.ref t])) l = some (.lst (ys ++ [V.ref t])) := upd_same
    generalize upd H6 l (.lst (ys ++ [V.ref t])) = H7 at hL7 s7 ⊢
    refine ⟨_, rfl, .inl ⟨rfl, _, SqL.of hL7⟩, l, _, rfl, rfl, hL7, ?_⟩
    have s8 := same_mut s7 hl0 (o := .lst (ys ++ [V.ref t]).reverse)
    generalize upd H7 l (.lst (ys ++ [V.ref t]).reverse) = H8 at s8 ⊢
    obtain ⟨dx, fs, hins, hno⟩ := step1 s8
    refine ⟨_, rfl, true, rfl, iteT ?_⟩
    refine ⟨_, rfl, w, dx, fs, rfl, hins, hno _ (by simp), w, fp, _, _, _, rfl, WK.same hW s8, h1000, fun t1 H1 ht1 hd1 s9 => ?_⟩
    rw [hkn] at hd1
    have s19 := s8.trans s9
    refine ⟨_, _, rfl, hd1.dp, okL, _, rfl, e, q, rows, kn, tk, rfl, hE.same s19, fun t2 H2 ht2 hd2 s2 => ?_⟩
    refine ⟨_, _, rfl, hd2.dp, okL, rfl, ?_⟩
    have fin := k H2 (s19.trans s2)
    show Q (V.bl (decide (V.str _ = V.str _))) H2
    rw [decide_eq_true rfl]
    exact fin
end
end K3
namespace K3
open PySem L2 GG
/-! ### the state of the law's turns -/
structure Sd where
  w : Addr
  e : Addr
  q : Addr
  m : Addr
  fp : List Addr
  rows : List PyData
  kn : Nat
  tk : Nat
def Sd.own (x : Sd) : List Addr := [x.e, x.q, x.m]
/-- a letter that was written at x -/
def GoodLet (x : Sd) (d : PyData) : Prop := ∃ (first heard : Nat) (new : List PyData), d = LetD first new heard ∧ first ≤ x.kn ∧ heard ≤ x.tk ∧ (∀ z ∈ new, RowD z) ∧ first + new.length ≤ x.rows.length
structure SdOk (W : WK) (H : Hp) (x : Sd) (i : Nat) : Prop where
  hE : EndAt H x.e x.q x.rows x.kn x.tk
  hW : W.At H x.fp x.w (x.rows.drop x.kn) x.rows.length x.tk
  hM : ∃ xs ds, H x.m = some (.lst xs) ∧ DtAll H xs ds ∧ (∀ d ∈ ds, GoodLet x d) ∧ ds.length ≤ i
  len : x.rows.length ≤ i
theorem SdOk.keep {W : WK} {M : Addr → Prop} {H H' : Hp} {x : Sd} {i : Nat} (h : SdOk W H x i) (b : But M H H') (t : Tups H H') (n : ∀ a ∈ x.own, ¬ M a) (nf : ∀ a ∈ x.fp, ¬ M a) : SdOk W H' x i := by
  obtain ⟨h1, h2, ⟨xs, ds, h3, h4, h5, h6⟩, h7⟩ := h
  exact ⟨h1.but b (n _ (by simp [Sd.own])) (n _ (by simp [Sd.own])) t, WK.but h2 b nf t, ⟨xs, ds, b _ _ (n _ (by simp [Sd.own])) h3, h4.mono t, h5, h6⟩, h7⟩
theorem SdOk.more {W : WK} {H : Hp} {x : Sd} {i j : Nat} (h : SdOk W H x i) (le : i ≤ j) : SdOk W H x j := by
  obtain ⟨h1, h2, ⟨xs, ds, h3, h4, h5, h6⟩, h7⟩ := h
  exact ⟨h1, h2, ⟨xs, ds, h3, h4, h5, Nat.le_trans h6 le⟩, Nat.le_trans h7 le⟩
structure Core (W : WK) (H : Hp) (p c : Addr) (ns : List Int) (n : Nat) (L : List Addr) (x y : Sd) (i : Nat) : Prop where
  pen : Pen H p c ns n
  ox : SdOk W H x i
  oy : SdOk W H y i
  kx : x.kn ≤ y.tk
  ky : y.kn ≤ x.tk
  tx : x.tk ≤ y.rows.length
  ty : y.tk ≤ x.rows.length
  sx : (x.own ++ ([p, c] ++ L)).Nodup
  sy : (y.own ++ ([p, c] ++ L)).Nodup
  sxy : ∀ a ∈ x.own, a ∉ y.own
  fx : ∀ a ∈ x.fp, a ∉ y.fp ∧ a ∉ x.own ∧ a ∉ y.own ∧ a ∉ [p, c] ++ L
  fy : ∀ a ∈ y.fp, a ∉ x.fp ∧ a ∉ y.own ∧ a ∉ x.own ∧ a ∉ [p, c] ++ L
  all : ∀ a ∈ x.own ++ (y.own ++ ([p, c] ++ L)), ∃ u, H a = some u
theorem Core.symm {W : WK} {H : Hp} {p c : Addr} {ns : List Int} {n : Nat} {L : List Addr} {x y : Sd} {i : Nat} (h : Core W H p c ns n L x y i) : Core W H p c ns n L y x i :=
  ⟨h.pen, h.oy, h.ox, h.ky, h.kx, h.ty, h.tx, h.sy, h.sx, fun a m z => h.sxy a z m, h.fy, h.fx, fun a m => h.all a (by
    simp only [List.mem_append] at m ⊢
    rcases m with m | m | m
    · exact .inr (.inl m)
    · exact .inl m
    · exact .inr (.inr m))⟩
theorem Core.ownp {W : WK} {H : Hp} {p c : Addr} {ns : List Int} {n : Nat} {L : List Addr} {x y : Sd} {i : Nat} (h : Core W H p c ns n L x y i) : ∀ a ∈ x.own, a ∉ [p, c] ++ L := fun a m z => by
  have q := (List.nodup_append.mp h.sx).2.2
  exact q a m a z rfl
/-- the pen's draws, and new objects -/
theorem Core.draw {W : WK} {H H' : Hp} {p c : Addr} {ns : List Int} {n n' : Nat} {L : List Addr} {x y : Sd} {i : Nat} (h : Core W H p c ns n L x y i) (b : But (· = p) H H') (q : Pen H' p c ns n') : Core W H' p c ns n' L x y i := by
  have t := h.pen.tups b
  have pL : p ∈ [p, c] ++ L := List.mem_append_left _ (List.mem_cons_self ..)
  refine ⟨q, h.ox.keep b t (fun a m z => h.ownp a m (by rw [z]; exact pL)) (fun a m z => (h.fx a m).2.2.2 (by rw [z]; exact pL)), h.oy.keep b t (fun a m z => h.symm.ownp a m (by rw [z]; exact pL)) (fun a m z => (h.fy a m).2.2.2 (by rw [z]; exact pL)),
    h.kx, h.ky, h.tx, h.ty, h.sx, h.sy, h.sxy, h.fx, h.fy, fun a m => ?_⟩
  by_cases ap : a = p
  · obtain ⟨_, _, _, _, _, z, _⟩ := q
    exact ⟨_, by rw [ap]; exact z⟩
  · obtain ⟨u, hu⟩ := h.all a m
    exact ⟨u, b a u ap hu⟩
theorem Core.same {W : WK} {H H' : Hp} {p c : Addr} {ns : List Int} {n : Nat} {L : List Addr} {x y : Sd} {i : Nat} (h : Core W H p c ns n L x y i) (s : Same H H') : Core W H' p c ns n L x y i :=
  h.draw (sameBut s _) (h.pen.but (sameBut s fun _ => False) (fun z => z) (fun z => z))
theorem Core.more {W : WK} {H : Hp} {p c : Addr} {ns : List Int} {n : Nat} {L : List Addr} {x y : Sd} {i j : Nat} (h : Core W H p c ns n L x y i) (le : i ≤ j) : Core W H p c ns n L x y j :=
  ⟨h.pen, h.ox.more le, h.oy.more le, h.kx, h.ky, h.tx, h.ty, h.sx, h.sy, h.sxy, h.fx, h.fy, h.all⟩
/-- what changes at x alone: its own objects, its wire's -/
theorem Core.at {W : WK} {H H' : Hp} {p c : Addr} {ns : List Int} {n : Nat} {L : List Addr} {x x' y : Sd} {i : Nat} {M : Addr → Prop} (h : Core W H p c ns n L x y i) (b : But M H H') (t : Tups H H') (hM : ∀ a, M a → a ∈ x.own ∨ a ∈ x.fp)
    (own : x'.own = x.own) (o : SdOk W H' x' (i + 1)) (th : ∀ a ∈ x.own, ∃ u, H' a = some u) (fp : ∀ a ∈ x'.fp, a ∈ x.fp ∨ H a = none) (kx : x'.kn ≤ y.tk) (ky : y.kn ≤ x'.tk) (tx : x'.tk ≤ y.rows.length) (ty : y.tk ≤ x'.rows.length) :
    Core W H' p c ns n L x' y (i + 1) := by
  have nf : ∀ {a : Addr}, H a = none → a ∉ y.fp ∧ a ∉ x.own ∧ a ∉ y.own ∧ a ∉ [p, c] ++ L := fun {a} ha => by
    have all : ∀ z ∈ x.own ++ (y.own ++ ([p, c] ++ L)), a ≠ z := fun z hz e => by
      obtain ⟨u, hu⟩ := h.all z hz
      rw [← e, ha] at hu
      cases hu
    refine ⟨WK.ne h.oy.hW ha, fun z => all a (List.mem_append_left _ z) rfl, fun z => all a (List.mem_append_right _ (List.mem_append_left _ z)) rfl, fun z => all a (List.mem_append_right _ (List.mem_append_right _ z)) rfl⟩
  have nM : ∀ a ∈ [p, c] ++ L, ¬ M a := fun a m z => by
    rcases hM a z with q | q
    · exact h.ownp a q m
    · exact (h.fx a q).2.2.2 m
  refine ⟨h.pen.but b (nM _ (by simp)) (nM _ (by simp)), o, (h.oy.keep b t (fun a m z => ?_) fun a m z => ?_).more (Nat.le_succ _), kx, ky, tx, ty, by rw [own]; exact h.sx, h.sy, by rw [own]; exact h.sxy, fun a m => ?_, fun a m => ?_, fun a m => ?_⟩
  · rcases hM a z with q | q
    · exact h.sxy a q m
    · exact (h.fx a q).2.2.1 m
  · rcases hM a z with q | q
    · exact (h.fy a m).2.2.1 q
    · exact (h.fx a q).1 m
  · rw [own]
    rcases fp a m with q | q
    · exact h.fx a q
    · exact nf q
  · rw [own]
    refine ⟨fun z => ?_, (h.fy a m).2⟩
    rcases fp a z with q | q
    · exact (h.fx a q).1 m
    · exact (nf q).1 m
  · rw [own] at m
    rcases List.mem_append.mp m with q | q
    · exact th a q
    · obtain ⟨u, hu⟩ := h.all a (List.mem_append_right _ q)
      refine ⟨u, b a u (fun z => ?_) hu⟩
      rcases List.mem_append.mp q with q | q
      · rcases hM a z with r | r
        · exact h.sxy a r q
        · exact (h.fx a r).2.2.1 q
      · exact nM a q z
theorem sd_start {W : WK} {H : Hp} {w e q m : Addr} {fp : List Addr} (h1 : H e = some (.dK (endK q 0 0))) (h2 : H q = some (.lst [])) (h3 : W.At H fp w [] 0 0) (h4 : H m = some (.lst [])) : SdOk W H ⟨w, e, q, m, fp, [], 0, 0⟩ 0 :=
  ⟨⟨h1, ⟨[], h2, .nil⟩, Nat.le_refl _, Nat.zero_le _, fun d z => absurd z (by simp)⟩, h3, ⟨[], [], h4, .nil, fun d z => absurd z (by simp), Nat.le_refl _⟩, Nat.le_refl _⟩
theorem pick_nat (Nl m2 m1 El q2 e2 q1 e1 Wl c p : Nat) (t : [Nl, m2, m1, El, q2, e2, q1, e1, Wl, c, p].Nodup) :
    [e1, q1, m1, p, c, Wl, El, Nl].Nodup ∧ [e2, q2, m2, p, c, Wl, El, Nl].Nodup ∧ ∀ a ∈ [e1, q1, m1], a ∉ [e2, q2, m2] := by
  simp only [List.nodup_cons, List.mem_cons, List.not_mem_nil, or_false, not_or, not_false_eq_true, List.nodup_nil, and_true] at t
  obtain ⟨⟨_, _, _, _, _, _, _, _, _, _⟩, ⟨_, _, _, _, _, _, _, _, _⟩, ⟨_, _, _, _, _, _, _, _⟩, ⟨_, _, _, _, _, _, _⟩, ⟨_, _, _, _, _, _⟩, ⟨_, _, _, _, _⟩, ⟨_, _, _, _⟩, ⟨_, _, _⟩, ⟨_, _⟩, _⟩ := t
  refine ⟨?_, ?_, ?_⟩
  · simp only [List.nodup_cons, List.mem_cons, List.not_mem_nil, or_false, not_or, not_false_eq_true, List.nodup_nil, and_true]
    and_intros <;> first | assumption | (apply Ne.symm; assumption)
  · simp only [List.nodup_cons, List.mem_cons, List.not_mem_nil, or_false, not_or, not_false_eq_true, List.nodup_nil, and_true]
    and_intros <;> first | assumption | (apply Ne.symm; assumption)
  · intro a m
    simp only [List.mem_cons, List.not_mem_nil, or_false, not_or] at m ⊢
    rcases m with rfl | rfl | rfl <;> and_intros <;> first | assumption | (apply Ne.symm; assumption)
theorem pick_not (Nl m2 m1 El q2 e2 q1 e1 Wl c p a : Nat) (d : a ∉ [Nl, m2, m1, El, q2, e2, q1, e1, Wl, c, p]) : a ∉ [e1, q1, m1] ∧ a ∉ [e2, q2, m2] ∧ a ∉ [p, c, Wl, El, Nl] := by
  simp only [List.mem_cons, List.not_mem_nil, or_false, not_or] at d ⊢
  obtain ⟨_, _, _, _, _, _, _, _, _, _, _⟩ := d
  and_intros <;> assumption
theorem pick_in (Nl m2 m1 El q2 e2 q1 e1 Wl c p a : Nat) (m : a ∈ [e1, q1, m1] ++ ([e2, q2, m2] ++ [p, c, Wl, El, Nl])) : a ∈ [Nl, m2, m1, El, q2, e2, q1, e1, Wl, c, p] := by
  simp only [List.cons_append, List.nil_append, List.mem_cons, List.not_mem_nil, or_false] at m
  rcases m with rfl | rfl | rfl | rfl | rfl | rfl | rfl | rfl | rfl | rfl | rfl <;> simp
theorem core_start {W : WK} {H : Hp} {p c Wl El Nl w1 w2 e1 e2 q1 q2 m1 m2 : Addr} {ns : List Int} {n : Nat} {fp1 fp2 : List Addr} (hP : Pen H p c ns n) (T : Trk H [Nl, m2, m1, El, q2, e2, q1, e1, Wl, c, p])
    (D1 : Dj H fp1 [Nl, m2, m1, El, q2, e2, q1, e1, Wl, c, p]) (D2 : Dj H fp2 [Nl, m2, m1, El, q2, e2, q1, e1, Wl, c, p]) (D : ∀ a ∈ fp1, a ∉ fp2)
    (o1 : SdOk W H ⟨w1, e1, q1, m1, fp1, [], 0, 0⟩ 0) (o2 : SdOk W H ⟨w2, e2, q2, m2, fp2, [], 0, 0⟩ 0) : Core W H p c ns n [Wl, El, Nl] ⟨w1, e1, q1, m1, fp1, [], 0, 0⟩ ⟨w2, e2, q2, m2, fp2, [], 0, 0⟩ 0 := by
  obtain ⟨t1, t2, t3⟩ := pick_nat Nl m2 m1 El q2 e2 q1 e1 Wl c p T.1
  refine ⟨hP, o1, o2, Nat.le_refl _, Nat.le_refl _, Nat.le_refl _, Nat.le_refl _, t1, t2, t3, fun a m => ?_, fun a m => ?_, fun a m => T.2 a (pick_in Nl m2 m1 El q2 e2 q1 e1 Wl c p a m)⟩
  · exact ⟨D a m, pick_not Nl m2 m1 El q2 e2 q1 e1 Wl c p a (D1.2 a m)⟩
  · obtain ⟨d1, d2, d3⟩ := pick_not Nl m2 m1 El q2 e2 q1 e1 Wl c p a (D2.2 a m)
    exact ⟨fun z => D a z m, d2, d1, d3⟩
def Lists (H : Hp) (Wl El Nl : Addr) (x y : Sd) : Prop := H Wl = some (.lst [.ref x.w, .ref y.w]) ∧ H El = some (.lst [.ref x.e, .ref y.e]) ∧ H Nl = some (.lst [.ref x.m, .ref y.m])
theorem Lists.but {M : Addr → Prop} {H H' : Hp} {Wl El Nl : Addr} {x y : Sd} (h : Lists H Wl El Nl x y) (b : But M H H') (n : ∀ a ∈ [Wl, El, Nl], ¬ M a) : Lists H' Wl El Nl x y :=
  ⟨b _ _ (n _ (by simp)) h.1, b _ _ (n _ (by simp)) h.2.1, b _ _ (n _ (by simp)) h.2.2⟩
end K3
namespace K3
open PySem L2 GG
theorem Core.listM {W : WK} {H : Hp} {p c : Addr} {ns : List Int} {n : Nat} {L : List Addr} {x y : Sd} {i : Nat} {M : Addr → Prop} (h : Core W H p c ns n L x y i) (hM : ∀ a, M a → a ∈ x.own ∨ a ∈ x.fp) : ∀ a ∈ L, ¬ M a := fun a m z => by
  rcases hM a z with q | q
  · exact h.ownp a q (List.mem_append_right _ m)
  · exact (h.fx a q).2.2.2 (List.mem_append_right _ m)
theorem Core.lp {W : WK} {H : Hp} {p c : Addr} {ns : List Int} {n : Nat} {L : List Addr} {x y : Sd} {i : Nat} (h : Core W H p c ns n L x y i) : ∀ a ∈ L, a ≠ p := fun a m z => by
  have q := (List.nodup_append.mp (List.nodup_append.mp h.sx).2.1).2.2
  exact q p (List.mem_cons_self ..) a m z.symm
theorem Core.own3 {W : WK} {H : Hp} {p c : Addr} {ns : List Int} {n : Nat} {L : List Addr} {x y : Sd} {i : Nat} (h : Core W H p c ns n L x y i) : x.e ≠ x.q ∧ x.e ≠ x.m ∧ x.q ≠ x.m := by
  have q := (List.nodup_append.mp h.sx).1
  simp only [Sd.own, List.nodup_cons, List.mem_cons, List.not_mem_nil, or_false, not_or, not_false_eq_true, List.nodup_nil, and_true] at q
  exact ⟨q.1.1, q.1.2, q.2⟩
theorem Core.grow {W : WK} {H : Hp} {p c : Addr} {ns : List Int} {n m : Nat} {L : List Addr} {x y : Sd} {i : Nat} (h : Core W H p c ns n L x y i) (le : n ≤ m) : Core W H p c ns m L x y i := h.draw (But.refl _ _) (h.pen.mono le)
theorem good_lay {x : Sd} {d : PyData} (h : GoodLet x d) : d.canLay0 = true ∧ d.depth ≤ 20 := by
  obtain ⟨f, hh, new, rfl, _, _, hr, _⟩ := h
  have all : ∀ l : List PyData, (∀ d ∈ l, RowD d) → PyData.canLayAll0 l = true ∧ PyData.depthAll l ≤ 10 := by
    intro l
    induction l with
    | nil => exact fun _ => ⟨rfl, Nat.zero_le _⟩
    | cons b r ih =>
      intro h
      obtain ⟨q1, q2⟩ := ih fun e he => h e (List.mem_cons_of_mem _ he)
      obtain ⟨q3, q4⟩ := (h b (List.mem_cons_self ..)).lay
      refine ⟨?_, ?_⟩
      · simp only [PyData.canLayAll0, q3, q1, Bool.and_self]
      · simp only [PyData.depthAll]; omega
  obtain ⟨q1, q2⟩ := all new hr
  have e0 : PyData.canLay0 (.str "rows") = true := by decide +kernel
  refine ⟨?_, ?_⟩
  · simp only [LetD, PyData.canLay0, PyData.canLayAll0, q1, Bool.and_true, Bool.true_and]
    simpa only [PyData.canLay0] using e0
  · simp only [LetD, PyData.depth, PyData.depthAll]
    omega
/-- a row put at x -/
theorem Core.put {W : WK} {H H5 : Hp} {p c : Addr} {ns : List Int} {n : Nat} {L : List Addr} {x y : Sd} {i : Nat} (h : Core W H p c ns n L x y i) {t : Addr} {d : PyData} {qs : List V} {fp' : List Addr} (hi : i < 1000) (hq : H x.q = some (.lst qs)) (hqd : DtAll H qs x.rows) (hd : Dt H (.ref t) d) (hr : RowD d)
    (hW : W.At H5 fp' x.w (x.rows.drop x.kn ++ [d]) (x.rows.length + 1) x.tk) (hf : ∀ a ∈ fp', a ∈ x.fp ∨ upd H x.q (.lst (qs ++ [.ref t])) a = none) (b : But (· ∈ x.fp) (upd H x.q (.lst (qs ++ [.ref t]))) H5) :
    Core W H5 p c ns n L { x with fp := fp', rows := x.rows ++ [d] } y (i + 1) ∧ But (fun a => a = x.q ∨ a ∈ x.fp) H H5 ∧ H5 x.q = some (.lst (qs ++ [.ref t])) := by
  obtain ⟨n1, n2, n3⟩ := h.own3
  have qf : x.q ∉ x.fp := fun z => (h.fx _ z).2.1 (by simp [Sd.own])
  have hq5 : H5 x.q = some (.lst (qs ++ [.ref t])) := b _ _ qf upd_same
  have bb : But (fun a => a = x.q ∨ a ∈ x.fp) H H5 := fun a o m z => b a o (fun q => m (.inr q)) (by rw [upd_ne (fun q => m (.inl q))]; exact z)
  have tt : Tups H H5 := bb.tups fun a xs m z => by
    rcases m with rfl | m
    · rw [hq] at z
      cases z
    · obtain ⟨u, hu, hn⟩ := W.there h.ox.hW a m
      rw [hu] at z
      exact hn xs (Option.some.inj z)
  have own : ∀ a ∈ x.own, a ∉ x.fp := fun a m z => (h.fx a z).2.1 m
  refine ⟨h.at (x' := { x with fp := fp', rows := x.rows ++ [d] }) bb tt (fun a m => ?_) rfl ?_ ?_ (fun a m => ?_) h.kx h.ky h.tx ?_, bb, hq5⟩
  · rcases m with rfl | m
    · exact .inl (by simp [Sd.own])
    · exact .inr m
  · obtain ⟨⟨g1, ⟨xs, g2, g3⟩, g4, g5, g6⟩, _, ⟨ys, es, g7, g8, g9, g10⟩, g11⟩ := h.ox
    refine ⟨⟨bb _ _ (fun z => ?_) g1, ⟨_, hq5, (hqd.mono tt).app (.cons (hd.mono tt) .nil)⟩, ?_, ?_, fun e he => ?_⟩, ?_, ⟨ys, es, bb _ _ (fun z => ?_) g7, g8.mono tt, fun e he => ?_, Nat.le_succ_of_le g10⟩, ?_⟩
    · rcases z with z | z
      · exact n1 z
      · exact own _ (by simp [Sd.own]) z
    · show x.kn ≤ (x.rows ++ [d]).length
      rw [List.length_append]
      exact Nat.le_add_right_of_le g4
    · show (x.rows ++ [d]).length ≤ 1000
      rw [List.length_append, List.length_singleton]
      omega
    · rcases List.mem_append.mp he with z | z
      · exact g6 e z
      · rw [List.mem_singleton.mp z]; exact hr
    · show W.At H5 fp' x.w ((x.rows ++ [d]).drop x.kn) (x.rows ++ [d]).length x.tk
      rw [List.drop_append_of_le_length g4, List.length_append, List.length_singleton]
      exact hW
    · rcases z with z | z
      · exact n3 z.symm
      · exact own _ (by simp [Sd.own]) z
    · obtain ⟨f, hh, new, e1, e2, e3, e4, e5⟩ := g9 e he
      refine ⟨f, hh, new, e1, e2, e3, e4, ?_⟩
      show f + new.length ≤ (x.rows ++ [d]).length
      rw [List.length_append]
      omega
    · show (x.rows ++ [d]).length ≤ i + 1
      rw [List.length_append, List.length_singleton]
      omega
  · intro a m
    by_cases e : a = x.q
    · exact ⟨_, by rw [e]; exact hq5⟩
    · obtain ⟨u, hu⟩ := h.all a (List.mem_append_left _ m)
      refine ⟨u, bb a u (fun z => ?_) hu⟩
      rcases z with z | z
      · exact e z
      · exact own a m z
  · rcases hf a m with z | z
    · exact .inl z
    · refine .inr ?_
      by_cases e : a = x.q
      · rw [e, upd_same] at z
        cases z
      · rw [upd_ne e] at z
        exact z
  · show y.tk ≤ (x.rows ++ [d]).length
    rw [List.length_append]
    exact Nat.le_add_right_of_le h.ty
theorem Core.aside {W : WK} {H : Hp} {p c : Addr} {ns : List Int} {n : Nat} {L : List Addr} {x y : Sd} {i : Nat} (h : Core W H p c ns n L x y i) {l : Addr} {xs : List V} {o : HO} (hl : H l = some (.lst xs)) (n1 : l ∉ x.own ++ (y.own ++ ([p, c] ++ L))) (n2 : l ∉ x.fp) (n3 : l ∉ y.fp) :
    Core W (upd H l o) p c ns n L x y i ∧ But (· = l) H (upd H l o) := by
  have bb : But (· = l) H (upd H l o) := (But.refl _ _).mut rfl
  have tt : Tups H (upd H l o) := (Tups.refl _).mut hl (by intro _ z; cases z)
  have nx : ∀ a ∈ x.own, ¬ a = l := fun a m z => n1 (List.mem_append_left _ (by rw [← z]; exact m))
  have ny : ∀ a ∈ y.own, ¬ a = l := fun a m z => n1 (List.mem_append_right _ (List.mem_append_left _ (by rw [← z]; exact m)))
  have nL : ∀ a ∈ [p, c] ++ L, ¬ a = l := fun a m z => n1 (List.mem_append_right _ (List.mem_append_right _ (by rw [← z]; exact m)))
  refine ⟨⟨h.pen.but bb (nL _ (by simp)) (nL _ (by simp)), h.ox.keep bb tt nx (fun a m z => n2 (by rw [← show a = l from z]; exact m)), h.oy.keep bb tt ny (fun a m z => n3 (by rw [← show a = l from z]; exact m)), h.kx, h.ky, h.tx, h.ty, h.sx, h.sy, h.sxy, h.fx, h.fy, fun a m => ?_⟩, bb⟩
  obtain ⟨u, hu⟩ := h.all a m
  exact ⟨u, bb a u (fun z => n1 (by rw [← show a = l from z]; exact m)) hu⟩
/-- a letter noted at x -/
theorem Core.note {W : WK} {H H3 : Hp} {p c : Addr} {ns : List Int} {n : Nat} {L : List Addr} {x y : Sd} {i : Nat} (h0 : Core W H p c ns n L x y i) (s : Same H H3) {t : Addr} {ms : List V} (hm : H3 x.m = some (.lst ms)) (hd : Dt H3 (.ref t) (LetD x.kn (x.rows.drop x.kn) x.tk)) :
    Core W (upd H3 x.m (.lst (ms ++ [.ref t]))) p c ns n L x y (i + 1) ∧ But (· = x.m) H3 (upd H3 x.m (.lst (ms ++ [.ref t]))) := by
  have h := h0.same s
  obtain ⟨n1, n2, n3⟩ := h.own3
  have bb : But (· = x.m) H3 (upd H3 x.m (.lst (ms ++ [.ref t]))) := (But.refl _ _).mut rfl
  have tt : Tups H3 (upd H3 x.m (.lst (ms ++ [.ref t]))) := (Tups.refl _).mut hm (by intro _ z; cases z)
  have own : ∀ a ∈ x.own, a ∉ x.fp := fun a m z => (h.fx a z).2.1 m
  refine ⟨h.at bb tt (fun a m => .inl (by rw [show a = x.m from m]; simp [Sd.own])) rfl ?_ (fun a m => ?_) (fun a m => .inl m) h.kx h.ky h.tx h.ty, bb⟩
  · obtain ⟨g, g0, ⟨ys, es, g7, g8, g9, g10⟩, g11⟩ := h.ox
    rw [hm] at g7
    cases g7
    refine ⟨g.but bb (fun z => n2 z) (fun z => n3 z) tt, WK.but g0 bb (fun a m z => own x.m (by simp [Sd.own]) (by rw [← show a = x.m from z]; exact m)) tt, ⟨_, es ++ [LetD x.kn (x.rows.drop x.kn) x.tk], upd_same, (g8.mono tt).app (.cons (hd.mono tt) .nil), fun e he => ?_, ?_⟩, Nat.le_succ_of_le g11⟩
    · rcases List.mem_append.mp he with z | z
      · exact g9 e z
      · rw [List.mem_singleton.mp z]
        refine ⟨x.kn, x.tk, _, rfl, Nat.le_refl _, Nat.le_refl _, fun r hr => g.2.2.2.2 r (List.mem_of_mem_drop hr), ?_⟩
        have := g.2.2.1
        rw [List.length_drop]
        omega
    · rw [List.length_append, List.length_singleton]
      omega
  · by_cases e : a = x.m
    · exact ⟨_, by rw [e]; exact upd_same⟩
    · obtain ⟨u, hu⟩ := h.all a (List.mem_append_left _ m)
      exact ⟨u, bb a u e hu⟩
/-- a letter of y's taken at x -/
theorem Core.take {W : WK} {H H4 H5 : Hp} {p c : Addr} {ns : List Int} {n : Nat} {L : List Addr} {x y : Sd} {i : Nat} (h : Core W H p c ns n L x y i) {first heard : Nat} {new : List PyData} {fp' : List Addr} (hl : GoodLet y (LetD first new heard))
    (he : H4 x.e = some (.dK (endK x.q (max x.kn heard) (x.tk + (new.drop (x.tk - first)).length)))) (b4 : But (· = x.e) H H4)
    (hW : W.At H5 fp' x.w ((x.rows.drop x.kn).drop (heard - x.kn)) x.rows.length (x.tk + (new.drop (x.tk - first)).length)) (hf : ∀ a ∈ fp', a ∈ x.fp ∨ H4 a = none) (b5 : But (· ∈ x.fp) H4 H5) :
    Core W H5 p c ns n L { x with fp := fp', kn := max x.kn heard, tk := x.tk + (new.drop (x.tk - first)).length } y (i + 1) ∧ But (fun a => a = x.e ∨ a ∈ x.fp) H H5 := by
  obtain ⟨n1, n2, n3⟩ := h.own3
  obtain ⟨f', h', new', e1, l1, l2, l3, l4⟩ := hl
  have e1' : first = f' ∧ new = new' ∧ heard = h' := by
    have z := e1
    unfold LetD at z
    simp only [PyData.tuple.injEq, List.cons.injEq, PyData.int.injEq, and_true, true_and, Int.natCast_inj] at z
    exact ⟨z.1, z.2.1, z.2.2⟩
  obtain ⟨rfl, rfl, rfl⟩ := e1'
  have own : ∀ a ∈ x.own, a ∉ x.fp := fun a m z => (h.fx a z).2.1 m
  have he5 := b5 _ _ (own x.e (by simp [Sd.own])) he
  have bb : But (fun a => a = x.e ∨ a ∈ x.fp) H H5 := fun a o m z => b5 a o (fun q => m (.inr q)) (b4 a o (fun q => m (.inl q)) z)
  have tt : Tups H H5 := bb.tups fun a xs m z => by
    rcases m with rfl | m
    · rw [h.ox.hE.1] at z
      cases z
    · obtain ⟨u, hu, hn⟩ := W.there h.ox.hW a m
      rw [hu] at z
      exact hn xs (Option.some.inj z)
  have ld : (new.drop (x.tk - first)).length = new.length - (x.tk - first) := List.length_drop ..
  have kx := h.kx
  have ky := h.ky
  have tx := h.tx
  have ty := h.ty
  have kk : max x.kn heard ≤ y.tk := by omega
  refine ⟨h.at (x' := { x with fp := fp', kn := max x.kn heard, tk := x.tk + (new.drop (x.tk - first)).length }) bb tt (fun a m => ?_) rfl ?_ (fun a m => ?_) (fun a m => ?_) kk ?_ ?_ ty, bb⟩
  · rcases m with rfl | m
    · exact .inl (by simp [Sd.own])
    · exact .inr m
  · obtain ⟨⟨g1, ⟨xs, g2, g3⟩, g4, g5, g6⟩, _, ⟨ys, es, g7, g8, g9, g10⟩, g11⟩ := h.ox
    have kn' : max x.kn heard ≤ x.rows.length := by omega
    refine ⟨⟨he5, ⟨xs, bb _ _ (fun z => ?_) g2, g3.mono tt⟩, kn', g5, g6⟩, ?_, ⟨ys, es, bb _ _ (fun z => ?_) g7, g8.mono tt, fun e he => ?_, Nat.le_succ_of_le g10⟩, Nat.le_succ_of_le g11⟩
    · rcases z with z | z
      · exact n1 z.symm
      · exact own _ (by simp [Sd.own]) z
    · show W.At H5 fp' x.w (x.rows.drop (max x.kn heard)) x.rows.length _
      have em : x.kn + (heard - x.kn) = max x.kn heard := by omega
      rw [List.drop_drop, em] at hW
      exact hW
    · rcases z with z | z
      · exact n2 z.symm
      · exact own _ (by simp [Sd.own]) z
    · obtain ⟨f, hh, nw, q1, q2, q3, q4, q5⟩ := g9 e he
      exact ⟨f, hh, nw, q1, Nat.le_trans q2 (Nat.le_max_left _ _), Nat.le_trans q3 (Nat.le_add_right _ _), q4, q5⟩
  · by_cases e : a = x.e
    · exact ⟨_, by rw [e]; exact he5⟩
    · obtain ⟨u, hu⟩ := h.all a (List.mem_append_left _ m)
      refine ⟨u, bb a u (fun z => ?_) hu⟩
      rcases z with z | z
      · exact e z
      · exact own a m z
  · rcases hf a m with z | z
    · exact .inl z
    · refine .inr ?_
      cases q : H a with
      | none => rfl
      | some u =>
        by_cases e : a = x.e
        · rw [e, he] at z
          cases z
        · rw [b4 a u e q] at z
          cases z
  · show y.kn ≤ x.tk + _
    omega
  · show x.tk + (new.drop (x.tk - first)).length ≤ y.rows.length
    rw [ld]
    omega
end K3
namespace K3
open PySem L2 GG
abbrev sLaw : Stmt := top 19
abbrev lawN : List Str := ["_law_script", "_law_pen_here", "_law_bout", "_law_wires", "_law_ends", "_law_notes", "_law_turn", "_law_lot", "_law_at", "_law_row", "_law_letter", "_law_due", "_law_told"]
theorem scLaw : FnScope lawN ["_law_script"] (defScope sLaw) := ⟨rfl, rfl, rfl, by decide +kernel, rfl, by decide +kernel, by decide +kernel⟩
def spLaw (K : PySem.W.Frag) : Sp := fun vs H Q _ => ∃ (a : Addr) (ns : List Int), vs = [.ref a] ∧ SqL K H a (ns.map V.int) ∧ ns.length ≤ 63 ∧ ∀ H', Q (.bl true) H'
section
variable {P : Program} {w : World} {K : PySem.W.Frag} {mg : Str → Option Value} {base : Heap} {W : WK}
theorem ok_law {f : Addr} {fd : FuncData} (F : Fun K "law" "law" sLaw f fd) (T : Txt mg) (CW : Wires W P w K mg base 9)
    (CPen : Cal P w K mg base "_law_pen" 1 ["_law_script"] (spPen K)) (CD : Cal P w K mg base "_law_draw" 1 ["_law_pen_here", "_law_many"] spDraw) (CP : Cal P w K mg base "_law_pick" 2 ["_law_pen_here", "_law_some"] spPick)
    (CR : Cal P w K mg base "_law_row_of" 4 ["_law_pen_here"] spRow) (CE : Cal P w K mg base "_law_end" 1 [] spEnd) (CF : Cal P w K mg base "_law_fresh_by" 1 ["_law_end_here", "_law_letter"] spFresh)
    (CT : ∃ f fd, mg "_law_end_right" = some (.ref f) ∧ PySem.W.keepIn K (.ref f) = true ∧ Binds K fd ["_law_wire", "_law_end_here"] [] ∧ FnG P w K mg base CX0 11 f fd ["_law_wire", "_law_end_here"] (spRight W)) :
    FnG P w K mg base CX0 12 f fd ["_law_script"] (spLaw K) := by
  obtain ⟨f1, fd1, m1, k1, b1, G1⟩ := CPen
  obtain ⟨f2, fd2, m2, k2, b2, G2⟩ := CD
  obtain ⟨f3, fd3, m3, k3, b3, G3⟩ := CP
  obtain ⟨f4, fd4, m4, k4, b4, G4⟩ := CR
  obtain ⟨f5, fd5, m5, k5, b5, G5⟩ := CE
  obtain ⟨f6, fd6, m6, k6, b6, G6⟩ := CF
  obtain ⟨f7, fd7, m7, k7, b7, G7⟩ := CT
  obtain ⟨f8, fd8, ps8, m8, b8, G8⟩ := CW.put
  obtain ⟨f9, fd9, ps9, m9, b9, G9⟩ := CW.letter
  obtain ⟨fa, fda, psa, ma, ba, Ga⟩ := CW.take
  obtain ⟨fb, fdb, psb, ib, nb, bb, Gb⟩ := CW.len
  obtain ⟨fc, fdc, psc, mc, bc, Gc⟩ := CW.new
  refine fun_okG F scLaw (fun vs H Q E h => ?_) (fun cdv A outer s H vs Q E hg hr h => ?_)
  · obtain ⟨a, ns, rfl, _⟩ := h
    rfl
  · obtain ⟨a, ns, rfl, hS, h63, k⟩ := h
    have hu := hu_of hr
    have nd := scLaw.nd
    have r1 : Room 1 _ := hr.mono (by decide)
    have r2 : Room 2 _ := hr.mono (by decide)
    have r4 : Room 4 _ := hr.mono (by decide)
    have r9 : Room 9 _ := hr.mono (by decide)
    have r10 : Room 10 _ := hr.mono (by decide)
    refine ⟨_, pss_cons (ps_set (i := 1) nd rfl (.inl rfl) (pe_call G1 r1 (by rfl) m1 k1 b1 .nil pass0 (pa_cons (pv 0) pa_nil)))
      (C8.pss_cut (ps_for PassesOwn.never rfl (pi_range1 rfl T.range (pa_cons pe_int pa_nil)) (pg_name (i := 2) nd rfl (Or.inl rfl))
        (C8.pss_cut (ps_par3 (i := 3) (j := 4) (l := 5) rfl nd rfl rfl rfl (by decide) (by decide) (by decide) rfl rfl rfl
            (pa_cons (pe_lst (pa_cons (pe_make0 mc Gc r10 rfl CW.glob bc .nil pass0) (pa_cons (pe_make0 mc Gc r10 rfl CW.glob bc .nil pass0) pa_nil)))
              (pa_cons (pe_lst (pa_cons (pe_call0 G5 r1 (by rfl) m5 k5 b5 .nil pass0) (pa_cons (pe_call0 G5 r1 (by rfl) m5 k5 b5 .nil pass0) pa_nil)))
              (pa_cons (pe_lst (pa_cons (pe_lst pa_nil) (pa_cons (pe_lst pa_nil) pa_nil))) pa_nil))) rfl)
        (pss_one (ps_for PassesOwn.never rfl (pi_range1 rfl T.range (pa_cons (pe_op op_add pe_int (pe_call G2 r1 (by rfl) m2 k2 b2 .nil pass0 (pa_cons (pv 1) (pa_cons pe_int pa_nil)))) pa_nil)) (pg_name (i := 6) nd rfl (Or.inl rfl))
          (pss_cons (ps_par (i := 7) (j := 8) rfl nd rfl rfl (by decide) rfl rfl (pa_cons (pe_call G2 r1 (by rfl) m2 k2 b2 .nil pass0 (pa_cons (pv 1) (pa_cons pe_int pa_nil))) (pa_cons (pe_call G2 r1 (by rfl) m2 k2 b2 .nil pass0 (pa_cons (pv 1) (pa_cons pe_int pa_nil))) pa_nil)) (by rfl))
          (C8.pss_cut (ps_if (pt_cmpR op_lt (pv 7) pe_int (nomark _))
              (pss_cons (ps_set (i := 9) nd rfl (.inl rfl) (pe_call G4 r4 (by rfl) m4 k4 b4 .nil pass0 (pa_cons (pv 1) pa_nil)))
              (pss_cons (ps_expr (pe_bm PySem.F.plainAttrs_list PySem.F.slot_list_append PySem.F.type_list_append mt_append (pe_dget hu (pe_ix ix_list (pv 4) (pv 8) (fun _ _ => rfl)) pe_str (fun _ _ => rfl)) (pa_cons (pv 9) pa_nil)))
              (pss_one (ps_if (pt_cmpR op_ne (pe_meth (pe_ix ix_list (pv 3) (pv 8) (fun _ _ => rfl)) CW.cls m8 G8 r9 b8 .nil pass0 (pa_cons (pv 9) pa_nil))
                  (pe_op op_sub (pe_callB call_len_seq (by rfl) T.len PySem.boot_len (pa_cons (pe_dget hu (pe_ix ix_list (pv 4) (pv 8) (fun _ _ => rfl)) pe_str (fun _ _ => rfl)) pa_nil)) pe_int) (nomark _)) (pss_one (ps_ret pe_bl)) pss_nil))))
              (pss_one (ps_if (PW.pt (pw_or (pt_cmpR op_eq (pv 7) pe_int (nomark _)) (pw_or1 (pt_cmpR (op_eqD hr.units) (pe_ix ix_list (pv 5) (pe_op op_sub pe_int (pv 8)) (fun _ _ => rfl)) (pe_lst pa_nil) (nomark _)))))
                (pss_one (ps_expr (pe_bm PySem.F.plainAttrs_list PySem.F.slot_list_append PySem.F.type_list_append mt_append (pe_ix ix_list (pv 5) (pv 8) (fun _ _ => rfl)) (pa_cons (pe_meth0 (pe_ix ix_list (pv 3) (pv 8) (fun _ _ => rfl)) CW.cls m9 G9 r9 b9 .nil pass0) pa_nil))))
                (pss_cons (ps_set (i := 10) nd rfl (.inl rfl) (pe_call G3 r2 (by rfl) m3 k3 b3 .nil pass0 (pa_cons (pv 1) (pa_cons (pe_ix ix_list (pv 5) (pe_op op_sub pe_int (pv 8)) (fun _ _ => rfl)) pa_nil))))
                (pss_cons (ps_par (i := 11) (j := 12) rfl nd rfl rfl (by decide) rfl rfl (pa_cons (pe_call G6 r1 (by rfl) m6 k6 b6 .nil pass0 (pa_cons (pe_ix ix_list (pv 4) (pv 8) (fun _ _ => rfl)) (pa_cons (pv 10) pa_nil)))
                    (pa_cons (pe_meth (pe_ix ix_list (pv 3) (pv 8) (fun _ _ => rfl)) CW.cls ma Ga r9 ba .nil pass0 (pa_cons (pv 10) pa_nil)) pa_nil)) (by rfl))
                (pss_cons (ps_if (PW.pt (pw_or (pt_not (pt_val (pe_callB call_isi (by rfl) T.isinstance (by decide +kernel) (pa_cons (pv 12) (pa_cons (pe_bltn (v := V.ty "list") (by rfl) T.list (by decide +kernel) rfl) pa_nil)))))
                    (pw_or1 (pt_cmpR op_ne (pe_callB (call_repr hg hr.units) (by rfl) T.repr (by decide +kernel) (pa_cons (pv 12) pa_nil)) (pe_callB (call_repr hg hr.units) (by rfl) T.repr (by decide +kernel) (pa_cons (pv 11) pa_nil)) (nomark _))))) (pss_one (ps_ret pe_bl)) pss_nil)
                (pss_one (ps_expr (pe_bm PySem.F.plainAttrs_list PySem.F.slot_list_append PySem.F.type_list_append mt_append (pv 12) (pa_cons pe_non pa_nil))))))))))
          (pss_one (ps_if (PW.pt (pw_or (pt_not (pt_val (pe_callG G7 hg hr (by rfl) m7 k7 b7 .nil pass0 (pa_cons (pe_ix ix_list (pv 3) pe_int (fun _ _ => rfl)) (pa_cons (pe_ix ix_list (pv 4) pe_int (fun _ _ => rfl)) pa_nil)))))
              (pw_or1 (pt_not (pt_val (pe_callG G7 hg hr (by rfl) m7 k7 b7 .nil pass0 (pa_cons (pe_ix ix_list (pv 3) pe_int (fun _ _ => rfl)) (pa_cons (pe_ix ix_list (pv 4) pe_int (fun _ _ => rfl)) pa_nil)))))))) (pss_one (ps_ret pe_bl)) pss_nil))))))))
      (pss_one (ps_ret (pe_and (pe_cmpR op_eq (pe_callB (call_lenO (C := W.C) Gb r10 bb ib nb) (by rfl) T.len PySem.boot_len (pa_cons (pe_make0 mc Gc r10 rfl CW.glob bc .nil pass0) pa_nil)) pe_int (nomark _))
        (pe_one (pe_cmpR (op_eqD hr.units) (pe_meth0 (pe_make0 mc Gc r10 rfl CW.glob bc .nil pass0) CW.cls m9 G9 r9 b9 .nil pass0) (pe_tup (pa_cons pe_str (pa_cons pe_int (pa_cons (pe_tup pa_nil) (pa_cons pe_int pa_nil))))) (nomark _))))))), ?_⟩
    refine ⟨_, rfl, a, ns, rfl, hS, h63, fun p c H1 hp hc hP s1 => ?_⟩
    refine ⟨fun _ _ => True, ?_, ?_⟩
    · refine ⟨3, rfl, by decide, by decide, for_range (lo := 0) (n := 3) (fun i σ' H' => (∃ v2 v3 v4 v5 v6 v7 v8 v9 va vb vc : Option V, σ' = [some (.ref a), some (.ref p), v2, v3, v4, v5, v6, v7, v8, v9, va, vb, vc]) ∧ Pen H' p c ns (10000 * i)) ?_ ?_ fun _ _ _ => trivial⟩
      · exact ⟨⟨_, _, _, _, _, _, _, _, _, _, _, rfl⟩, hP⟩
      · rintro i σ' H0 hi ⟨⟨v2, v3, v4, v5, v6, v7, v8, v9, va, vb, vc, rfl⟩, hP0⟩
        refine ⟨fun σ' H' => ∃ (Wl El Nl : Addr) (x y : Sd) (v2 v6 v7 v8 v9 va vb vc : Option V), σ' = [some (.ref a), some (.ref p), v2, some (.ref Wl), some (.ref El), some (.ref Nl), v6, v7, v8, v9, va, vb, vc] ∧ Lists H' Wl El Nl x y ∧ Core W H' p c ns (10000 * i) [Wl, El, Nl] x y 0, ?_, ?_⟩
        · -- two wires, two ends, two lists of letters
          have T0 : Trk H0 [c, p] := by
            obtain ⟨_, _, _, _, _, z1, z2, _⟩ := id hP0
            have npc : p ≠ c := ne_of z1 z2 (by intro z; cases z)
            refine ⟨?_, ?_⟩
            · simp only [List.nodup_cons, List.mem_cons, List.not_mem_nil, or_false, not_false_eq_true, List.nodup_nil, and_true]
              exact npc.symm
            · intro b m
              simp only [List.mem_cons, List.not_mem_nil, or_false] at m
              rcases m with rfl | rfl
              · exact ⟨_, z2⟩
              · exact ⟨_, z1⟩
          have mk : ∀ {H : Hp} {w dx : Addr}, H w = none → H dx = none → Same H (upd (upd H dx (.own w)) w (.ins W.C dx [])) := fun {H w dx} h1 h2 b o z => by
            rw [upd_ne (ne_of_none z h1), upd_ne (ne_of_none z h2)]
            exact z
          refine fun w1 d1 hw1 hd1 nd1 => ⟨H0, w1, d1, rfl, mk hw1 hd1, hw1, upd_same, fun fp1 H1 W1 n1 s1 => ⟨rfl, ?_⟩⟩
          refine fun w2 d2 hw2 hd2 nd2 => ⟨H1, w2, d2, rfl, mk hw2 hd2, hw2, upd_same, fun fp2 H2 W2 n2 s2 => ⟨rfl, (by show 2 ≤ sizeLine; decide), fun Wl hWl => ?_⟩⟩
          refine ⟨rfl, fun e1 q1 H4 he1 hq1 ne1 hE1 hQ1 s4 => ⟨rfl, fun e2 q2 H5 he2 hq2 ne2 hE2 hQ2 s5 => ⟨(by show 2 ≤ sizeLine; decide), fun El hEl => ?_⟩⟩⟩
          refine ⟨Nat.zero_le _, fun m1 hm1 => ⟨Nat.zero_le _, fun m2 hm2 => ⟨(by show 2 ≤ sizeLine; decide), fun Nl hNl => ?_⟩⟩⟩
          have s3 := same_new (Same.refl H2) hWl (o := .lst [V.ref w1, V.ref w2])
          have s6 := same_new (Same.refl H5) hEl (o := .lst [V.ref e1, V.ref e2])
          have s7 := same_new (Same.refl _) hm1 (o := .lst [])
          have s8 := same_new (Same.refl _) hm2 (o := .lst [])
          have s9 := same_new (Same.refl _) hNl (o := .lst [V.ref m1, V.ref m2])
          have a3 : upd H2 Wl (.lst [V.ref w1, V.ref w2]) Wl = some (.lst [V.ref w1, V.ref w2]) := upd_same
          have a6 : upd H5 El (.lst [V.ref e1, V.ref e2]) El = some (.lst [V.ref e1, V.ref e2]) := upd_same
          have a7 : upd (upd H5 El (.lst [V.ref e1, V.ref e2])) m1 (.lst []) m1 = some (.lst []) := upd_same
          have a8 : upd (upd (upd H5 El (.lst [V.ref e1, V.ref e2])) m1 (.lst [])) m2 (.lst []) m2 = some (.lst []) := upd_same
          have a9 : upd (upd (upd (upd H5 El (.lst [V.ref e1, V.ref e2])) m1 (.lst [])) m2 (.lst [])) Nl (.lst [V.ref m1, V.ref m2]) Nl = some (.lst [V.ref m1, V.ref m2]) := upd_same
          generalize upd H2 Wl (.lst [V.ref w1, V.ref w2]) = H3 at *
          generalize upd H5 El (.lst [V.ref e1, V.ref e2]) = H6 at *
          generalize upd H6 m1 (.lst []) = H7 at *
          generalize upd H7 m2 (.lst []) = H8 at *
          generalize upd H8 Nl (.lst [V.ref m1, V.ref m2]) = H9 at *
          have T9 := ((((((((T0.same s1).same s2).add hWl s3 a3).two he1 hq1 ne1 s4 hE1 hQ1).two he2 hq2 ne2 s5 hE2 hQ2).add hEl s6 a6).add hm1 s7 a7).add hm2 s8 a8).add hNl s9 a9
          have th : ∀ {H : Hp} {fp : List Addr} {w : Addr} {rows : List PyData} {put tk : Nat}, W.At H fp w rows put tk → ∀ b ∈ fp, ∃ u, H b = some u := fun h b m => by
            obtain ⟨u, hu, _⟩ := W.there h b m
            exact ⟨u, hu⟩
          have D1 : Dj H1 fp1 [c, p] := ⟨th W1, fun b m z => T0.not (n1 b m) z⟩
          have D2 : Dj H2 fp2 [c, p] := ⟨th W2, fun b m z => (T0.same s1).not (n2 b m) z⟩
          have D19 := (((((((D1.same s2).add hWl s3).two he1 hq1 s4).two he2 hq2 s5).add hEl s6).add hm1 s7).add hm2 s8).add hNl s9
          have D29 := ((((((D2.add hWl s3).two he1 hq1 s4).two he2 hq2 s5).add hEl s6).add hm1 s7).add hm2 s8).add hNl s9
          have s59 := ((s6.trans s7).trans s8).trans s9
          have s49 := s5.trans s59
          have s29 := (s3.trans s4).trans s49
          refine ⟨_, _, _, rfl, Wl, El, Nl, ⟨w1, e1, q1, m1, fp1, [], 0, 0⟩, ⟨w2, e2, q2, m2, fp2, [], 0, 0⟩, _, _, _, _, _, _, _, _, rfl, ⟨(s4.trans s49) _ _ a3, ((s7.trans s8).trans s9) _ _ a6, a9⟩, ?_⟩
          refine core_start (hP0.but (sameBut (((s1.trans s2).trans s29)) fun _ => False) (fun z => z) (fun z => z)) T9 D19 D29 (fun b z1 z2 => ?_) (sd_start (s49 _ _ hE1) (s49 _ _ hQ1) (WK.same W1 (s2.trans s29)) ((s8.trans s9) _ _ a7)) (sd_start (s59 _ _ hE2) (s59 _ _ hQ2) (WK.same W2 s29) (s9 _ _ a8))
          obtain ⟨u, hu⟩ := th W1 b z1
          rw [n2 b z2] at hu
          cases hu
        · rintro σ1 H1 ⟨Wl, El, Nl, x0, y0, v2, v6, v7, v8, v9, va, vb, vc, rfl, hLs0, hC0⟩
          refine ⟨_, rfl, p, c, ns, 10000 * i, 33, rfl, hC0.pen, by omega, by decide, by decide, fun r H2 r0 r1 hP2 b2 => ⟨_, _, rfl, rfl, _, rfl, by omega, by omega, ?_⟩⟩
          refine for_range (lo := 0) (n := (8 + r).toNat) (fun j σ' H' => ∃ (x y : Sd) (v2 v6 v7 v8 v9 va vb vc : Option V), σ' = [some (.ref a), some (.ref p), v2, some (.ref Wl), some (.ref El), some (.ref Nl), v6, v7, v8, v9, va, vb, vc] ∧ Lists H' Wl El Nl x y ∧ Core W H' p c ns (10000 * i + 1 + 30 * j) [Wl, El, Nl] x y j) ?_ ?_ ?_
          · exact ⟨x0, y0, _, _, _, _, _, _, _, _, rfl, hLs0.but b2 hC0.lp, hC0.draw b2 hP2⟩
          · rintro j σ' H0 hj ⟨x, y, v2, v6, v7, v8, v9, va, vb, vc, rfl, hLs, hC⟩
            refine ⟨_, rfl, p, c, ns, 10000 * i + 1 + 30 * j, 5, rfl, hC.pen, by omega, by decide, by decide, fun lot H1 l0 l1 hP1 b1 => ?_⟩
            refine ⟨_, rfl, p, c, ns, 10000 * i + 1 + 30 * j + 1, 2, rfl, hP1, by omega, by decide, by decide, fun at' H2 t0 t1 hP2 b2 => ⟨_, _, rfl, ?_⟩⟩
            have hC2 := (hC.draw b1 hP1).draw b2 hP2
            have hLs2 := (hLs.but b1 hC.lp).but b2 hC.lp
            obtain ⟨me, ot, hCm, hw, he, hn, hn', fin⟩ : ∃ me ot : Sd, Core W H2 p c ns (10000 * i + 1 + 30 * j + 1 + 1) [Wl, El, Nl] me ot j ∧ atI [V.ref x.w, V.ref y.w] at' = some (V.ref me.w) ∧ atI [V.ref x.e, V.ref y.e] at' = some (V.ref me.e) ∧ atI [V.ref x.m, V.ref y.m] at' = some (V.ref me.m) ∧
                atI [V.ref x.m, V.ref y.m] (1 - at') = some (V.ref ot.m) ∧ ∀ (me' : Sd) (H' : Hp) (N : Nat), me'.w = me.w → me'.e = me.e → me'.m = me.m → Core W H' p c ns N [Wl, El, Nl] me' ot (j + 1) → Lists H' Wl El Nl x y → ∃ x' y', Lists H' Wl El Nl x' y' ∧ Core W H' p c ns N [Wl, El, Nl] x' y' (j + 1) := by
              have h01 : at' = 0 ∨ at' = 1 := by omega
              rcases h01 with rfl | rfl
              · refine ⟨x, y, hC2, rfl, rfl, rfl, rfl, fun me' H' N e1 e2 e3 hc hl => ⟨me', y, ?_, hc⟩⟩
                unfold Lists at hl ⊢
                rw [e1, e2, e3]
                exact hl
              · refine ⟨y, x, hC2.symm, rfl, rfl, rfl, rfl, fun me' H' N e1 e2 e3 hc hl => ⟨x, me', ?_, hc.symm⟩⟩
                unfold Lists at hl ⊢
                rw [e1, e2, e3]
                exact hl
            refine ⟨fun σ' H' => ∃ (x y : Sd) (v2 v6 v7 v8 v9 va vb vc : Option V), σ' = [some (.ref a), some (.ref p), v2, some (.ref Wl), some (.ref El), some (.ref Nl), v6, v7, v8, v9, va, vb, vc] ∧ Lists H' Wl El Nl x y ∧ Core W H' p c ns (10000 * i + 1 + 30 * j + 25) [Wl, El, Nl] x y (j + 1), ?_, ?_⟩
            · refine ⟨_, rfl, _, _, rfl, rfl, _, rfl, ite2 (fun _ => ?_) (fun _ => ?_)⟩
              · -- a row put
                refine ⟨_, rfl, p, c, ns, 10000 * i + 1 + 30 * j + 1 + 1, rfl, hCm.pen, by omega, fun t xs ds H3 ht hT hD hlen hpl hP3 b3 => ?_⟩
                have hC3 := hCm.draw b3 hP3
                have hLs3 := hLs2.but b3 hCm.lp
                obtain ⟨g1, ⟨qs, hq, hqd⟩, g4, g5, g6⟩ := hC3.ox.hE
                have glen := hC3.ox.len
                refine ⟨_, rfl, _, rfl, El, _, _, _, rfl, rfl, SqL.of hLs3.2.1, he, me.e, _, rfl, end_gp g1, .inl ⟨rfl, _, SqL.of hq⟩, _, rfl, me.q, _, _, rfl, rfl, hq, small1000 (by rw [hqd.length]; exact g5), ?_⟩
                have b4 : But (· = me.q) H3 (upd H3 me.q (.lst (qs ++ [V.ref t]))) := (But.refl _ _).mut rfl
                have t4 : Tups H3 (upd H3 me.q (.lst (qs ++ [V.ref t]))) := (Tups.refl _).mut hq (by intro _ z; cases z)
                have hLs4 := hLs3.but b4 (hC3.listM fun b m => .inl (by rw [show b = me.q from m]; simp [Sd.own]))
                have hW4 := WK.but hC3.ox.hW b4 (fun b m z => (hC3.fx b m).2.1 (by rw [show b = me.q from z]; simp [Sd.own])) t4
                obtain ⟨dx, fs, hins, hno⟩ := W.ins hW4
                have hdt : Dt H3 (.ref t) (.tuple ds) := .tup hT hD
                have hrow : RowD (.tuple ds) := ⟨ds, rfl, by omega, hpl⟩
                refine ⟨_, rfl, _, rfl, Wl, _, _, _, rfl, rfl, SqL.of hLs4.1, hw, me.w, dx, fs, rfl, hins, hno _ (by simp), _, rfl, me.w, t, .tuple ds, me.fp, _, _, _, rfl, hW4, hdt.mono t4, hrow, g5, fun fp' H5 hW5 hf5 b5 => ?_⟩
                obtain ⟨hC5, bb, hq5⟩ := hC3.put (by omega) hq hqd hdt hrow hW5 hf5 b5
                have hLs5 := hLs3.but bb (hC3.listM fun b m => by
                  rcases m with m | m
                  · exact .inl (by rw [m]; simp [Sd.own])
                  · exact .inr m)
                have he5 := hC5.ox.hE.1
                refine ⟨_, rfl, _, rfl, El, _, _, _, rfl, rfl, SqL.of hLs5.2.1, he, me.e, _, rfl, end_gp he5, me.q, _, rfl, .inl (SqL.of hq5), _, _, rfl, rfl, rfl, _, rfl, iteNS ?_ ?_⟩
                · have el := hqd.length
                  rw [List.length_append, List.length_singleton, el]
                  congr 1
                  omega
                · obtain ⟨x', y', l', c'⟩ := fin { me with fp := fp', rows := me.rows ++ [.tuple ds] } _ _ rfl rfl rfl hC5 hLs5
                  exact ⟨x', y', _, _, _, _, _, _, _, _, rfl, l', c'.grow (by omega)⟩
              · -- the letters of the other one
                obtain ⟨oms, ods, hom, homd, hgood, homl⟩ := hCm.oy.hM
                obtain ⟨ms, mds, hmm, hmmd, _, hmml⟩ := hCm.ox.hM
                have hwo : ∀ {H' : Hp}, Same H2 H' → Lists H' Wl El Nl x y := fun s => hLs2.but (sameBut s fun _ => False) (fun _ _ z => z)
                have kno : me.rows.length - (me.rows.drop me.kn).length = me.kn := by
                  have := hCm.ox.hE.2.2.1
                  rw [List.length_drop]
                  omega
                have r1000 := hCm.ox.hE.2.2.2.1
                have hj50 : j < 1000 := by omega
                refine ⟨_, rfl, rfl, _, rfl, ite2 (fun _ => ?_) (fun _ => ?_)⟩
                · -- a letter noted
                  have hW2 := hCm.ox.hW
                  obtain ⟨dx, fs, hins, hno⟩ := W.ins hW2
                  refine ⟨_, rfl, _, rfl, Nl, _, _, _, rfl, rfl, SqL.of hLs2.2.2, hn, .inl ⟨rfl, _, SqL.of hmm⟩, _, rfl, _, rfl, Wl, _, _, _, rfl, rfl, SqL.of hLs2.1, hw, me.w, dx, fs, rfl, hins, hno _ (by simp), me.w, me.fp, _, _, _, rfl, hW2, r1000, fun t H3 ht hd s3 => ?_⟩
                  rw [kno] at hd
                  refine ⟨me.m, _, _, rfl, rfl, s3 _ _ hmm, small1000 (by rw [hmmd.length]; omega), ?_⟩
                  obtain ⟨hC4, bb⟩ := hCm.note s3 (s3 _ _ hmm) hd
                  obtain ⟨x', y', l', c'⟩ := fin me _ _ rfl rfl rfl hC4 ((hwo s3).but bb (hCm.listM fun b m => .inl (by rw [show b = me.m from m]; simp [Sd.own])))
                  exact ⟨x', y', _, _, _, _, _, _, _, _, rfl, l', c'.grow (by omega)⟩
                · refine ⟨_, rfl, _, rfl, _, _, rfl, rfl, Nl, _, _, _, rfl, rfl, SqL.of hLs2.2.2, hn', Nat.zero_le _, fun l0 hl0 => ?_⟩
                  have s3 := same_new (Same.refl H2) hl0 (o := .lst [])
                  have a3 : upd H2 l0 (.lst []) l0 = some (.lst []) := upd_same
                  generalize upd H2 l0 (.lst []) = H3 at s3 a3 ⊢
                  have hC3 := hCm.same s3
                  have hLs3 := hwo s3
                  have layo : SeqAt.shaped (.list ods) = true := by
                    have all : ∀ l : List PyData, (∀ d ∈ l, GoodLet ot d) → PyData.canLayAll0 l = true ∧ PyData.depthAll l ≤ 20 := by
                      intro l
                      induction l with
                      | nil => exact fun _ => ⟨rfl, Nat.zero_le _⟩
                      | cons b r ih =>
                        intro h
                        obtain ⟨q1, q2⟩ := ih fun e he => h e (List.mem_cons_of_mem _ he)
                        obtain ⟨q3, q4⟩ := good_lay (h b (List.mem_cons_self ..))
                        refine ⟨?_, ?_⟩
                        · simp only [PyData.canLayAll0, q3, q1, Bool.and_self]
                        · simp only [PyData.depthAll]; omega
                    obtain ⟨q1, q2⟩ := all ods hgood
                    unfold SeqAt.shaped
                    simp only [PyData.canLay0, PyData.depth, q1, Bool.true_and]
                    exact decide_eq_true (by omega)
                  refine ⟨_, _, .lst (SqL.of (s3 _ _ hom)) (homd.mono (sameTups s3)).dp, .lst (SqL.of a3) .nil, layo, by decide +kernel, _, rfl, ?_⟩
                  cases ods with
                  | nil =>
                    refine iteT ?_
                    have hW2 := hC3.ox.hW
                    obtain ⟨dx, fs, hins, hno⟩ := W.ins hW2
                    refine ⟨_, rfl, _, rfl, Nl, _, _, _, rfl, rfl, SqL.of hLs3.2.2, hn, .inl ⟨rfl, _, SqL.of (s3 _ _ hmm)⟩, _, rfl, _, rfl, Wl, _, _, _, rfl, rfl, SqL.of hLs3.1, hw, me.w, dx, fs, rfl, hins, hno _ (by simp), me.w, me.fp, _, _, _, rfl, hW2, r1000, fun t H4 ht hd s4 => ?_⟩
                    rw [kno] at hd
                    refine ⟨me.m, _, _, rfl, rfl, s4 _ _ (s3 _ _ hmm), small1000 (by rw [hmmd.length]; omega), ?_⟩
                    obtain ⟨hC4, bb⟩ := hC3.note s4 (s4 _ _ (s3 _ _ hmm)) hd
                    obtain ⟨x', y', l', c'⟩ := fin me _ _ rfl rfl rfl hC4 ((hwo (s3.trans s4)).but bb (hCm.listM fun b m => .inl (by rw [show b = me.m from m]; simp [Sd.own])))
                    exact ⟨x', y', _, _, _, _, _, _, _, _, rfl, l', c'.grow (by omega)⟩
                  | cons od1 odr =>
                    refine iteF ?_
                    have olen := homd.length
                    refine ⟨_, rfl, _, rfl, _, rfl, _, _, rfl, rfl, Nl, _, _, _, rfl, rfl, SqL.of hLs3.2.2, hn', p, c, ns, 10000 * i + 1 + 30 * j + 1 + 1, .ref ot.m, oms, rfl, hC3.pen, by omega, ⟨by rw [olen]; exact Nat.le_add_left _ _, by rw [olen]; omega, .inl ⟨ot.m, rfl, .inl (s3 _ _ hom)⟩⟩, fun v H4 hv hP4 b4 => ?_⟩
                    have hC4 := hC3.draw b4 hP4
                    have hLs4 := hLs3.but b4 hC3.lp
                    obtain ⟨d, hdm, hdt⟩ := ((homd.mono (sameTups s3)).mono (hC3.pen.tups b4)).mem v hv
                    have hgl := hgood d hdm
                    obtain ⟨first, heard, new, rfl, l1, l2, l3, l4⟩ := id hgl
                    obtain ⟨t, rfl⟩ := hdt.ref_of
                    have ky := hC4.ky
                    have kx := hC4.kx
                    have tx := hC4.tx
                    have ty := hC4.ty
                    have leo := hC4.oy.len
                    have lem := hC4.ox.len
                    have he4 := hC4.ox.hE.1
                    refine ⟨_, rfl, _, rfl, El, _, _, _, rfl, rfl, SqL.of hLs4.2.1, he, _, rfl, me.e, t, me.q, new, me.kn, me.tk, first, heard, rfl, he4, hdt, by omega, by omega, by omega, fun l xs H5 hl hL hD he5 b5 => ?_⟩
                    have t5 : Tups H4 H5 := b5.tups fun b xs m z => by
                      rw [show b = me.e from m, he4] at z
                      cases z
                    have own : ∀ b ∈ me.own, b ∉ me.fp := fun b m z => (hC4.fx b z).2.1 m
                    have hLs5 := hLs4.but b5 (hC4.listM fun b m => .inl (by rw [show b = me.e from m]; simp [Sd.own]))
                    have hW5 := WK.but hC4.ox.hW b5 (fun b m z => own me.e (by simp [Sd.own]) (by rw [← show b = me.e from z]; exact m)) t5
                    obtain ⟨dx, fs, hins, hno⟩ := W.ins hW5
                    refine ⟨_, rfl, _, rfl, Wl, _, _, _, rfl, rfl, SqL.of hLs5.1, hw, me.w, dx, fs, rfl, hins, hno _ (by simp), _, rfl, me.w, t, me.fp, _, new, me.rows.length, me.tk, first, heard, rfl, hW5, hdt.mono t5, by omega, by omega, l3, by omega, by omega, by omega, fun k2 xs2 fp' H6 hk2 nk2 hK2 hD2 hW6 hf6 b6 => ?_⟩
                    rw [kno] at hW6
                    refine ⟨_, _, rfl, ?_⟩
                    obtain ⟨hC6, b46⟩ := hC4.take hgl he5 b5 hW6 hf6 b6
                    have hLs6 := hLs4.but b46 (hC4.listM fun b m => by
                      rcases m with m | m
                      · exact .inl (by rw [m]; simp [Sd.own])
                      · exact .inr m)
                    have lfp : l ∉ me.fp := fun z => by
                      obtain ⟨u, hu, _⟩ := W.there hC4.ox.hW l z
                      rw [hl] at hu
                      cases hu
                    have hL6 := b6 _ _ lfp hL
                    have t6 : Tups H5 H6 := WK.tups hW5 b6
                    have newR : ∀ d ∈ new.drop (me.tk - first), RowD d := fun d m => l3 d (List.mem_of_mem_drop m)
                    have newL : (new.drop (me.tk - first)).length ≤ 1000 := by rw [List.length_drop]; omega
                    have okR := ((rows_sh newR newL).mono (by decide : 300000 ≤ 1300000) (Nat.le_refl 4)).okL (by decide)
                    refine ⟨_, rfl, .ref k2, .ty "list", .type "list", .type "list", true, rfl, .ty _, .base (.lst hK2), kit_ty (by decide +kernel), true, rfl, iteF ?_⟩
                    refine ⟨_, rfl, _, _, rfl, .lst (SqL.of hK2) hD2.dp, okR, _, rfl, _, _, rfl, .lst (SqL.of hL6) (hD.mono t6).dp, okR, rfl, _, rfl, iteNS rfl ?_⟩
                    refine ⟨_, rfl, .inl ⟨rfl, _, SqL.of hK2⟩, k2, _, _, rfl, rfl, hK2, small1000 (by rw [hD2.length]; exact newL), ?_⟩
                    have k5 : ∀ b u, H5 b = some u → k2 ≠ b := fun b u z q => by
                      rw [← q, hk2] at z
                      cases z
                    have all5 : ∀ b ∈ me.own ++ (ot.own ++ ([p, c] ++ [Wl, El, Nl])), k2 ≠ b := fun b m => by
                      by_cases e : b = me.e
                      · exact k5 b _ (by rw [e]; exact he5)
                      · obtain ⟨u, hu⟩ := hC4.all b m
                        exact k5 b u (b5 b u e hu)
                    obtain ⟨hC7, b67⟩ := hC6.aside hK2 (o := .lst (xs2 ++ [V.non])) (fun z => all5 k2 z rfl) nk2 (fun z => by
                      obtain ⟨u, hu, _⟩ := W.there hC4.oy.hW k2 z
                      have e : ¬ k2 = me.e := fun q => (hC4.fy k2 z).2.2.1 (by rw [q]; simp [Sd.own])
                      exact k5 k2 u (b5 k2 u e hu) rfl)
                    have hLs7 := hLs6.but b67 (fun b m z => all5 b (List.mem_append_right _ (List.mem_append_right _ (List.mem_append_right _ m))) (show b = k2 from z).symm)
                    obtain ⟨x', y', l', c'⟩ := fin { me with fp := fp', kn := max me.kn heard, tk := me.tk + (new.drop (me.tk - first)).length } _ _ rfl rfl rfl hC7 hLs7
                    exact ⟨x', y', _, _, _, _, _, _, _, _, rfl, l', c'.grow (by omega)⟩
            · -- both ends are right
              rintro σ' H' ⟨x, y, v2, v6, v7, v8, v9, va, vb, vc, rfl, hLs, hC⟩
              have hx := hC.tx
              have hy := hC.ty
              have lx := hC.ox.len
              have ly := hC.oy.len
              refine ⟨_, rfl, Wl, _, _, _, rfl, rfl, SqL.of hLs.1, rfl, _, rfl, El, _, _, _, rfl, rfl, SqL.of hLs.2.1, rfl, x.w, x.e, x.q, x.fp, x.rows, x.kn, x.tk, rfl, hC.ox.hW, hC.ox.hE, by omega, fun H1 s1 => ⟨true, rfl, iteF ?_⟩⟩
              have hC1 := hC.same s1
              have hLs1 := hLs.but (sameBut s1 fun _ => False) (fun _ _ z => z)
              refine ⟨_, rfl, Wl, _, _, _, rfl, rfl, SqL.of hLs1.1, rfl, _, rfl, El, _, _, _, rfl, rfl, SqL.of hLs1.2.1, rfl, y.w, y.e, y.q, y.fp, y.rows, y.kn, y.tk, rfl, hC1.oy.hW, hC1.oy.hE, by omega, fun H2 s2 => ⟨true, rfl, iteF ?_⟩⟩
              exact ⟨x, y, _, _, _, _, _, _, _, _, rfl, hLs1.but (sameBut s2 fun _ => False) (fun _ _ z => z), (hC1.same s2).grow (by omega)⟩
          · rintro σ' H' ⟨x, y, v2, v6, v7, v8, v9, va, vb, vc, rfl, _, hc⟩
            exact ⟨⟨_, _, _, _, _, _, _, _, _, _, _, rfl⟩, hc.pen.mono (by omega)⟩
    · -- new wires
      rintro σ' H' _
      have mk : ∀ {H : Hp} {w dx : Addr}, H w = none → H dx = none → Same H (upd (upd H dx (.own w)) w (.ins W.C dx [])) := fun {H w dx} h1 h2 b o z => by
        rw [upd_ne (ne_of_none z h1), upd_ne (ne_of_none z h2)]
        exact z
      refine fun w1 d1 hw1 hd1 nd1 => ⟨H', w1, d1, rfl, mk hw1 hd1, hw1, upd_same, fun fp1 H1 W1 n1 s1 => ⟨rfl, ?_⟩⟩
      obtain ⟨dx1, fs1, hi1, ho1⟩ := W.ins W1
      refine ⟨w1, dx1, fs1, rfl, hi1, w1, fp1, [], 0, 0, rfl, W1, by decide, fun H2 s2 => ⟨_, rfl, by decide, by decide, ?_⟩⟩
      refine ⟨rfl, _, rfl, iteYes rfl ?_⟩
      refine fun w2 d2 hw2 hd2 nd2 => ⟨H2, w2, d2, rfl, mk hw2 hd2, hw2, upd_same, fun fp2 H3 W2 n2 s3 => ⟨rfl, ?_⟩⟩
      obtain ⟨dx2, fs2, hi2, ho2⟩ := W.ins W2
      refine ⟨w2, dx2, fs2, rfl, hi2, ho2 _ (by simp), w2, fp2, [], 0, 0, rfl, W2, by decide, fun t H4 ht hd s4 => ?_⟩
      refine ⟨Nat.zero_le _, fun t1 ht1 => ⟨(by show 4 ≤ sizeLine; decide), fun t2 ht2 => ?_⟩⟩
      have n12 : t1 ≠ t2 := ne_of_none upd_same ht2
      have T1 : Tups H4 (upd (upd H4 t1 (.tup [])) t2 (.tup [.str "rows", .int 0, .ref t1, .int 0])) := ((Tups.refl _).new ht1).new ht2
      refine ⟨_, LetD 0 [] 0, (hd.mono T1).dp, (Dt.tup upd_same (.cons (.str _) (.cons (.int _) (.cons (.tup (by rw [upd_ne n12]; exact upd_same) .nil) (.cons (.int _) .nil))))).dp, by decide +kernel, by decide +kernel, ?_⟩
      have ee : PyData.eqv (LetD (0 - ([] : List PyData).length) [] 0) (LetD 0 [] 0) = true := by decide +kernel
      rw [ee]
      exact k _
end
end K3
namespace K3
open PySem L2 GG
/-! ### farcalls.worths: copied; farcalls.wires: is_number, is_fixed -/
abbrev sNumber : Stmt := top 7
abbrev sFixed : Stmt := top 8
abbrev sCopied : Stmt := top 3
theorem scNu : FnScope ["thing"] ["thing"] (defScope sNumber) := ⟨rfl, rfl, rfl, by decide +kernel, rfl, by decide +kernel, by decide +kernel⟩
theorem scFi : FnScope ["thing", "part"] ["thing"] (defScope sFixed) := ⟨rfl, rfl, rfl, by decide +kernel, rfl, by decide +kernel, by decide +kernel⟩
theorem scCo : FnScope ["thing", "rows", "key", "part", "parts"] ["thing"] (defScope sCopied) := ⟨rfl, rfl, rfl, by decide +kernel, rfl, by decide +kernel, by decide +kernel⟩
def spNumber : Sp := fun vs H Q _ => ∃ i : Int, vs = [.int i] ∧ 0 ≤ i ∧ Q (.bl true) H
/-- the data of a copy are those of what is copied -/
def Few : Nat → PyData → Prop
  | 0, _ => True
  | n + 1, d => ∀ ds, d = .tuple ds → ds.length ≤ 1000 ∧ ∀ e ∈ ds, Few n e
theorem depthAll_mem : ∀ {ds : List PyData} {d : PyData}, d ∈ ds → d.depth ≤ PyData.depthAll ds
  | a :: r, d, h => by
    simp only [PyData.depthAll]
    rcases List.mem_cons.mp h with rfl | h
    · omega
    · have := depthAll_mem h
      omega
def spCopied (n : Nat) : Sp := fun vs H Q _ => ∃ (v : V) (d : PyData), vs = [v] ∧ Dt H v d ∧ d.depth ≤ n ∧ Few n d ∧ ∀ (v' : V) (H' : Hp), Dt H' v' d → Same H H' → Q v' H'
theorem Dt.type {K : PySem.W.Frag} {H : Hp} {v : V} {d : PyData} (h : Dt H v d) : ∃ T : String, TyX K H v (.type T) ∧ ((T = "tuple" ∧ ∃ ds, d = .tuple ds) ∨ (T ∈ ["NoneType", "int", "str"] ∧ ∀ ds, d ≠ .tuple ds)) := by
  cases h with
  | non => exact ⟨"NoneType", .base .non, .inr ⟨by simp, fun _ z => nomatch z⟩⟩
  | int i => exact ⟨"int", .base (.int i), .inr ⟨by simp, fun _ z => nomatch z⟩⟩
  | str z => exact ⟨"str", .base (.str z), .inr ⟨by simp, fun _ z => nomatch z⟩⟩
  | tup e a => exact ⟨"tuple", .base (.tup e), .inl ⟨rfl, _, rfl⟩⟩
section
variable {P : Program} {w : World} {K : PySem.W.Frag} {mg : Str → Option Value} {base : Heap}
theorem ok_number {f : Addr} {fd : FuncData} (F : Fun K "is_number" "is_number" sNumber f fd) (T : Txt mg) (zb : mg "bool" = none) : FnOk P w K mg base CX0 1 f fd ["thing"] spNumber := by
  refine F.ok scNu (fun vs H Q E h => ?_) (fun cdv A outer s H vs Q E hr h => ?_)
  · obtain ⟨i, rfl, _⟩ := h
    rfl
  · obtain ⟨i, rfl, h1, k⟩ := h
    refine ⟨_, pss_one (ps_ret (pe_and (pe_callB call_isi (by rfl) T.isinstance (by decide +kernel) (pa_cons (pv 0) (pa_cons (pe_bltn (v := V.ty "int") (by rfl) T.int (by decide +kernel) rfl) pa_nil)))
      (pe_and (pe_not (pe_callB call_isi (by rfl) T.isinstance (by decide +kernel) (pa_cons (pv 0) (pa_cons (pe_bltn (v := V.ty "bool") (by rfl) zb (by decide +kernel) rfl) pa_nil))))
      (pe_one (pe_cmpR op_ge (pv 0) pe_int (nomark _)))))), ?_⟩
    refine ⟨_, rfl, .int i, .ty "int", .type "int", .type "int", true, rfl, .ty _, .base (.int i), kit_ty (by decide +kernel), true, rfl, iteT ?_⟩
    refine ⟨_, rfl, .int i, .ty "bool", .type "int", .type "bool", false, rfl, .ty _, .base (.int i), kit_ty (by decide +kernel), false, rfl, true, rfl, iteT ?_⟩
    refine ⟨_, rfl, _, _, rfl, rfl, ?_⟩
    show Q (V.bl (decide (i ≥ 0))) H
    rw [decide_eq_true h1]
    exact k
def spBelow : Nat → Sp
  | 0 => fun _ _ _ _ => False
  | n + 1 => spCopied n
theorem kit_any {t a b : Value} {x y : Bool} (h1 : PySem.W.kitOne K t a = some x) (h2 : PySem.W.kitOne K t b = some y) : PySem.W.kitAny K t [a, b] = some (x || y) := by
  cases x <;> cases y <;> simp [PySem.W.kitAny, h1, h2]
theorem ok_copied {f : Addr} {fd : FuncData} (F : Fun K "copied" "copied" sCopied f fd) (T : Txt mg) (m : mg "copied" = some (.ref f)) (b : Binds K fd ["thing"] []) : ∀ n : Nat, FnOk P w K mg base CX0 (n + 1) f fd ["thing"] (spCopied n) := by
  have main : ∀ n : Nat, FnOk P w K mg base CX0 n f fd ["thing"] (spBelow n) → FnOk P w K mg base CX0 (n + 1) f fd ["thing"] (spCopied n) := by
    intro n G
    refine F.ok scCo (fun vs H Q E h => ?_) (fun cdv A outer s H vs Q E hr h => ?_)
    · obtain ⟨v, d, rfl, _⟩ := h
      rfl
    · obtain ⟨v, d, rfl, hd, hn, hfew, k⟩ := h
      refine ⟨_, pss_cons (ps_if (pt_val (pe_callB call_isi (by rfl) T.isinstance (by decide +kernel) (pa_cons (pv 0) (pa_cons (pe_bltn (v := V.ty "dict") (by rfl) T.dict (by decide +kernel) rfl) pa_nil)))) (pss_cons ps_never (pss_cons ps_never (pss_one ps_never))) pss_nil)
        (pss_cons (ps_if (pt_not (pt_val (pe_callB call_isiT (by rfl) T.isinstance (by decide +kernel) (pa_cons (pv 0) (pa_cons (pe_tup (pa_cons (pe_bltn (v := V.ty "list") (by rfl) T.list (by decide +kernel) rfl) (pa_cons (pe_bltn (v := V.ty "tuple") (by rfl) T.tuple (by decide +kernel) rfl) pa_nil))) pa_nil))))) (pss_one (ps_ret (pv 0))) pss_nil)
        (pss_cons (ps_set (i := 4) scCo.nd rfl (.inl rfl) (pe_lst pa_nil))
        (pss_cons (ps_for PassesOwn.never rfl (pi_tup (pv 0)) (pg_name (i := 3) scCo.nd rfl (Or.inl rfl))
          (pss_one (ps_expr (pe_bm PySem.F.plainAttrs_list PySem.F.slot_list_append PySem.F.type_list_append mt_append (pv 4) (pa_cons (pe_call G hr (by rfl) m F.kp b .nil pass0 (pa_cons (pv 3) pa_nil)) pa_nil)))))
        (pss_one (ps_ret (pe_ifExp (pt_val (pe_callB call_isi (by rfl) T.isinstance (by decide +kernel) (pa_cons (pv 0) (pa_cons (pe_bltn (v := V.ty "list") (by rfl) T.list (by decide +kernel) rfl) pa_nil)))) (pv 4)
          (pe_callTy call_tuple_of (by rfl) T.tuple (by decide +kernel) (pa_cons (pv 4) pa_nil)))))))), ?_⟩
      obtain ⟨Ty, hT, hTy⟩ := hd.type (K := K)
      have nodict : PySem.W.kitOne K (.type Ty) (.type "dict") = some false := by
        rcases hTy with ⟨rfl, _⟩ | ⟨h, _⟩
        · exact kit_ty (by decide +kernel)
        · simp only [List.mem_cons, List.not_mem_nil, or_false] at h
          rcases h with rfl | rfl | rfl <;> exact kit_ty (by decide +kernel)
      refine ⟨_, rfl, v, .ty "dict", .type Ty, .type "dict", false, rfl, .ty _, hT, nodict, false, rfl, iteF ?_⟩
      refine ⟨_, rfl, (by show 2 ≤ sizeLine; decide), fun tp htp => ?_⟩
      have s1 : Same H (upd H tp (.tup [.ty "list", .ty "tuple"])) := same_new (Same.refl _) htp
      have a1 : upd H tp (.tup [.ty "list", .ty "tuple"]) tp = some (.tup [.ty "list", .ty "tuple"]) := upd_same
      generalize upd H tp (.tup [.ty "list", .ty "tuple"]) = H1 at s1 a1 ⊢
      have hd1 := hd.mono (sameTups s1)
      obtain ⟨Ty, hT, hTy⟩ := hd1.type (K := K)
      rcases hTy with ⟨rfl, ds, rfl⟩ | ⟨h, hno⟩
      · refine ⟨v, tp, _, .type "tuple", [.type "list", .type "tuple"], true, rfl, a1, .cons (.ty _) (.cons (.ty _) .nil), hT, kit_any (x := false) (y := true) (kit_ty (by decide +kernel)) (kit_ty (by decide +kernel)), true, rfl, iteF ?_⟩
        obtain ⟨a, rfl⟩ := hd1.ref_of
        obtain ⟨xs, hX, hXD⟩ := hd1.tupI
        obtain ⟨m', rfl⟩ : ∃ m', n = m' + 1 := by
          cases n with
          | zero => simp [PyData.depth] at hn
          | succ m' => exact ⟨m', rfl⟩
        obtain ⟨hlen, hfe⟩ := hfew ds rfl
        have hdep : PyData.depthAll ds ≤ m' := by
          simp only [PyData.depth] at hn
          omega
        refine ⟨Nat.zero_le _, fun l hl => ?_⟩
        refine ⟨_, rfl, a, rfl, ⟨xs, SqT.of (by rw [upd_ne (ne_of_none hX hl)]; exact hX)⟩, for_tup (K := K) (a := a) (xs := xs) (fun i σ' H' => ∃ (pw : Option V) (ys : List V), σ' = [some (.ref a), none, none, pw, some (.ref l)] ∧ H' l = some (.lst ys) ∧ DtAll H' ys (ds.take i) ∧ Same H1 H') ?_ ?_ ?_ ?_⟩
        · exact ⟨none, [], rfl, upd_same, .nil, same_new (Same.refl _) hl⟩
        · rintro i σ' H' _ ⟨pw, ys, rfl, hL, hy, s⟩
          exact SqT.of (s _ _ hX)
        · rintro i x σ' H' hi ⟨pw, ys, rfl, hL, hy, s⟩
          obtain ⟨d, hdi, hdx⟩ := hXD.get i x hi
          have hdm := List.mem_of_getElem? hdi
          have hil : i < ds.length := (List.getElem?_eq_some_iff.mp hdi).1
          refine ⟨_, rfl, .inl ⟨rfl, _, SqL.of hL⟩, _, rfl, x, d, rfl, hdx.mono (sameTups s), Nat.le_trans (depthAll_mem hdm) hdep, hfe d hdm, fun v' H2 hv s2 => ?_⟩
          refine ⟨l, _, _, rfl, rfl, s2 _ _ hL, small1000 (by rw [hy.length, List.length_take]; omega), ?_⟩
          have tt : Tups H2 (upd H2 l (.lst (ys ++ [v']))) := (Tups.refl _).mut (s2 _ _ hL) (by intro _ z; cases z)
          refine ⟨_, _, rfl, upd_same, ?_, same_mut (s.trans s2) hl⟩
          rw [List.take_add_one, hdi]
          exact ((hy.mono (sameTups s2)).app (.cons hv .nil)).mono tt
        · rintro σ' H' ⟨pw, ys, rfl, hL, hy, s⟩
          rw [hXD.length, List.take_length] at hy
          refine ⟨_, rfl, .ref a, .ty "list", .type "tuple", .type "list", false, rfl, .ty _, .base (.tup (s _ _ hX)), kit_ty (by decide +kernel), false, rfl, iteF ?_⟩
          refine ⟨_, rfl, l, _, rfl, .inl ⟨SqL.of hL, fun t ht => ?_⟩⟩
          exact k _ _ (.tup upd_same (hy.mono ((Tups.refl _).new ht))) (same_new (s1.trans s) ht)
      · have none2 : PySem.W.kitAny K (.type Ty) [.type "list", .type "tuple"] = some false := by
          simp only [List.mem_cons, List.not_mem_nil, or_false] at h
          rcases h with rfl | rfl | rfl <;> exact kit_any (x := false) (y := false) (kit_ty (by decide +kernel)) (kit_ty (by decide +kernel))
        refine ⟨v, tp, _, .type Ty, [.type "list", .type "tuple"], false, rfl, a1, .cons (.ty _) (.cons (.ty _) .nil), hT, none2, false, rfl, iteT ?_⟩
        exact ⟨_, rfl, k v H1 hd1 s1⟩
  intro n
  induction n with
  | zero => exact main 0 ⟨fun vs H Q E h => h.elim, fun A outer s H args us vs Q E _ _ _ _ h => h.elim⟩
  | succ n ih => exact main (n + 1) ih
def spFixed (n : Nat) : Sp := fun vs H Q _ => ∃ (v : V) (d : PyData), vs = [v] ∧ Dt H v d ∧ d.depth ≤ n ∧ Few n d ∧ ∀ (H' : Hp), Same H H' → Q (.bl true) H'
def spFixBelow : Nat → Sp
  | 0 => fun _ _ _ _ => False
  | n + 1 => spFixed n
theorem ok_fixed {f : Addr} {fd : FuncData} (F : Fun K "is_fixed" "is_fixed" sFixed f fd) (T : Txt mg) (za : mg "all" = none) (m : mg "is_fixed" = some (.ref f)) (b : Binds K fd ["thing"] []) : ∀ n : Nat, FnOk P w K mg base CX0 (n + 1) f fd ["thing"] (spFixed n) := by
  have main : ∀ n : Nat, FnOk P w K mg base CX0 n f fd ["thing"] (spFixBelow n) → FnOk P w K mg base CX0 (n + 1) f fd ["thing"] (spFixed n) := by
    intro n G
    refine F.ok scFi (fun vs H Q E h => ?_) (fun cdv A outer s H vs Q E hr h => ?_)
    · obtain ⟨v, d, rfl, _⟩ := h
      rfl
    · obtain ⟨v, d, rfl, hd, hn, hfew, k⟩ := h
      refine ⟨_, pss_cons (ps_if (pt_val (pe_callB call_isi (by rfl) T.isinstance (by decide +kernel) (pa_cons (pv 0) (pa_cons (pe_bltn (v := V.ty "tuple") (by rfl) T.tuple (by decide +kernel) rfl) pa_nil))))
          (pss_one (ps_ret (pe_callB (cr_all rfl) (by rfl) za (by decide +kernel) (pa_cons (pe_lc (own := [("part", 1)]) (g := gName 1) (tt := tYes) rfl scFi.nd (pi_tup (pv 0))
            (blkOk_by (N := ["thing", "part"]) (sc := defScope sFixed) (by decide +kernel)) (fun _ _ _ _ _ => pg_name (i := 1) scFi.nd rfl (Or.inl rfl)) (fun _ _ _ _ _ => pts_nil)
            (fun _ _ _ _ _ => pe_call G hr (by rfl) m F.kp b .nil pass0 (pa_cons (pv 1) pa_nil))) pa_nil)))) pss_nil)
        (pss_one (ps_ret (pe_not (pe_callB call_isiT (by rfl) T.isinstance (by decide +kernel) (pa_cons (pv 0) (pa_cons (pe_tup (pa_cons (pe_bltn (v := V.ty "list") (by rfl) T.list (by decide +kernel) rfl) (pa_cons (pe_bltn (v := V.ty "dict") (by rfl) T.dict (by decide +kernel) rfl) pa_nil))) pa_nil)))))), ?_⟩
      obtain ⟨Ty, hT, hTy⟩ := hd.type (K := K)
      rcases hTy with ⟨rfl, ds, rfl⟩ | ⟨h, hno⟩
      · refine ⟨_, rfl, v, .ty "tuple", .type "tuple", .type "tuple", true, rfl, .ty _, hT, kit_ty (by decide +kernel), true, rfl, iteT ?_⟩
        obtain ⟨a, rfl⟩ := hd.ref_of
        obtain ⟨xs, hX, hXD⟩ := hd.tupI
        obtain ⟨m', rfl⟩ : ∃ m', n = m' + 1 := by
          cases n with
          | zero => simp [PyData.depth] at hn
          | succ m' => exact ⟨m', rfl⟩
        obtain ⟨hlen, hfe⟩ := hfew ds rfl
        have hdep : PyData.depthAll ds ≤ m' := by
          simp only [PyData.depth] at hn
          omega
        refine ⟨_, rfl, a, rfl, ⟨xs, SqT.of hX⟩, fun D hD => ?_⟩
        refine lc_tup (K := K) (a := a) (xs := xs) (fun i H' => ∃ n : Nat, n = i ∧ H' D = some (.lst ((List.replicate n true).map V.bl)) ∧ Same H H') ?_ ?_ ?_ ?_
        · exact ⟨0, rfl, upd_same, same_new (Same.refl _) hD⟩
        · rintro i H' _ ⟨n, rfl, hDl, s⟩
          exact SqT.of (s _ _ hX)
        · rintro i x H' hi ⟨n, rfl, hDl, s⟩
          obtain ⟨d, hdi, hdx⟩ := hXD.get n x hi
          have hdm := List.mem_of_getElem? hdi
          have hil : n < ds.length := (List.getElem?_eq_some_iff.mp hdi).1
          refine ⟨rfl, _, rfl, x, d, rfl, hdx.mono (sameTups s), Nat.le_trans (depthAll_mem hdm) hdep, hfe d hdm, fun H2 s2 => ⟨_, s2 _ _ hDl, ?_, n + 1, rfl, ?_, same_mut (s.trans s2) hD⟩⟩
          · rw [List.length_map, List.length_replicate]
            exact small1000 (by omega)
          · rw [upd_same, List.replicate_succ', List.map_append]
            rfl
        · rintro H' ⟨n, rfl, hDl, s⟩
          refine ⟨D, _, rfl, SqL.of hDl, ?_⟩
          have e : (List.replicate xs.length true).all id = true := by simp
          rw [e]
          exact k H' s
      · have notup : PySem.W.kitOne K (.type Ty) (.type "tuple") = some false := by
          simp only [List.mem_cons, List.not_mem_nil, or_false] at h
          rcases h with rfl | rfl | rfl <;> exact kit_ty (by decide +kernel)
        have none2 : PySem.W.kitAny K (.type Ty) [.type "list", .type "dict"] = some false := by
          simp only [List.mem_cons, List.not_mem_nil, or_false] at h
          rcases h with rfl | rfl | rfl <;> exact kit_any (x := false) (y := false) (kit_ty (by decide +kernel)) (kit_ty (by decide +kernel))
        refine ⟨_, rfl, v, .ty "tuple", .type Ty, .type "tuple", false, rfl, .ty _, hT, notup, false, rfl, iteF ?_⟩
        refine ⟨_, rfl, (by show 2 ≤ sizeLine; decide), fun tp htp => ?_⟩
        have s1 : Same H (upd H tp (.tup [.ty "list", .ty "dict"])) := same_new (Same.refl _) htp
        have a1 : upd H tp (.tup [.ty "list", .ty "dict"]) tp = some (.tup [.ty "list", .ty "dict"]) := upd_same
        generalize upd H tp (.tup [.ty "list", .ty "dict"]) = H1 at s1 a1 ⊢
        obtain ⟨Ty', hT', hTy'⟩ := (hd.mono (sameTups s1)).type (K := K)
        have none3 : PySem.W.kitAny K (.type Ty') [.type "list", .type "dict"] = some false := by
          rcases hTy' with ⟨rfl, ds, e⟩ | ⟨h', _⟩
          · exact absurd e (hno ds)
          · simp only [List.mem_cons, List.not_mem_nil, or_false] at h'
            rcases h' with rfl | rfl | rfl <;> exact kit_any (x := false) (y := false) (kit_ty (by decide +kernel)) (kit_ty (by decide +kernel))
        refine ⟨v, tp, _, .type Ty', [.type "list", .type "dict"], false, rfl, a1, .cons (.ty _) (.cons (.ty _) .nil), hT', none3, false, rfl, k H1 s1⟩
  intro n
  induction n with
  | zero => exact main 0 ⟨fun vs H Q E h => h.elim, fun A outer s H args us vs Q E _ _ _ _ h => h.elim⟩
  | succ n ih => exact main (n + 1) ih
end
end K3
namespace K3
open PySem L2 GG
/-! ### a wire of rows: its fields -/
abbrev sWInit : Stmt := inClass (top 6) 0
abbrev sWLen : Stmt := inClass (top 6) 1
abbrev sWEq : Stmt := inClass (top 6) 2
abbrev sWPut : Stmt := inClass (top 6) 3
abbrev sWLetter : Stmt := inClass (top 6) 4
abbrev sWTake : Stmt := inClass (top 6) 5
abbrev sWHeard : Stmt := inClass (top 6) 6
abbrev sWUnheard : Stmt := inClass (top 6) 7
abbrev sWCan : Stmt := inClass (top 6) 9
def wf (l : Addr) (k t : Int) : List (Str × V) := [("_rows", .ref l), ("_many", .int k), ("_taken", .int t)]
theorem wf_r (l : Addr) (k t : Int) : (wf l k t).lookup ("_rows" : Str) = some (.ref l) := rfl
theorem wf_k (l : Addr) (k t : Int) : (wf l k t).lookup ("_many" : Str) = some (.int k) := rfl
theorem wf_t (l : Addr) (k t : Int) : (wf l k t).lookup ("_taken" : Str) = some (.int t) := rfl
theorem wf_pr (l m : Addr) (k t : Int) : putF "_rows" (.ref m) (wf l k t) = wf m k t := rfl
theorem wf_pk (l : Addr) (k t j : Int) : putF "_many" (.int j) (wf l k t) = wf l j t := rfl
theorem wf_pt (l : Addr) (k t j : Int) : putF "_taken" (.int j) (wf l k t) = wf l k j := rfl
theorem wf_no (l : Addr) (k t : Int) : ∀ m ∈ ([("put" : Str), "letter", "take", "heard", "unheard", "_can_take"] : List Str), (wf l k t).lookup m = none := by
  intro m h
  simp only [List.mem_cons, List.not_mem_nil, or_false] at h
  rcases h with rfl | rfl | rfl | rfl | rfl | rfl <;> rfl
/-- the rows of a wire, each with the word that it never changes -/
inductive Ent (H : Hp) : List V → List PyData → Prop
  | nil : Ent H [] []
  | cons {p : Addr} {v : V} {vs : List V} {d : PyData} {ds : List PyData} : H p = some (.tup [v, .bl true]) → Dt H v d → Ent H vs ds → Ent H (.ref p :: vs) (d :: ds)
theorem Ent.mono {H H' : Hp} (t : Tups H H') : ∀ {vs : List V} {ds : List PyData}, Ent H vs ds → Ent H' vs ds
  | _, _, .nil => .nil
  | _, _, .cons h a r => .cons (t _ _ h) (a.mono t) (Ent.mono t r)
theorem Ent.length {H : Hp} : ∀ {vs : List V} {ds : List PyData}, Ent H vs ds → vs.length = ds.length
  | _, _, .nil => rfl
  | _, _, .cons _ _ r => by rw [List.length_cons, List.length_cons, Ent.length r]
theorem Ent.app {H : Hp} : ∀ {vs ws : List V} {ds es : List PyData}, Ent H vs ds → Ent H ws es → Ent H (vs ++ ws) (ds ++ es)
  | _, _, _, _, .nil, b => b
  | _, _, _, _, .cons h a r, b => .cons h a (Ent.app r b)
theorem Ent.drop {H : Hp} : ∀ (n : Nat) {vs : List V} {ds : List PyData}, Ent H vs ds → Ent H (vs.drop n) (ds.drop n)
  | 0, _, _, h => h
  | _ + 1, _, _, .nil => .nil
  | n + 1, _, _, .cons _ _ r => Ent.drop n r
theorem Ent.get {H : Hp} : ∀ {vs : List V} {ds : List PyData}, Ent H vs ds → ∀ (i : Nat) (x : V), vs[i]? = some x → ∃ p v d, x = .ref p ∧ ds[i]? = some d ∧ H p = some (.tup [v, .bl true]) ∧ Dt H v d
  | _, _, .nil, i, x, e => by simp at e
  | _, _, .cons h a r, 0, x, e => by
    cases e
    exact ⟨_, _, _, rfl, rfl, h, a⟩
  | _, _, .cons h a r, i + 1, x, e => Ent.get r i x e
def WAtS (C : Addr) (H : Hp) (fp : List Addr) (w : Addr) (rows : List PyData) (put tk : Nat) : Prop :=
  ∃ (dx l : Addr) (xs : List V), fp = [w, l] ∧ H w = some (.ins C dx (wf l put tk)) ∧ H l = some (.lst xs) ∧ Ent H xs rows ∧ (∀ d ∈ rows, RowD d) ∧ rows.length ≤ put
def wk (C : Addr) : WK where
  C := C
  At := WAtS C
  ins := by
    rintro H fp w rows put tk ⟨dx, l, xs, rfl, hw, hl, hx, hr, hp⟩
    exact ⟨dx, _, hw, fun m h => wf_no _ _ _ m (by
      simp only [List.mem_cons, List.not_mem_nil, or_false] at h ⊢
      rcases h with h | h | h | h | h <;> simp [h])⟩
  mem := by
    rintro H fp w rows put tk ⟨dx, l, xs, rfl, _⟩
    exact List.mem_cons_self ..
  there := by
    rintro H fp w rows put tk ⟨dx, l, xs, rfl, hw, hl, hx, hr, hp⟩ a m
    simp only [List.mem_cons, List.not_mem_nil, or_false] at m
    rcases m with rfl | rfl
    · exact ⟨_, hw, fun _ z => nomatch z⟩
    · exact ⟨_, hl, fun _ z => nomatch z⟩
  keep := by
    rintro H H' fp w rows put tk ⟨dx, l, xs, rfl, hw, hl, hx, hr, hp⟩ h t
    exact ⟨dx, l, xs, rfl, by rw [h w (by simp)]; exact hw, by rw [h l (by simp)]; exact hl, hx.mono t, hr, hp⟩
  le := by
    rintro H fp w rows put tk ⟨dx, l, xs, rfl, hw, hl, hx, hr, hp⟩
    exact hp
  rowD := by
    rintro H fp w rows put tk ⟨dx, l, xs, rfl, hw, hl, hx, hr, hp⟩
    exact hr
theorem few_plain {d : PyData} (h : PlainD d) : Few 3 d := by
  have two : ∀ a b : PyData, (∀ ds, a ≠ .tuple ds) → (∀ ds, b ≠ .tuple ds) → Few 3 (.tuple [a, b]) := by
    intro a b ha hb ds e
    cases e
    refine ⟨by simp, fun e he => ?_⟩
    simp only [List.mem_cons, List.not_mem_nil, or_false] at he
    rcases he with rfl | rfl
    · exact fun ds z => absurd z (ha ds)
    · exact fun ds z => absurd z (hb ds)
  rcases h with rfl | ⟨i, _, _, rfl⟩ | ⟨z, _, rfl⟩ | rfl | rfl | rfl
  · exact fun ds z => nomatch z
  · exact fun ds z => nomatch z
  · exact fun ds z => nomatch z
  · exact two _ _ (fun ds z => nomatch z) (fun ds z => nomatch z)
  · exact two _ _ (fun ds z => nomatch z) (fun ds z => nomatch z)
  · intro ds e
    cases e
    exact ⟨by simp, fun e he => absurd he (by simp)⟩
theorem few_row {d : PyData} (h : RowD d) : Few 4 d := by
  obtain ⟨ds, rfl, h4, hp⟩ := h
  intro ds' e
  cases e
  exact ⟨by omega, fun e he => few_plain (hp e he)⟩
structure WTxt (K : PySem.W.Frag) (mg : Str → Option Value) (C : Addr) : Prop where
  cl : Cls K C
  nR : NoAttr K C "_rows"
  nK : NoAttr K C "_many"
  nT : NoAttr K C "_taken"
section
variable {P : Program} {w : World} {K : PySem.W.Frag} {mg : Str → Option Value} {base : Heap} {C : Addr}
theorem scW1 : FnScope ["self"] ["self"] (defScope sWInit) := ⟨rfl, rfl, rfl, by decide +kernel, rfl, by decide +kernel, by decide +kernel⟩
theorem scW2 : FnScope ["self"] ["self"] (defScope sWLen) := ⟨rfl, rfl, rfl, by decide +kernel, rfl, by decide +kernel, by decide +kernel⟩
theorem scW3 : FnScope ["self", "row"] ["self", "row"] (defScope sWPut) := ⟨rfl, rfl, rfl, by decide +kernel, rfl, by decide +kernel, by decide +kernel⟩
theorem scW4 : FnScope ["self"] ["self"] (defScope sWLetter) := ⟨rfl, rfl, rfl, by decide +kernel, rfl, by decide +kernel, by decide +kernel⟩
theorem scW6 : FnScope ["self"] ["self"] (defScope sWHeard) := ⟨rfl, rfl, rfl, by decide +kernel, rfl, by decide +kernel, by decide +kernel⟩
theorem scW7 : FnScope ["self", "row", "fixed"] ["self"] (defScope sWUnheard) := ⟨rfl, rfl, rfl, by decide +kernel, rfl, by decide +kernel, by decide +kernel⟩
theorem ok_winit {f : Addr} {fd : FuncData} (F : Fun K "__init__" "Wire.__init__" sWInit f fd) (T : WTxt K mg C) : FnOk P w K mg base CX0 1 f fd ["self"] (spWInit (wk C)) := by
  refine F.ok scW1 (fun vs H Q E h => ?_) (fun cdv A outer s H vs Q E hr h => ?_)
  · obtain ⟨H0, w, dx, rfl, _⟩ := h
    rfl
  · obtain ⟨H0, w, dx, rfl, s0, w0, hw, k⟩ := h
    have hw' : H w = some (.ins C dx []) := hw
    refine ⟨_, pss_cons (ps_fld (pv 0) (pe_lst pa_nil) rfl) (pss_cons (ps_fld (pv 0) pe_int rfl) (pss_one (ps_fld (pv 0) pe_int rfl))), ?_⟩
    refine ⟨Nat.zero_le _, fun l hl => ?_⟩
    have nwl : w ≠ l := ne_of_none hw' hl
    have l0 : H0 l = none := s0.free hl
    have a1 : upd H l (.lst []) w = some (.ins C dx []) := by rw [upd_ne nwl]; exact hw'
    refine ⟨_, rfl, w, C, dx, [], rfl, a1, T.cl, T.nR, (by show 0 < 1000; decide), ?_⟩
    refine ⟨_, rfl, w, C, dx, _, rfl, upd_same, T.cl, T.nK, (by show 1 < 1000; decide), ?_⟩
    refine ⟨_, rfl, w, C, dx, _, rfl, upd_same, T.cl, T.nT, (by show 2 < 1000; decide), ?_⟩
    refine k [w, l] _ ⟨dx, l, [], rfl, upd_same, by rw [upd_ne nwl.symm, upd_ne nwl.symm, upd_ne nwl.symm, upd_same], .nil, fun d z => absurd z (by simp), Nat.le_refl _⟩ (fun a m => ?_) (fun b o z => ?_)
    · simp only [List.mem_cons, List.not_mem_nil, or_false] at m
      rcases m with rfl | rfl
      · exact w0
      · exact l0
    · have nbw : b ≠ w := ne_of_none z w0
      rw [upd_ne nbw, upd_ne nbw, upd_ne nbw, upd_ne (ne_of_none z l0)]
      exact s0 _ _ z
theorem ok_wlen {f : Addr} {fd : FuncData} (F : Fun K "__len__" "Wire.__len__" sWLen f fd) (T : WTxt K mg C) (G : Txt mg) : FnOk P w K mg base CX0 1 f fd ["self"] (spWLen (wk C)) := by
  refine F.ok scW2 (fun vs H Q E h => ?_) (fun cdv A outer s H vs Q E hr h => ?_)
  · obtain ⟨w, fp, rows, put, tk, rfl, _⟩ := h
    rfl
  · obtain ⟨w, fp, rows, put, tk, rfl, ⟨dx, l, xs, rfl, hw, hl, hx, hR, hp⟩, hput, k⟩ := h
    refine ⟨_, pss_one (ps_ret (pe_callB call_len_seq (by rfl) G.len PySem.boot_len (pa_cons (pe_fld (pv 0) rfl) pa_nil))), ?_⟩
    refine ⟨_, rfl, w, C, dx, _, _, rfl, hw, T.cl, T.nR, wf_r _ _ _, l, _, rfl, .inl (SqL.of hl), ?_⟩
    have e := hx.length
    rw [e]
    exact k H (Same.refl _)
theorem ok_wheard {f : Addr} {fd : FuncData} (F : Fun K "heard" "Wire.heard" sWHeard f fd) (T : WTxt K mg C) : FnOk P w K mg base CX0 1 f fd ["self"] (spWHeard (wk C)) := by
  refine F.ok scW6 (fun vs H Q E h => ?_) (fun cdv A outer s H vs Q E hr h => ?_)
  · obtain ⟨w, fp, rows, put, tk, rfl, _⟩ := h
    rfl
  · obtain ⟨w, fp, rows, put, tk, rfl, ⟨dx, l, xs, rfl, hw, hl, hx, hR, hp⟩, k⟩ := h
    refine ⟨_, pss_one (ps_ret (pe_fld (pv 0) rfl)), ?_⟩
    exact ⟨_, rfl, w, C, dx, _, _, rfl, hw, T.cl, T.nT, wf_t _ _ _, k H (Same.refl _)⟩
theorem ok_wunheard {f fc : Addr} {fd fdc : FuncData} (F : Fun K "unheard" "Wire.unheard" sWUnheard f fd) (T : WTxt K mg C) (m : mg "copied" = some (.ref fc)) (kc : PySem.W.keepIn K (.ref fc) = true) (bc : Binds K fdc ["thing"] []) (Gc : FnOk P w K mg base CX0 5 fc fdc ["thing"] (spCopied 4)) :
    FnOk P w K mg base CX0 6 f fd ["self"] (spWUnheard (wk C)) := by
  refine F.ok scW7 (fun vs H Q E h => ?_) (fun cdv A outer s H vs Q E hr h => ?_)
  · obtain ⟨w, fp, rows, put, tk, rfl, _⟩ := h
    rfl
  · obtain ⟨w, fp, rows, put, tk, rfl, ⟨dx, l, xs, rfl, hw, hl, hx, hR, hp⟩, hput, k⟩ := h
    refine ⟨_, pss_one (ps_ret (pe_lc (own := [("row", 1), ("fixed", 2)]) (g := gTup K 2 (gCons (gName 1) (gCons (gName 2) gNil))) (tt := tYes) rfl scW7.nd (pi_list (pe_fld (pv 0) rfl))
      (blkOk_by (N := ["self", "row", "fixed"]) (sc := defScope sWUnheard) (by decide +kernel)) (fun _ _ _ _ _ => by exact pg_tup rfl (pgs_cons (pg_name (i := 1) scW7.nd rfl (Or.inl rfl)) (pgs_cons (pg_name (i := 2) scW7.nd rfl (Or.inl rfl)) pgs_nil))) (fun _ _ _ _ _ => pts_nil)
      (fun _ _ _ _ _ => pe_ifExp (pt_val (pv 2)) (pv 1) (pe_call Gc hr (by rfl) m kc bc .nil pass0 (pa_cons (pv 1) pa_nil))))), ?_⟩
    refine ⟨_, rfl, w, C, dx, _, _, rfl, hw, T.cl, T.nR, wf_r _ _ _, l, rfl, ⟨xs, SqL.of hl⟩, fun D hD => ?_⟩
    refine lc_list (K := K) (a := l) (xs := xs) (fun i H' => ∃ ys : List V, H' D = some (.lst ys) ∧ DtAll H' ys (rows.take i) ∧ Same H H') ?_ ?_ ?_ ?_
    · exact ⟨[], upd_same, .nil, same_new (Same.refl _) hD⟩
    · rintro i H' _ ⟨ys, hy, hyd, s⟩
      exact SqL.of (s _ _ hl)
    · rintro i x H' hi ⟨ys, hy, hyd, s⟩
      obtain ⟨p, v, d, rfl, hdi, hpt, hvd⟩ := hx.get i x hi
      have hil : i < rows.length := (List.getElem?_eq_some_iff.mp hdi).1
      refine ⟨p, _, rfl, SqT.of (s _ _ hpt), rfl, _, _, rfl, _, _, rfl, rfl, rfl, _, rfl, true, rfl, iteT ⟨_, rfl, ?_⟩⟩
      have tt : Tups H' (upd H' D (.lst (ys ++ [v]))) := (Tups.refl _).mut hy (by intro _ z; cases z)
      refine ⟨_, hy, small1000 (by rw [hyd.length, List.length_take]; omega), _, upd_same, ?_, same_mut s hD⟩
      rw [List.take_add_one, hdi]
      exact (hyd.app (.cons (hvd.mono (sameTups s)) .nil)).mono tt
    · rintro H' ⟨ys, hy, hyd, s⟩
      rw [hx.length, List.take_length] at hyd
      exact k D ys H' hD hy hyd s
theorem ok_wletter {f fu : Addr} {fd fdu : FuncData} (F : Fun K "letter" "Wire.letter" sWLetter f fd) (T : WTxt K mg C) (G : Txt mg) (mW : ∃ t, mg "WORD" = some (.str "rows" t)) (mu : Meth K C "unheard" fu) (bu : Binds K fdu ["self"] []) (Gu : FnOk P w K mg base CX0 6 fu fdu ["self"] (spWUnheard (wk C))) :
    FnOk P w K mg base CX0 7 f fd ["self"] (spWLetter (wk C)) := by
  obtain ⟨tW, mW⟩ := mW
  refine F.ok scW4 (fun vs H Q E h => ?_) (fun cdv A outer s H vs Q E hr h => ?_)
  · obtain ⟨w, fp, rows, put, tk, rfl, _⟩ := h
    rfl
  · obtain ⟨w, fp, rows, put, tk, rfl, hW, hput, k⟩ := h
    obtain ⟨dx, l, xs, rfl, hw, hl, hx, hR, hp⟩ := id hW
    refine ⟨_, pss_one (ps_ret (pe_tup (pa_cons (pe_glob (v := V.str "rows") rfl mW ⟨_, rfl⟩) (pa_cons (pe_op op_sub (pe_fld (pv 0) rfl) (pe_callB call_len_seq (by rfl) G.len PySem.boot_len (pa_cons (pe_fld (pv 0) rfl) pa_nil))) (pa_cons (pe_callTy call_tuple_of (by rfl) G.tuple (by decide +kernel) (pa_cons (pe_meth0 (pv 0) T.cl mu Gu hr bu .nil pass0) pa_nil)) (pa_cons (pe_fld (pv 0) rfl) pa_nil)))))), ?_⟩
    refine ⟨_, rfl, w, C, dx, _, _, rfl, hw, T.cl, T.nK, wf_k _ _ _, _, rfl, w, C, dx, _, _, rfl, hw, T.cl, T.nR, wf_r _ _ _, l, _, rfl, .inl (SqL.of hl), _, _, rfl, rfl, ?_⟩
    refine ⟨_, rfl, w, dx, _, rfl, hw, wf_no _ _ _ _ (by simp), w, [w, l], rows, put, tk, rfl, hW, hput, fun m ys H1 hm0 hm hy s1 => ?_⟩
    refine ⟨m, _, rfl, .inl ⟨SqL.of hm, fun t ht => ?_⟩⟩
    have s2 := same_new s1 ht (o := .tup ys)
    have t2 : Tups H1 (upd H1 t (.tup ys)) := (Tups.refl _).new ht
    have a2 : upd H1 t (.tup ys) t = some (.tup ys) := upd_same
    have t0 : H t = none := s1.free ht
    generalize upd H1 t (.tup ys) = H2 at s2 a2 t2 ⊢
    refine ⟨_, rfl, w, C, dx, _, _, rfl, s2 _ _ hw, T.cl, T.nT, wf_t _ _ _, (by show 4 ≤ sizeLine; decide), fun u hu => ?_⟩
    have e : (put : Int) - (xs.length : Nat) = ((put - rows.length : Nat) : Int) := by
      rw [hx.length]
      omega
    have s3 := same_new s2 hu (o := .tup [.str "rows", .int ((put : Int) - (xs.length : Nat)), .ref t, .int (tk : Nat)])
    have t3 : Tups H2 (upd H2 u (.tup [.str "rows", .int ((put : Int) - (xs.length : Nat)), .ref t, .int (tk : Nat)])) := (Tups.refl _).new hu
    have a3 : upd H2 u (.tup [.str "rows", .int ((put : Int) - (xs.length : Nat)), .ref t, .int (tk : Nat)]) u = some (.tup [.str "rows", .int ((put - rows.length : Nat) : Int), .ref t, .int (tk : Nat)]) := by rw [upd_same, e]
    refine k u _ (s2.free hu) ?_ s3
    exact .tup a3 (.cons (.str _) (.cons (.int _) (.cons (.tup (t3 _ _ a2) ((hy.mono t2).mono t3)) (.cons (.int _) .nil))))
theorem ok_wput {f fc fx : Addr} {fd fdc fdx : FuncData} (F : Fun K "put" "Wire.put" sWPut f fd) (T : WTxt K mg C) (m : mg "copied" = some (.ref fc)) (kc : PySem.W.keepIn K (.ref fc) = true) (bc : Binds K fdc ["thing"] []) (Gc : FnOk P w K mg base CX0 5 fc fdc ["thing"] (spCopied 4))
    (mx : mg "is_fixed" = some (.ref fx)) (kx : PySem.W.keepIn K (.ref fx) = true) (bx : Binds K fdx ["thing"] []) (Gx : FnOk P w K mg base CX0 5 fx fdx ["thing"] (spFixed 4)) :
    FnOk P w K mg base CX0 6 f fd ["self", "row"] (spWPut (wk C)) := by
  refine F.ok scW3 (fun vs H Q E h => ?_) (fun cdv A outer s H vs Q E hr h => ?_)
  · obtain ⟨w, r, d, fp, rows, put, tk, rfl, _⟩ := h
    rfl
  · obtain ⟨w, r, d, fp, rows, put, tk, rfl, ⟨dx, l, xs, rfl, hw, hl, hx, hR, hp⟩, hd, hrow, hput, k⟩ := h
    refine ⟨_, pss_cons (ps_expr (pe_bm PySem.F.plainAttrs_list PySem.F.slot_list_append PySem.F.type_list_append mt_append (pe_fld (pv 0) rfl) (pa_cons (pe_tup (pa_cons (pe_call Gc hr (by rfl) m kc bc .nil pass0 (pa_cons (pv 1) pa_nil)) (pa_cons (pe_call Gx hr (by rfl) mx kx bx .nil pass0 (pa_cons (pv 1) pa_nil)) pa_nil))) pa_nil)))
      (pss_cons (ps_fldaug (pv 0) pe_int in_add) (pss_one (ps_ret (pe_op op_sub (pe_fld (pv 0) rfl) pe_int)))), ?_⟩
    refine ⟨_, rfl, w, C, dx, _, _, rfl, hw, T.cl, T.nR, wf_r _ _ _, .inl ⟨rfl, _, SqL.of hl⟩, _, rfl, .ref r, d, rfl, hd, hrow.lay.2, few_row hrow, fun v H1 hv s1 => ?_⟩
    refine ⟨_, rfl, .ref r, d, rfl, hd.mono (sameTups s1), hrow.lay.2, few_row hrow, fun H2 s2 => ?_⟩
    refine ⟨(by show 2 ≤ sizeLine; decide), fun p hp0 => ?_⟩
    have hv2 := hv.mono (sameTups s2)
    have s3 : Same H (upd H2 p (.tup [v, .bl true])) := same_new (s1.trans s2) hp0
    have t3 : Tups H2 (upd H2 p (.tup [v, .bl true])) := (Tups.refl _).new hp0
    have a3 : upd H2 p (.tup [v, .bl true]) p = some (.tup [v, .bl true]) := upd_same
    generalize upd H2 p (.tup [v, .bl true]) = H3 at s3 t3 a3 ⊢
    have nlw : l ≠ w := ne_of hl hw (by intro z; cases z)
    refine ⟨l, _, _, rfl, rfl, s3 _ _ hl, small1000 (by rw [hx.length]; omega), ?_⟩
    have hx4 : Ent (upd H3 l (.lst (xs ++ [.ref p]))) (xs ++ [.ref p]) (rows ++ [d]) :=
      ((hx.mono (sameTups s3)).app (.cons a3 (hv2.mono t3) .nil)).mono ((Tups.refl _).mut (s3 _ _ hl) (by intro _ z; cases z))
    have hw4 : upd H3 l (.lst (xs ++ [.ref p])) w = some (.ins C dx (wf l put tk)) := by rw [upd_ne nlw.symm]; exact s3 _ _ hw
    have hl4 : upd H3 l (.lst (xs ++ [.ref p])) l = some (.lst (xs ++ [.ref p])) := upd_same
    have b4 : But (· ∈ [w, l]) H (upd H3 l (.lst (xs ++ [.ref p]))) := (sameBut s3 _).mut (by simp)
    generalize upd H3 l (.lst (xs ++ [.ref p])) = H4 at hx4 hw4 hl4 b4 ⊢
    refine ⟨_, rfl, w, C, dx, _, _, rfl, hw4, T.cl, T.nK, wf_k _ _ _, _, _, rfl, rfl, dx, _, hw4, (by show 3 < 1000; decide), ?_⟩
    have e5 : upd H4 w (.ins C dx (putF "_many" (.int ((put : Int) + 1)) (wf l put tk))) w = some (.ins C dx (wf l ((put + 1 : Nat) : Int) tk)) := upd_same
    have l5 : upd H4 w (.ins C dx (putF "_many" (.int ((put : Int) + 1)) (wf l put tk))) l = some (.lst (xs ++ [.ref p])) := by rw [upd_ne nlw]; exact hl4
    have x5 := hx4.mono ((Tups.refl H4).mut (o := .ins C dx (putF "_many" (.int ((put : Int) + 1)) (wf l put tk))) hw4 (by intro _ z; cases z))
    have b5 : But (· ∈ [w, l]) H (upd H4 w (.ins C dx (putF "_many" (.int ((put : Int) + 1)) (wf l put tk)))) := b4.mut (by simp)
    refine ⟨_, rfl, w, C, dx, _, _, rfl, e5, T.cl, T.nK, wf_k _ _ _, _, _, rfl, rfl, ?_⟩
    have e : ((put + 1 : Nat) : Int) - 1 = (put : Nat) := by omega
    show Q (V.int (((put + 1 : Nat) : Int) - 1)) _
    rw [e]
    refine k [w, l] _ ⟨dx, l, _, rfl, e5, l5, x5, fun e he => ?_, by rw [List.length_append, List.length_singleton]; omega⟩ (fun a m => .inl m) b5
    rcases List.mem_append.mp he with z | z
    · exact hR e z
    · rw [List.mem_singleton.mp z]; exact hrow
end
end K3
namespace K3
open PySem L2 GG
theorem LetD.inv {H : Hp} {t : Addr} {first heard : Nat} {new : List PyData} (h : Dt H (.ref t) (LetD first new heard)) : ∃ (r : Addr) (ys : List V), H t = some (.tup [.str "rows", .int first, .ref r, .int heard]) ∧ H r = some (.tup ys) ∧ DtAll H ys new := by
  obtain ⟨ls, ht, hls⟩ := h.tupI
  cases hls with
  | cons h0 hls =>
  cases hls with
  | cons h1 hls =>
  cases hls with
  | cons h2 hls =>
  cases hls with
  | cons h3 hls =>
  cases hls
  cases h0
  cases h1
  cases h3
  obtain ⟨r, rfl⟩ := h2.ref_of
  obtain ⟨ys, hR, hy⟩ := h2.tupI
  exact ⟨r, ys, ht, hR, hy⟩
section
variable {P : Program} {w : World} {K : PySem.W.Frag} {mg : Str → Option Value} {base : Heap} {C : Addr}
theorem scW8 : FnScope ["self", "letter", "word", "first", "rows", "heard", "row"] ["self", "letter"] (defScope sWCan) := ⟨rfl, rfl, rfl, by decide +kernel, rfl, by decide +kernel, by decide +kernel⟩
theorem scW5 : FnScope ["self", "letter", "_", "first", "rows", "heard", "known", "told", "row"] ["self", "letter"] (defScope sWTake) := ⟨rfl, rfl, rfl, by decide +kernel, rfl, by decide +kernel, by decide +kernel⟩
def spWCan (C : Addr) : Sp := fun vs H Q _ => ∃ (w t : Addr) (fp : List Addr) (rows new : List PyData) (put tk first heard : Nat), vs = [.ref w, .ref t] ∧ WAtS C H fp w rows put tk ∧ Dt H (.ref t) (LetD first new heard) ∧ first ≤ tk ∧ heard ≤ put ∧ (∀ d ∈ new, RowD d) ∧ new.length ≤ 1000 ∧
  ∀ H', Same H H' → Q (.bl true) H'
theorem ok_wcan {f fn : Addr} {fd fdn : FuncData} (F : Fun K "_can_take" "Wire._can_take" sWCan f fd) (T : WTxt K mg C) (G : Txt mg) (za : mg "all" = none) (mW : ∃ t, mg "WORD" = some (.str "rows" t)) (m : mg "is_number" = some (.ref fn)) (kn : PySem.W.keepIn K (.ref fn) = true) (bn : Binds K fdn ["thing"] []) (Gn : FnOk P w K mg base CX0 1 fn fdn ["thing"] spNumber) :
    FnOk P w K mg base CX0 2 f fd ["self", "letter"] (spWCan C) := by
  obtain ⟨tW, mW⟩ := mW
  refine F.ok scW8 (fun vs H Q E h => ?_) (fun cdv A outer s H vs Q E hr h => ?_)
  · obtain ⟨w, t, fp, rows, new, put, tk, first, heard, rfl, _⟩ := h
    rfl
  · obtain ⟨w, t, fp, rows, new, put, tk, first, heard, rfl, ⟨dx, l, xs, rfl, hw, hl, hx, hR, hp⟩, hd, h1, h2, hnew, hn, k⟩ := h
    obtain ⟨r, ys, ht, hr', hy⟩ := LetD.inv hd
    have tyT := fun (v : Addr) (zs : List V) (e : H v = some (.tup zs)) => TyX.base (K := K) (TyOf.tup e)
    have nd := scW8.nd
    refine ⟨_, pss_cons (ps_if (PW.pt (pw_or (pt_not (pt_val (pe_callB call_isi (by rfl) G.isinstance (by decide +kernel) (pa_cons (pv 1) (pa_cons (pe_bltn (v := V.ty "tuple") (by rfl) G.tuple (by decide +kernel) rfl) pa_nil)))))
          (pw_or1 (pt_cmpR op_ne (pe_callB call_len_seq (by rfl) G.len PySem.boot_len (pa_cons (pv 1) pa_nil)) pe_int (nomark _))))) (pss_one (ps_ret pe_bl)) pss_nil)
      (pss_cons (ps_asg (pv 1) (pg_tup rfl (pgs_cons (pg_name (i := 2) nd rfl (Or.inl rfl)) (pgs_cons (pg_name (i := 3) nd rfl (Or.inl rfl)) (pgs_cons (pg_name (i := 4) nd rfl (Or.inl rfl)) (pgs_cons (pg_name (i := 5) nd rfl (Or.inl rfl)) pgs_nil))))))
      (pss_cons (ps_if (PW.pt (pw_or (pt_cmpR op_ne (pv 2) (pe_glob (v := V.str "rows") rfl mW ⟨_, rfl⟩) (nomark _))
          (pw_or (pt_not (pt_val (pe_call Gn hr (by rfl) m kn bn .nil pass0 (pa_cons (pv 3) pa_nil))))
          (pw_or1 (pt_not (pt_val (pe_call Gn hr (by rfl) m kn bn .nil pass0 (pa_cons (pv 5) pa_nil)))))))) (pss_one (ps_ret pe_bl)) pss_nil)
      (pss_cons (ps_if (PW.pt (pw_or (pt_not (pt_val (pe_callB call_isi (by rfl) G.isinstance (by decide +kernel) (pa_cons (pv 4) (pa_cons (pe_bltn (v := V.ty "tuple") (by rfl) G.tuple (by decide +kernel) rfl) pa_nil)))))
          (pw_or1 (pt_not (pt_val (pe_callB (cr_all rfl) (by rfl) za (by decide +kernel) (pa_cons (pe_lc (own := [("row", 6)]) (g := gName 6) (tt := tYes) rfl nd (pi_tup (pv 4))
          (blkOk_by (N := ["self", "letter", "word", "first", "rows", "heard", "row"]) (sc := defScope sWCan) (by decide +kernel)) (fun _ _ _ _ _ => pg_name (i := 6) nd rfl (Or.inl rfl)) (fun _ _ _ _ _ => pts_nil)
          (fun _ _ _ _ _ => pe_callB (id := "isinstance") (r := rIsi K) call_isi (by rfl) G.isinstance (by decide +kernel) (pa_cons (pv 6) (pa_cons (pe_bltn (v := V.ty "tuple") (by rfl) G.tuple (by decide +kernel) rfl) pa_nil)))) pa_nil))))))) (pss_one (ps_ret pe_bl)) pss_nil)
      (pss_one (ps_ret (pe_and (pe_cmpR op_le (pv 3) (pe_fld (pv 0) rfl) (nomark _)) (pe_one (pe_cmpR op_le (pv 5) (pe_fld (pv 0) rfl) (nomark _))))))))), ?_⟩
    refine ⟨_, rfl, .ref t, .ty "tuple", .type "tuple", .type "tuple", true, rfl, .ty _, tyT _ _ ht, kit_ty (by decide +kernel), true, rfl, iteF ?_⟩
    refine ⟨_, rfl, t, _, rfl, .inr (SqT.of ht), rfl, _, rfl, iteNS rfl ?_⟩
    refine ⟨_, rfl, t, _, rfl, SqT.of ht, rfl, _, _, rfl, _, _, rfl, _, _, rfl, _, _, rfl, rfl, ?_⟩
    refine ⟨_, rfl, rfl, _, rfl, iteNS rfl ?_⟩
    refine ⟨_, rfl, _, rfl, Int.natCast_nonneg _, true, rfl, iteF ?_⟩
    refine ⟨_, rfl, _, rfl, Int.natCast_nonneg _, true, rfl, iteF ?_⟩
    refine ⟨_, rfl, .ref r, .ty "tuple", .type "tuple", .type "tuple", true, rfl, .ty _, tyT _ _ hr', kit_ty (by decide +kernel), true, rfl, iteF ?_⟩
    refine ⟨_, rfl, r, rfl, ⟨ys, SqT.of hr'⟩, fun D hD => ?_⟩
    refine lc_tup (K := K) (a := r) (xs := ys) (fun i H' => ∃ n : Nat, n = i ∧ H' D = some (.lst ((List.replicate n true).map V.bl)) ∧ Same H H') ?_ ?_ ?_ ?_
    · exact ⟨0, rfl, upd_same, same_new (Same.refl _) hD⟩
    · rintro i H' _ ⟨n, rfl, hDl, s⟩
      exact SqT.of (s _ _ hr')
    · rintro i x H' hi ⟨n, rfl, hDl, s⟩
      obtain ⟨d, hdi, hdx⟩ := hy.get n x hi
      have hil : n < new.length := (List.getElem?_eq_some_iff.mp hdi).1
      obtain ⟨es, rfl, _⟩ := hnew d (List.mem_of_getElem? hdi)
      obtain ⟨a, rfl⟩ := hdx.ref_of
      obtain ⟨zs, hz, _⟩ := hdx.tupI
      refine ⟨rfl, _, rfl, .ref a, .ty "tuple", .type "tuple", .type "tuple", true, rfl, .ty _, .base (.tup (s _ _ hz)), kit_ty (by decide +kernel), _, hDl, ?_, n + 1, rfl, ?_, same_mut s hD⟩
      · rw [List.length_map, List.length_replicate]
        exact small1000 (by omega)
      · rw [upd_same, List.replicate_succ', List.map_append]
        rfl
    · rintro H' ⟨n, rfl, hDl, s⟩
      refine ⟨D, _, rfl, SqL.of hDl, ?_⟩
      have e : (List.replicate ys.length true).all id = true := by simp
      rw [e]
      refine ⟨true, rfl, iteF ?_⟩
      refine ⟨_, rfl, _, rfl, w, C, dx, _, _, rfl, s _ _ hw, T.cl, T.nT, wf_t _ _ _, _, _, rfl, rfl, _, rfl, iteYes (Int.ofNat_le.mpr h1) ⟨_, rfl, _, rfl, w, C, dx, _, _, rfl, s _ _ hw, T.cl, T.nK, wf_k _ _ _, _, _, rfl, rfl, ?_⟩⟩
      show Q (V.bl (decide ((heard : Int) ≤ (put : Int)))) H'
      rw [decide_eq_true (Int.ofNat_le.mpr h2)]
      exact k H' s
theorem ok_wtake {f fi fc : Addr} {fd fdi fdc : FuncData} (F : Fun K "take" "Wire.take" sWTake f fd) (T : WTxt K mg C) (G : Txt mg) (mi : Meth K C "_can_take" fi) (bi : Binds K fdi ["self", "letter"] []) (Gi : FnOk P w K mg base CX0 2 fi fdi ["self", "letter"] (spWCan C))
    (m : mg "copied" = some (.ref fc)) (kc : PySem.W.keepIn K (.ref fc) = true) (bc : Binds K fdc ["thing"] []) (Gc : FnOk P w K mg base CX0 5 fc fdc ["thing"] (spCopied 4)) :
    FnOk P w K mg base CX0 6 f fd ["self", "letter"] (spWTake (wk C)) := by
  refine F.ok scW5 (fun vs H Q E h => ?_) (fun cdv A outer s H vs Q E hr h => ?_)
  · obtain ⟨w, t, fp, rows, new, put, tk, first, heard, rfl, _⟩ := h
    rfl
  · obtain ⟨w, t, fp, rows, new, put, tk, first, heard, rfl, hW, hd, h1, h2, hnew, hn, hput, htk, k⟩ := h
    have hr2 : Room 2 _ := hr.mono (by decide)
    have nd := scW5.nd
    refine ⟨_, pss_cons (ps_if (pt_not (pt_val (pe_meth (pv 0) T.cl mi Gi hr2 bi .nil pass0 (pa_cons (pv 1) pa_nil)))) (pss_one ps_never) pss_nil)
      (pss_cons (ps_asg (pv 1) (pg_tup rfl (pgs_cons (pg_name (i := 2) nd rfl (Or.inl rfl)) (pgs_cons (pg_name (i := 3) nd rfl (Or.inl rfl)) (pgs_cons (pg_name (i := 4) nd rfl (Or.inl rfl)) (pgs_cons (pg_name (i := 5) nd rfl (Or.inl rfl)) pgs_nil))))))
      (pss_cons (ps_set (i := 6) nd rfl (.inl rfl) (pe_op op_sub (pe_fld (pv 0) rfl) (pe_callB call_len_seq (by rfl) G.len PySem.boot_len (pa_cons (pe_fld (pv 0) rfl) pa_nil))))
      (C8.pss_cut (ps_if (pt_cmpR op_gt (pv 5) (pv 6) (nomark _))
          (pss_one (ps_fld (pv 0) (pe_slice sl_list (pe_fld (pv 0) rfl) (po_some (pe_op op_sub (pv 5) (pv 6))) po_none) rfl)) pss_nil)
      (C8.pss_cut (ps_setLc (i := 7) (own := [("row", 8)]) (g := gName 8) (tt := tYes) rfl nd rfl rfl (sw_true rfl rfl rfl (by decide +kernel)) (pi_tup (pe_slice sl_tupA (pv 4) (po_some (pe_op op_sub (pe_fld (pv 0) rfl) (pv 3))) po_none))
          (blkOk_by (N := ["self", "letter", "_", "first", "rows", "heard", "known", "told", "row"]) (sc := defScope sWTake) (by decide +kernel)) (fun _ _ _ _ _ => pg_name (i := 8) nd rfl (Or.inl rfl)) (fun _ _ _ _ _ => pts_nil)
          (fun _ _ _ _ _ => pe_call Gc hr (by rfl) m kc bc .nil pass0 (pa_cons (pv 8) pa_nil)))
      (pss_cons (ps_fldaug (pv 0) (pe_callB call_len_seq (by rfl) G.len PySem.boot_len (pa_cons (pv 7) pa_nil)) in_add)
      (pss_one (ps_ret (pv 7)))))))), ?_⟩
    obtain ⟨dx, l, xs, rfl, hw, hl, hx, hR, hp⟩ := id hW
    refine ⟨_, rfl, w, dx, _, rfl, hw, wf_no _ _ _ _ (by simp), _, rfl, w, t, [w, l], rows, new, put, tk, first, heard, rfl, hW, hd, h1, h2, hnew, hn, fun H1 s1 => ⟨true, rfl, iteF ?_⟩⟩
    obtain ⟨r, ys, ht, hr', hy⟩ := LetD.inv (hd.mono (sameTups s1))
    refine ⟨_, rfl, t, _, rfl, SqT.of ht, rfl, _, _, rfl, _, _, rfl, _, _, rfl, _, _, rfl, rfl, ?_⟩
    refine ⟨_, rfl, w, C, dx, _, _, rfl, s1 _ _ hw, T.cl, T.nK, wf_k _ _ _, _, rfl, w, C, dx, _, _, rfl, s1 _ _ hw, T.cl, T.nR, wf_r _ _ _, l, _, rfl, .inl (SqL.of (s1 _ _ hl)), _, _, rfl, rfl, ?_⟩
    have ekn : (put : Int) - (xs.length : Nat) = ((put - rows.length : Nat) : Int) := by
      rw [hx.length]
      omega
    have nlw : l ≠ w := ne_of hl hw (by intro z; cases z)
    have hx1 := hx.mono (sameTups s1)
    refine ⟨fun σ' H' => σ' = [some (.ref w), some (.ref t), some (.str "rows"), some (.int first), some (.ref r), some (.int heard), some (.int ((put : Int) - (xs.length : Nat))), none, none] ∧ ∃ (l2 : Addr) (zs : List V), H' w = some (.ins C dx (wf l2 put tk)) ∧ H' l2 = some (.lst zs) ∧ Ent H' zs (rows.drop (heard - (put - rows.length))) ∧ (l2 = l ∨ H l2 = none) ∧ l2 ≠ w ∧ H' l = some (.lst xs) ∧ But (· ∈ [w, l]) H H' ∧ Tups H1 H', ?_, ?_⟩
    · refine ⟨_, rfl, _, rfl, _, _, rfl, rfl, _, rfl, ite2 (fun hg => ?_) (fun hg => ?_)⟩
      · have hg' : (put : Int) - (xs.length : Nat) < (heard : Int) := of_decide_eq_true hg
        have ej : (heard : Int) - ((put : Int) - (xs.length : Nat)) = ((heard - (put - rows.length) : Nat) : Int) := by omega
        refine ⟨_, rfl, w, C, dx, _, _, rfl, s1 _ _ hw, T.cl, T.nR, wf_r _ _ _, _, rfl, _, rfl, _, _, rfl, rfl, _, rfl, ?_⟩
        rw [ej]
        refine ⟨l, xs, rfl, SqL.of (s1 _ _ hl), fun l2 hl2 => ?_⟩
        rw [cutV_drop]
        have nl2w : l2 ≠ w := fun q => by
          rw [q, s1 _ _ hw] at hl2
          cases hl2
        have hw4 : upd H1 l2 (.lst (xs.drop (heard - (put - rows.length)))) w = some (.ins C dx (wf l put tk)) := by rw [upd_ne nl2w.symm]; exact s1 _ _ hw
        refine ⟨_, rfl, w, C, dx, _, rfl, hw4, T.cl, T.nR, (by show 3 < 1000; decide), ?_⟩
        have tt : Tups H1 (upd (upd H1 l2 (.lst (xs.drop (heard - (put - rows.length))))) w (.ins C dx (putF "_rows" (.ref l2) (wf l put tk)))) :=
          ((Tups.refl _).new hl2).mut hw4 (by intro _ z; cases z)
        refine ⟨rfl, l2, xs.drop (heard - (put - rows.length)), ?_, ?_, (hx1.drop _).mono tt, .inr (s1.free hl2), nl2w, ?_, ((sameBut s1 _).new hl2).mut (by simp), tt⟩
        · rw [upd_same]
          rfl
        · rw [upd_ne nl2w, upd_same]
        · rw [upd_ne nlw, upd_ne (ne_of_none (s1 _ _ hl) hl2)]
          exact s1 _ _ hl
      · have hg' : ¬ (put : Int) - (xs.length : Nat) < (heard : Int) := fun z => hg (decide_eq_true z)
        have e0 : heard - (put - rows.length) = 0 := by omega
        refine ⟨rfl, l, xs, s1 _ _ hw, s1 _ _ hl, ?_, .inl rfl, nlw, s1 _ _ hl, sameBut s1 _, Tups.refl _⟩
        rw [e0]
        exact hx1
    · rintro σ2 H2 ⟨rfl, l2, zs, hw2, hl2, hz2, hl20, nl2w, hll, b2, t2⟩
      have hr2' := t2 _ _ hr'
      have hy2 := hy.mono t2
      refine ⟨fun σ' H' => ∃ (m : Addr) (us : List V), H m = none ∧ m ≠ w ∧ m ≠ l2 ∧ σ' = [some (.ref w), some (.ref t), some (.str "rows"), some (.int first), some (.ref r), some (.int heard), some (.int ((put : Int) - (xs.length : Nat))), some (.ref m), none] ∧ H' m = some (.lst us) ∧ DtAll H' us (new.drop (tk - first)) ∧ Same H2 H', ?_, ?_⟩
      · have ek : (tk : Int) - (first : Int) = ((tk - first : Nat) : Int) := by omega
        have fresh : ∀ m, H2 m = none → H m = none ∧ m ≠ w ∧ m ≠ l2 := fun m hm => by
          have n1 : m ≠ w := fun q => by
            rw [q, hw2] at hm
            cases hm
          have n2 : m ≠ l2 := fun q => by
            rw [q, hl2] at hm
            cases hm
          have n3 : m ≠ l := fun q => by
            rw [q, hll] at hm
            cases hm
          refine ⟨b2.free hm (fun z => ?_), n1, n2⟩
          simp only [List.mem_cons, List.not_mem_nil, or_false] at z
          rcases z with z | z
          · exact n1 z
          · exact n3 z
        refine ⟨_, rfl, _, rfl, w, C, dx, _, _, rfl, hw2, T.cl, T.nT, wf_t _ _ _, _, rfl, _, _, rfl, rfl, _, rfl, ?_⟩
        rw [ek]
        refine ⟨r, ys, rfl, SqT.of hr2', fun hwh => ?_, fun hpt q hq => ?_⟩
        · have ew : ys.drop (tk - first) = ys := by
            have z := hwh.1
            rw [HT.sIx_nat] at z
            by_cases h0 : tk - first = 0
            · rw [h0]; rfl
            · have : ys.length = 0 := by omega
              rw [List.length_eq_zero_iff.mp this]
              exact List.drop_nil
          have hr3 : H2 r = some (.tup (ys.drop (tk - first))) := by rw [ew]; exact hr2'
          refine ⟨r, rfl, ⟨_, SqT.of hr3⟩, fun D hD => ?_⟩
          refine lc_tup (K := K) (a := r) (xs := ys.drop (tk - first)) (fun i H' => ∃ zs : List V, H' D = some (.lst zs) ∧ DtAll H' zs ((new.drop (tk - first)).take i) ∧ Same H2 H') ?_ ?_ ?_ ?_
          · exact ⟨[], upd_same, .nil, same_new (Same.refl _) hD⟩
          · rintro i H' _ ⟨zs, hz, hzd, s⟩
            exact SqT.of (s _ _ hr3)
          · rintro i x H' hi ⟨zs, hz, hzd, s⟩
            obtain ⟨d, hdi, hdx⟩ := (hy2.drop (tk - first)).get i x hi
            have hil := (List.getElem?_eq_some_iff.mp hdi).1
            have hdr := hnew d (List.mem_of_mem_drop (List.mem_of_getElem? hdi))
            rw [List.length_drop] at hil
            refine ⟨rfl, _, rfl, x, d, rfl, hdx.mono (sameTups s), hdr.lay.2, few_row hdr, fun v' H3 hv s3 => ?_⟩
            have tt : Tups H3 (upd H3 D (.lst (zs ++ [v']))) := (Tups.refl _).mut (s3 _ _ hz) (by intro _ z; cases z)
            refine ⟨_, s3 _ _ hz, small1000 (by rw [hzd.length, List.length_take]; omega), _, upd_same, ?_, same_mut (s.trans s3) hD⟩
            rw [List.take_add_one, hdi]
            exact ((hzd.mono (sameTups s3)).app (.cons hv .nil)).mono tt
          · rintro H' ⟨zs, hz, hzd, s⟩
            have el : (ys.drop (tk - first)).length = (new.drop (tk - first)).length := (hy.drop _).length
            rw [el, List.take_length] at hzd
            obtain ⟨f1, f2, f3⟩ := fresh D hD
            exact ⟨D, zs, f1, f2, f3, rfl, hz, hzd, s⟩
        · rw [cutV_drop]
          have s2 := same_new (Same.refl H2) hq (o := .tup (ys.drop (tk - first)))
          have hq2 : upd H2 q (.tup (ys.drop (tk - first))) q = some (.tup (ys.drop (tk - first))) := upd_same
          generalize upd H2 q (.tup (ys.drop (tk - first))) = H2' at s2 hq2 ⊢
          refine ⟨q, rfl, ⟨_, SqT.of hq2⟩, fun D hD => ?_⟩
          refine lc_tup (K := K) (a := q) (xs := ys.drop (tk - first)) (fun i H' => ∃ zs : List V, H' D = some (.lst zs) ∧ DtAll H' zs ((new.drop (tk - first)).take i) ∧ Same H2' H') ?_ ?_ ?_ ?_
          · exact ⟨[], upd_same, .nil, same_new (Same.refl _) hD⟩
          · rintro i H' _ ⟨zs, hz, hzd, s⟩
            exact SqT.of (s _ _ hq2)
          · rintro i x H' hi ⟨zs, hz, hzd, s⟩
            obtain ⟨d, hdi, hdx⟩ := ((hy2.drop (tk - first)).mono (sameTups s2)).get i x hi
            have hil := (List.getElem?_eq_some_iff.mp hdi).1
            have hdr := hnew d (List.mem_of_mem_drop (List.mem_of_getElem? hdi))
            rw [List.length_drop] at hil
            refine ⟨rfl, _, rfl, x, d, rfl, hdx.mono (sameTups s), hdr.lay.2, few_row hdr, fun v' H3 hv s3 => ?_⟩
            have tt : Tups H3 (upd H3 D (.lst (zs ++ [v']))) := (Tups.refl _).mut (s3 _ _ hz) (by intro _ z; cases z)
            refine ⟨_, s3 _ _ hz, small1000 (by rw [hzd.length, List.length_take]; omega), _, upd_same, ?_, same_mut (s.trans s3) hD⟩
            rw [List.take_add_one, hdi]
            exact ((hzd.mono (sameTups s3)).app (.cons hv .nil)).mono tt
          · rintro H' ⟨zs, hz, hzd, s⟩
            have el : (ys.drop (tk - first)).length = (new.drop (tk - first)).length := (hy.drop _).length
            rw [el, List.take_length] at hzd
            obtain ⟨f1, f2, f3⟩ := fresh D (s2.free hD)
            exact ⟨D, zs, f1, f2, f3, rfl, hz, hzd, s2.trans s⟩
      · rintro σ3 H3 ⟨m, us, hm0, nmw, nml, rfl, hm, hud, s3⟩
        have hw3 := s3 _ _ hw2
        refine ⟨_, rfl, w, C, dx, _, _, rfl, hw3, T.cl, T.nT, wf_t _ _ _, _, rfl, m, _, rfl, .inl (SqL.of hm), _, _, rfl, rfl, dx, _, hw3, (by show 3 < 1000; decide), ?_⟩
        have ez : (tk : Int) + (us.length : Nat) = ((tk + (new.drop (tk - first)).length : Nat) : Int) := by
          rw [hud.length]
          omega
        have hw4 : upd H3 w (.ins C dx (putF "_taken" (.int ((tk : Int) + (us.length : Nat))) (wf l2 put tk))) w = some (.ins C dx (wf l2 put ((tk + (new.drop (tk - first)).length : Nat) : Int))) := by
          rw [upd_same, wf_pt, ez]
        have hl4 : upd H3 w (.ins C dx (putF "_taken" (.int ((tk : Int) + (us.length : Nat))) (wf l2 put tk))) l2 = some (.lst zs) := by rw [upd_ne nl2w]; exact s3 _ _ hl2
        have hm4 : upd H3 w (.ins C dx (putF "_taken" (.int ((tk : Int) + (us.length : Nat))) (wf l2 put tk))) m = some (.lst us) := by rw [upd_ne nmw]; exact hm
        have b4 : But (· ∈ [w, l]) H (upd H3 w (.ins C dx (putF "_taken" (.int ((tk : Int) + (us.length : Nat))) (wf l2 put tk)))) := (b2.trans (sameBut s3 _)).mut (by simp)
        have t4 : Tups H3 (upd H3 w (.ins C dx (putF "_taken" (.int ((tk : Int) + (us.length : Nat))) (wf l2 put tk)))) := (Tups.refl _).mut hw3 (by intro _ z; cases z)
        generalize upd H3 w (.ins C dx (putF "_taken" (.int ((tk : Int) + (us.length : Nat))) (wf l2 put tk))) = H4 at hw4 hl4 hm4 b4 t4 ⊢
        refine ⟨_, rfl, k m us [w, l2] H4 hm0 ?_ hm4 (hud.mono t4) ⟨dx, l2, zs, rfl, hw4, hl4, (hz2.mono (sameTups s3)).mono t4, fun d z => hR d (List.mem_of_mem_drop z), ?_⟩ (fun a z => ?_) b4⟩
        · simp only [List.mem_cons, List.not_mem_nil, or_false, not_or]
          exact ⟨nmw, nml⟩
        · rw [List.length_drop]
          omega
        · simp only [List.mem_cons, List.not_mem_nil, or_false] at z
          rcases z with rfl | rfl
          · exact .inl (by simp)
          · rcases hl20 with rfl | z0
            · exact .inl (by simp)
            · exact .inr z0
end
end K3
namespace K3
open PySem L2 GG
theorem all_mk {l : PySem.W.OpenLaw} {w : World} {K : PySem.W.Frag} {h : Heap} {mg : Str → Option Value} {fa C f1 f2 f3 f4 f5 f6 f7 f8 f9 f10 f11 f12 f13 f14 f15 f16 f17 f18 f19 f20 f21 : Addr} (X : K.In h) (G : h.Ns mainGlobals mg) (hfa : mg "law" = some (.ref fa)) {tW : Tok} {od1 an1 od2 an2 od3 an3 od4 an4 od5 an5 od6 an6 od7 an7 od8 an8 od9 an9 od10 an10 od11 an11 od12 an12 od13 an13 od14 an14 od15 an15 od16 an16 od17 an17 od18 an18 od19 an19 od20 an20 od21 an21 : Option Addr} {sl1 sl2 sl3 sl4 sl5 sl6 sl7 sl8 sl9 sl10 sl11 sl12 sl13 sl14 sl15 sl16 sl17 sl18 sl19 sl20 sl21 : Array (Option Value)}
    {oc1 kV1 dc1 pm1 cd1 ct1 oc2 kV2 dc2 pm2 cd2 ct2 oc3 kV3 dc3 pm3 cd3 ct3 oc4 kV4 dc4 pm4 cd4 ct4 oc5 kV5 dc5 pm5 cd5 ct5 oc6 kV6 dc6 pm6 cd6 ct6 oc7 kV7 dc7 pm7 cd7 ct7 oc8 kV8 dc8 pm8 cd8 ct8 oc9 kV9 dc9 pm9 cd9 ct9 oc10 kV10 dc10 pm10 cd10 ct10 oc11 kV11 dc11 pm11 cd11 ct11 oc12 kV12 dc12 pm12 cd12 ct12 oc13 kV13 dc13 pm13 cd13 ct13 oc14 kV14 dc14 pm14 cd14 ct14 oc15 kV15 dc15 pm15 cd15 ct15 oc16 kV16 dc16 pm16 cd16 ct16 oc17 kV17 dc17 pm17 cd17 ct17 oc18 kV18 dc18 pm18 cd18 ct18 oc19 kV19 dc19 pm19 cd19 ct19 oc20 kV20 dc20 pm20 cd20 ct20 oc21 kV21 dc21 pm21 cd21 ct21 : Value}
    (a1 : PySem.W.nsIn K mainGlobals "_law_pen" = some (some (.ref f1))) (l1 : K.lookup f1 = some ⟨oc1, od1, .func (PySem.W.fnOf "_law_pen" "_law_pen" (defArgs sPen) (defBody sPen) (defScope sPen) .none kV1 dc1 pm1 an1 cd1 ct1), sl1⟩) (c1 : PySem.W.codeIn K cd1 "_law_pen" = true) (k1 : PySem.W.keepIn K (.ref f1) = true)
    (a2 : PySem.W.nsIn K mainGlobals "_law_draw" = some (some (.ref f2))) (l2 : K.lookup f2 = some ⟨oc2, od2, .func (PySem.W.fnOf "_law_draw" "_law_draw" (defArgs sDraw) (defBody sDraw) (defScope sDraw) .none kV2 dc2 pm2 an2 cd2 ct2), sl2⟩) (c2 : PySem.W.codeIn K cd2 "_law_draw" = true) (k2 : PySem.W.keepIn K (.ref f2) = true)
    (a3 : PySem.W.nsIn K mainGlobals "_law_pick" = some (some (.ref f3))) (l3 : K.lookup f3 = some ⟨oc3, od3, .func (PySem.W.fnOf "_law_pick" "_law_pick" (defArgs sPick) (defBody sPick) (defScope sPick) .none kV3 dc3 pm3 an3 cd3 ct3), sl3⟩) (c3 : PySem.W.codeIn K cd3 "_law_pick" = true) (k3 : PySem.W.keepIn K (.ref f3) = true)
    (a4 : PySem.W.nsIn K mainGlobals "_law_plain" = some (some (.ref f4))) (l4 : K.lookup f4 = some ⟨oc4, od4, .func (PySem.W.fnOf "_law_plain" "_law_plain" (defArgs sPlain) (defBody sPlain) (defScope sPlain) .none kV4 dc4 pm4 an4 cd4 ct4), sl4⟩) (c4 : PySem.W.codeIn K cd4 "_law_plain" = true) (k4 : PySem.W.keepIn K (.ref f4) = true)
    (a5 : PySem.W.nsIn K mainGlobals "_law_row_of" = some (some (.ref f5))) (l5 : K.lookup f5 = some ⟨oc5, od5, .func (PySem.W.fnOf "_law_row_of" "_law_row_of" (defArgs sRow) (defBody sRow) (defScope sRow) .none kV5 dc5 pm5 an5 cd5 ct5), sl5⟩) (c5 : PySem.W.codeIn K cd5 "_law_row_of" = true) (k5 : PySem.W.keepIn K (.ref f5) = true)
    (a6 : PySem.W.nsIn K mainGlobals "_law_end" = some (some (.ref f6))) (l6 : K.lookup f6 = some ⟨oc6, od6, .func (PySem.W.fnOf "_law_end" "_law_end" (defArgs sEnd) (defBody sEnd) (defScope sEnd) .none kV6 dc6 pm6 an6 cd6 ct6), sl6⟩) (c6 : PySem.W.codeIn K cd6 "_law_end" = true) (k6 : PySem.W.keepIn K (.ref f6) = true)
    (a7 : PySem.W.nsIn K mainGlobals "_law_letter_of" = some (some (.ref f7))) (l7 : K.lookup f7 = some ⟨oc7, od7, .func (PySem.W.fnOf "_law_letter_of" "_law_letter_of" (defArgs sLetOf) (defBody sLetOf) (defScope sLetOf) .none kV7 dc7 pm7 an7 cd7 ct7), sl7⟩) (c7 : PySem.W.codeIn K cd7 "_law_letter_of" = true) (k7 : PySem.W.keepIn K (.ref f7) = true)
    (a8 : PySem.W.nsIn K mainGlobals "_law_fresh_by" = some (some (.ref f8))) (l8 : K.lookup f8 = some ⟨oc8, od8, .func (PySem.W.fnOf "_law_fresh_by" "_law_fresh_by" (defArgs sFresh) (defBody sFresh) (defScope sFresh) .none kV8 dc8 pm8 an8 cd8 ct8), sl8⟩) (c8 : PySem.W.codeIn K cd8 "_law_fresh_by" = true) (k8 : PySem.W.keepIn K (.ref f8) = true)
    (a9 : PySem.W.nsIn K mainGlobals "_law_end_right" = some (some (.ref f9))) (l9 : K.lookup f9 = some ⟨oc9, od9, .func (PySem.W.fnOf "_law_end_right" "_law_end_right" (defArgs sRight) (defBody sRight) (defScope sRight) .none kV9 dc9 pm9 an9 cd9 ct9), sl9⟩) (c9 : PySem.W.codeIn K cd9 "_law_end_right" = true) (k9 : PySem.W.keepIn K (.ref f9) = true)
    (a10 : PySem.W.nsIn K mainGlobals "law" = some (some (.ref f10))) (l10 : K.lookup f10 = some ⟨oc10, od10, .func (PySem.W.fnOf "law" "law" (defArgs sLaw) (defBody sLaw) (defScope sLaw) .none kV10 dc10 pm10 an10 cd10 ct10), sl10⟩) (c10 : PySem.W.codeIn K cd10 "law" = true) (k10 : PySem.W.keepIn K (.ref f10) = true)
    (a11 : PySem.W.nsIn K mainGlobals "copied" = some (some (.ref f11))) (l11 : K.lookup f11 = some ⟨oc11, od11, .func (PySem.W.fnOf "copied" "copied" (defArgs sCopied) (defBody sCopied) (defScope sCopied) .none kV11 dc11 pm11 an11 cd11 ct11), sl11⟩) (c11 : PySem.W.codeIn K cd11 "copied" = true) (k11 : PySem.W.keepIn K (.ref f11) = true)
    (a12 : PySem.W.nsIn K mainGlobals "is_number" = some (some (.ref f12))) (l12 : K.lookup f12 = some ⟨oc12, od12, .func (PySem.W.fnOf "is_number" "is_number" (defArgs sNumber) (defBody sNumber) (defScope sNumber) .none kV12 dc12 pm12 an12 cd12 ct12), sl12⟩) (c12 : PySem.W.codeIn K cd12 "is_number" = true) (k12 : PySem.W.keepIn K (.ref f12) = true)
    (a13 : PySem.W.nsIn K mainGlobals "is_fixed" = some (some (.ref f13))) (l13 : K.lookup f13 = some ⟨oc13, od13, .func (PySem.W.fnOf "is_fixed" "is_fixed" (defArgs sFixed) (defBody sFixed) (defScope sFixed) .none kV13 dc13 pm13 an13 cd13 ct13), sl13⟩) (c13 : PySem.W.codeIn K cd13 "is_fixed" = true) (k13 : PySem.W.keepIn K (.ref f13) = true)
    (aC : PySem.W.nsIn K mainGlobals "Wire" = some (some (.ref C)))
    (a14 : PySem.W.findIn K (.ref C) "__init__" = some (some (.ref f14))) (i14 : PySem.W.isFn K (.ref f14) = true) (l14 : K.lookup f14 = some ⟨oc14, od14, .func (PySem.W.fnOf "__init__" "Wire.__init__" (defArgs sWInit) (defBody sWInit) (defScope sWInit) .none kV14 dc14 pm14 an14 cd14 ct14), sl14⟩) (c14 : PySem.W.codeIn K cd14 "Wire.__init__" = true) (k14 : PySem.W.keepIn K (.ref f14) = true)
    (a15 : PySem.W.findIn K (.ref C) "__len__" = some (some (.ref f15))) (i15 : PySem.W.isFn K (.ref f15) = true) (l15 : K.lookup f15 = some ⟨oc15, od15, .func (PySem.W.fnOf "__len__" "Wire.__len__" (defArgs sWLen) (defBody sWLen) (defScope sWLen) .none kV15 dc15 pm15 an15 cd15 ct15), sl15⟩) (c15 : PySem.W.codeIn K cd15 "Wire.__len__" = true) (k15 : PySem.W.keepIn K (.ref f15) = true)
    (a16 : PySem.W.findIn K (.ref C) "put" = some (some (.ref f16))) (i16 : PySem.W.isFn K (.ref f16) = true) (l16 : K.lookup f16 = some ⟨oc16, od16, .func (PySem.W.fnOf "put" "Wire.put" (defArgs sWPut) (defBody sWPut) (defScope sWPut) .none kV16 dc16 pm16 an16 cd16 ct16), sl16⟩) (c16 : PySem.W.codeIn K cd16 "Wire.put" = true) (k16 : PySem.W.keepIn K (.ref f16) = true)
    (a17 : PySem.W.findIn K (.ref C) "letter" = some (some (.ref f17))) (i17 : PySem.W.isFn K (.ref f17) = true) (l17 : K.lookup f17 = some ⟨oc17, od17, .func (PySem.W.fnOf "letter" "Wire.letter" (defArgs sWLetter) (defBody sWLetter) (defScope sWLetter) .none kV17 dc17 pm17 an17 cd17 ct17), sl17⟩) (c17 : PySem.W.codeIn K cd17 "Wire.letter" = true) (k17 : PySem.W.keepIn K (.ref f17) = true)
    (a18 : PySem.W.findIn K (.ref C) "take" = some (some (.ref f18))) (i18 : PySem.W.isFn K (.ref f18) = true) (l18 : K.lookup f18 = some ⟨oc18, od18, .func (PySem.W.fnOf "take" "Wire.take" (defArgs sWTake) (defBody sWTake) (defScope sWTake) .none kV18 dc18 pm18 an18 cd18 ct18), sl18⟩) (c18 : PySem.W.codeIn K cd18 "Wire.take" = true) (k18 : PySem.W.keepIn K (.ref f18) = true)
    (a19 : PySem.W.findIn K (.ref C) "heard" = some (some (.ref f19))) (i19 : PySem.W.isFn K (.ref f19) = true) (l19 : K.lookup f19 = some ⟨oc19, od19, .func (PySem.W.fnOf "heard" "Wire.heard" (defArgs sWHeard) (defBody sWHeard) (defScope sWHeard) .none kV19 dc19 pm19 an19 cd19 ct19), sl19⟩) (c19 : PySem.W.codeIn K cd19 "Wire.heard" = true) (k19 : PySem.W.keepIn K (.ref f19) = true)
    (a20 : PySem.W.findIn K (.ref C) "unheard" = some (some (.ref f20))) (i20 : PySem.W.isFn K (.ref f20) = true) (l20 : K.lookup f20 = some ⟨oc20, od20, .func (PySem.W.fnOf "unheard" "Wire.unheard" (defArgs sWUnheard) (defBody sWUnheard) (defScope sWUnheard) .none kV20 dc20 pm20 an20 cd20 ct20), sl20⟩) (c20 : PySem.W.codeIn K cd20 "Wire.unheard" = true) (k20 : PySem.W.keepIn K (.ref f20) = true)
    (a21 : PySem.W.findIn K (.ref C) "_can_take" = some (some (.ref f21))) (i21 : PySem.W.isFn K (.ref f21) = true) (l21 : K.lookup f21 = some ⟨oc21, od21, .func (PySem.W.fnOf "_can_take" "Wire._can_take" (defArgs sWCan) (defBody sWCan) (defScope sWCan) .none kV21 dc21 pm21 an21 cd21 ct21), sl21⟩) (c21 : PySem.W.codeIn K cd21 "Wire._can_take" = true) (k21 : PySem.W.keepIn K (.ref f21) = true)
    (pg : PySem.W.plainGet K C Str.empty = true) (hd : PySem.W.hasDictIn K C = true) (po : PySem.W.plainOver K C = true) (sa : PySem.W.findIn K (.ref C) "__setattr__" = some (some (.builtin "object.__setattr__"))) (mk : PySem.W.makesIn K C = true) (kc : PySem.W.keepIn K (.ref C) = true)
    (nR : PySem.W.findIn K (.ref C) "_rows" = some none) (nK : PySem.W.findIn K (.ref C) "_many" = some none) (nT : PySem.W.findIn K (.ref C) "_taken" = some none)
    (aW : PySem.W.nsIn K mainGlobals "WORD" = some (some (.str "rows" tW)))
    (z_len : PySem.W.nsIn K mainGlobals "len" = some none) (z_abs : PySem.W.nsIn K mainGlobals "abs" = some none) (z_list : PySem.W.nsIn K mainGlobals "list" = some none) (z_tuple : PySem.W.nsIn K mainGlobals "tuple" = some none) (z_dict : PySem.W.nsIn K mainGlobals "dict" = some none) (z_range : PySem.W.nsIn K mainGlobals "range" = some none) (z_int : PySem.W.nsIn K mainGlobals "int" = some none) (z_max : PySem.W.nsIn K mainGlobals "max" = some none) (z_sorted : PySem.W.nsIn K mainGlobals "sorted" = some none) (z_repr : PySem.W.nsIn K mainGlobals "repr" = some none) (z_isinstance : PySem.W.nsIn K mainGlobals "isinstance" = some none) (z_bool : PySem.W.nsIn K mainGlobals "bool" = some none) (z_all : PySem.W.nsIn K mainGlobals "all" = some none) :
    ∃ fd : FuncData, (∀ (s : Shared) (v : Value), BindsTo s fd ⟨[v], []⟩ [("_law_script", v)]) ∧ ∀ base : Heap, K.In base → base.Ns mainGlobals mg → FnG l.prog w K mg base CX0 12 fa fd ["_law_script"] (spLaw K) := by
  have e := hfa.symm.trans (PySem.W.mg_of X G a10)
  cases e
  have T : Txt mg := ⟨PySem.W.mg_none_of X G z_len, PySem.W.mg_none_of X G z_abs, PySem.W.mg_none_of X G z_list, PySem.W.mg_none_of X G z_tuple, PySem.W.mg_none_of X G z_dict, PySem.W.mg_none_of X G z_range, PySem.W.mg_none_of X G z_int, PySem.W.mg_none_of X G z_max, PySem.W.mg_none_of X G z_sorted, PySem.W.mg_none_of X G z_repr, PySem.W.mg_none_of X G z_isinstance⟩
  have TW : WTxt K mg C := ⟨⟨pg, hd, po, sa⟩, nR, nK, nT⟩
  have F1 := fun_mk (st := sPen) l1 c1 k1
  have b1 := F1.binds (ps := ["_law_script"]) fun _ _ _ _ _ _ us hl => match us, hl with | [_], _ => rfl
  have F2 := fun_mk (st := sDraw) l2 c2 k2
  have b2 := F2.binds (ps := ["_law_pen_here", "_law_many"]) fun _ _ _ _ _ _ us hl => match us, hl with | [_, _], _ => rfl
  have F3 := fun_mk (st := sPick) l3 c3 k3
  have b3 := F3.binds (ps := ["_law_pen_here", "_law_some"]) fun _ _ _ _ _ _ us hl => match us, hl with | [_, _], _ => rfl
  have F4 := fun_mk (st := sPlain) l4 c4 k4
  have b4 := F4.binds (ps := ["_law_pen_here"]) fun _ _ _ _ _ _ us hl => match us, hl with | [_], _ => rfl
  have F5 := fun_mk (st := sRow) l5 c5 k5
  have b5 := F5.binds (ps := ["_law_pen_here"]) fun _ _ _ _ _ _ us hl => match us, hl with | [_], _ => rfl
  have F6 := fun_mk (st := sEnd) l6 c6 k6
  have b6 := F6.binds (ps := []) fun _ _ _ _ _ _ us hl => match us, hl with | [], _ => rfl
  have F7 := fun_mk (st := sLetOf) l7 c7 k7
  have b7 := F7.binds (ps := ["_law_end_here"]) fun _ _ _ _ _ _ us hl => match us, hl with | [_], _ => rfl
  have F8 := fun_mk (st := sFresh) l8 c8 k8
  have b8 := F8.binds (ps := ["_law_end_here", "_law_letter"]) fun _ _ _ _ _ _ us hl => match us, hl with | [_, _], _ => rfl
  have F9 := fun_mk (st := sRight) l9 c9 k9
  have b9 := F9.binds (ps := ["_law_wire", "_law_end_here"]) fun _ _ _ _ _ _ us hl => match us, hl with | [_, _], _ => rfl
  have F10 := fun_mk (st := sLaw) l10 c10 k10
  have F11 := fun_mk (st := sCopied) l11 c11 k11
  have b11 := F11.binds (ps := ["thing"]) fun _ _ _ _ _ _ us hl => match us, hl with | [_], _ => rfl
  have F12 := fun_mk (st := sNumber) l12 c12 k12
  have b12 := F12.binds (ps := ["thing"]) fun _ _ _ _ _ _ us hl => match us, hl with | [_], _ => rfl
  have F13 := fun_mk (st := sFixed) l13 c13 k13
  have b13 := F13.binds (ps := ["thing"]) fun _ _ _ _ _ _ us hl => match us, hl with | [_], _ => rfl
  have F14 := fun_mk (st := sWInit) l14 c14 k14
  have b14 := F14.binds (ps := ["self"]) fun _ _ _ _ _ _ us hl => match us, hl with | [_], _ => rfl
  have F15 := fun_mk (st := sWLen) l15 c15 k15
  have b15 := F15.binds (ps := ["self"]) fun _ _ _ _ _ _ us hl => match us, hl with | [_], _ => rfl
  have F16 := fun_mk (st := sWPut) l16 c16 k16
  have b16 := F16.binds (ps := ["self", "row"]) fun _ _ _ _ _ _ us hl => match us, hl with | [_, _], _ => rfl
  have F17 := fun_mk (st := sWLetter) l17 c17 k17
  have b17 := F17.binds (ps := ["self"]) fun _ _ _ _ _ _ us hl => match us, hl with | [_], _ => rfl
  have F18 := fun_mk (st := sWTake) l18 c18 k18
  have b18 := F18.binds (ps := ["self", "letter"]) fun _ _ _ _ _ _ us hl => match us, hl with | [_, _], _ => rfl
  have F19 := fun_mk (st := sWHeard) l19 c19 k19
  have b19 := F19.binds (ps := ["self"]) fun _ _ _ _ _ _ us hl => match us, hl with | [_], _ => rfl
  have F20 := fun_mk (st := sWUnheard) l20 c20 k20
  have b20 := F20.binds (ps := ["self"]) fun _ _ _ _ _ _ us hl => match us, hl with | [_], _ => rfl
  have F21 := fun_mk (st := sWCan) l21 c21 k21
  have b21 := F21.binds (ps := ["self", "letter"]) fun _ _ _ _ _ _ us hl => match us, hl with | [_, _], _ => rfl
  refine ⟨PySem.W.fnOf "law" "law" (defArgs sLaw) (defBody sLaw) (defScope sLaw) .none kV10 dc10 pm10 an10 cd10 ct10, fun s v => .of_eq rfl, fun base hb hn => ?_⟩
  have C1 : Cal l.prog w K mg base "_law_pen" 1 ["_law_script"] (spPen K) := ⟨_, _, PySem.W.mg_of X G a1, k1, b1, ok_pen F1 T⟩
  have C2 : Cal l.prog w K mg base "_law_draw" 1 ["_law_pen_here", "_law_many"] spDraw := ⟨_, _, PySem.W.mg_of X G a2, k2, b2, ok_draw F2 T⟩
  have C3 : Cal l.prog w K mg base "_law_pick" 2 ["_law_pen_here", "_law_some"] spPick := ⟨_, _, PySem.W.mg_of X G a3, k3, b3, ok_pick F3 T C2⟩
  have C4 : Cal l.prog w K mg base "_law_plain" 3 ["_law_pen_here"] spPlain := ⟨_, _, PySem.W.mg_of X G a4, k4, b4, ok_plain F4 T C2 C3⟩
  have C5 : Cal l.prog w K mg base "_law_row_of" 4 ["_law_pen_here"] spRow := ⟨_, _, PySem.W.mg_of X G a5, k5, b5, ok_row F5 T C2 C4⟩
  have C6 : Cal l.prog w K mg base "_law_end" 1 [] spEnd := ⟨_, _, PySem.W.mg_of X G a6, k6, b6, ok_end F6⟩
  have C7 : Cal l.prog w K mg base "_law_letter_of" 1 ["_law_end_here"] spLetOf := ⟨_, _, PySem.W.mg_of X G a7, k7, b7, ok_letOf F7 T⟩
  have C8' : Cal l.prog w K mg base "_law_fresh_by" 1 ["_law_end_here", "_law_letter"] spFresh := ⟨_, _, PySem.W.mg_of X G a8, k8, b8, ok_fresh F8 T⟩
  have mW : ∃ t, mg "WORD" = some (.str "rows" t) := ⟨_, PySem.W.mg_of X G aW⟩
  have za := PySem.W.mg_none_of X G z_all
  have mc := PySem.W.mg_of X G a11
  have Gc : FnOk l.prog w K mg base CX0 5 f11 _ ["thing"] (spCopied 4) := ok_copied F11 T mc b11 4
  have Gx : FnOk l.prog w K mg base CX0 5 f13 _ ["thing"] (spFixed 4) := ok_fixed F13 T za (PySem.W.mg_of X G a13) b13 4
  have Gn : FnOk l.prog w K mg base CX0 1 f12 _ ["thing"] spNumber := ok_number F12 T (PySem.W.mg_none_of X G z_bool)
  have Gi := ok_wcan (P := l.prog) (w := w) (base := base) (C := C) F21 TW T za mW (PySem.W.mg_of X G a12) k12 b12 Gn
  have Gu := ok_wunheard (P := l.prog) (w := w) (base := base) (C := C) F20 TW mc k11 b11 Gc
  have hW : Wires (wk C) l.prog w K mg base 9 :=
    { cls := TW.cl
      glob := PySem.W.mg_of X G aC
      new := ⟨_, _, _, ⟨mk, a14, i14, kc⟩, b14, (ok_winit F14 TW).mono (by decide)⟩
      put := ⟨_, _, _, ⟨a16, i16, k16⟩, b16, (ok_wput F16 TW mc k11 b11 Gc (PySem.W.mg_of X G a13) k13 b13 Gx).mono (by decide)⟩
      letter := ⟨_, _, _, ⟨a17, i17, k17⟩, b17, (ok_wletter F17 TW T mW ⟨a20, i20, k20⟩ b20 Gu).mono (by decide)⟩
      take := ⟨_, _, _, ⟨a18, i18, k18⟩, b18, (ok_wtake F18 TW T ⟨a21, i21, k21⟩ b21 Gi mc k11 b11 Gc).mono (by decide)⟩
      heard := ⟨_, _, _, ⟨a19, i19, k19⟩, b19, (ok_wheard F19 TW).mono (by decide)⟩
      unheard := ⟨_, _, _, ⟨a20, i20, k20⟩, b20, Gu.mono (by decide)⟩
      len := ⟨_, _, _, a15, i15, b15, (ok_wlen F15 TW T).mono (by decide)⟩ }
  exact ok_law F10 T hW C1 C2 C3 C5 C6 C8' ⟨_, _, PySem.W.mg_of X G a9, k9, b9, ok_right F9 T hW C7⟩
theorem walk {l : PySem.W.OpenLaw} {q : Program} {loose : List Str} {XP : (Str → Option Value) → Heap → Prop} {YP : World → Heap → Prop} {d : DefRec} {K : Params → PySem.W.Frag} (hn : l.most = some 63) (hd : d.params.defaults = [])
    (hY : ∀ (w : World) (h : Heap), YP w h → (K w.params).In h)
    (F : ∀ (w : World) (mg : Str → Option Value) (fa : Addr) (h : Heap), (K w.params).In h → h.Ns mainGlobals mg → mg d.name = some (.ref fa) → ∃ fd : FuncData, (∀ (s : Shared) (u : Value), BindsTo s fd ⟨[u], []⟩ [("_law_script", u)]) ∧
      ∀ b : Heap, (K w.params).In b → b.Ns mainGlobals mg → FnG l.prog w (K w.params) mg b CX0 12 fa fd ["_law_script"] (spLaw (K w.params))) :
    PySem.W.WalkO q loose XP YP l.row.toRowW d [] (fun f vs => PySem.call f vs) :=
  walk_ofG (n := 63) (k := 12) (x := "_law_script") (sp := fun K => spLaw K) hn (by decide) hd ⟨rfl, by decide, by decide⟩ hY F (fun _ _ a ns hl _ hS => ⟨a, ns, rfl, hS, hl, fun _ => rfl⟩)
end K3
open PySem PySem.W PyProof.Rows in
set_option maxRecDepth 100000 in
set_option maxHeartbeats 0 in
theorem PySem.Challenge.cw_farcalls_k25_wires_step_by_step_holds : PySem.Challenge.rw_farcalls_k25_wires_step_by_step.Holds := by
  w_on; o_law; k_head; (case hw => w_witness2)
  k_fill
  refine K3.walk (l := PySem.Challenge.rw_farcalls_k25_wires_step_by_step) rfl rfl (fun w h Y => PySem.W.kIn_of Y) ?F
  case F =>
    intro w mg fa h KX G hmg
    refine' K3.all_mk KX G hmg ?a1 ?l1 ?c1 ?k1 ?a2 ?l2 ?c2 ?k2 ?a3 ?l3 ?c3 ?k3 ?a4 ?l4 ?c4 ?k4 ?a5 ?l5 ?c5 ?k5 ?a6 ?l6 ?c6 ?k6 ?a7 ?l7 ?c7 ?k7 ?a8 ?l8 ?c8 ?k8 ?a9 ?l9 ?c9 ?k9 ?a10 ?l10 ?c10 ?k10 ?a11 ?l11 ?c11 ?k11 ?a12 ?l12 ?c12 ?k12 ?a13 ?l13 ?c13 ?k13 ?aC ?a14 ?i14 ?l14 ?c14 ?k14 ?a15 ?i15 ?l15 ?c15 ?k15 ?a16 ?i16 ?l16 ?c16 ?k16 ?a17 ?i17 ?l17 ?c17 ?k17 ?a18 ?i18 ?l18 ?c18 ?k18 ?a19 ?i19 ?l19 ?c19 ?k19 ?a20 ?i20 ?l20 ?c20 ?k20 ?a21 ?i21 ?l21 ?c21 ?k21 ?pg ?hd ?po ?sa ?mk ?kc ?nR ?nK ?nT ?aW ?z_len ?z_abs ?z_list ?z_tuple ?z_dict ?z_range ?z_int ?z_max ?z_sorted ?z_repr ?z_isinstance ?z_bool ?z_all
    (case a1 => k_is)
    (case l1 => k_is)
    (case c1 => k_is)
    (case k1 => k_is)
    (case a2 => k_is)
    (case l2 => k_is)
    (case c2 => k_is)
    (case k2 => k_is)
    (case a3 => k_is)
    (case l3 => k_is)
    (case c3 => k_is)
    (case k3 => k_is)
    (case a4 => k_is)
    (case l4 => k_is)
    (case c4 => k_is)
    (case k4 => k_is)
    (case a5 => k_is)
    (case l5 => k_is)
    (case c5 => k_is)
    (case k5 => k_is)
    (case a6 => k_is)
    (case l6 => k_is)
    (case c6 => k_is)
    (case k6 => k_is)
    (case a7 => k_is)
    (case l7 => k_is)
    (case c7 => k_is)
    (case k7 => k_is)
    (case a8 => k_is)
    (case l8 => k_is)
    (case c8 => k_is)
    (case k8 => k_is)
    (case a9 => k_is)
    (case l9 => k_is)
    (case c9 => k_is)
    (case k9 => k_is)
    (case a10 => k_is)
    (case l10 => k_is)
    (case c10 => k_is)
    (case k10 => k_is)
    (case a11 => k_is)
    (case l11 => k_is)
    (case c11 => k_is)
    (case k11 => k_is)
    (case a12 => k_is)
    (case l12 => k_is)
    (case c12 => k_is)
    (case k12 => k_is)
    (case a13 => k_is)
    (case l13 => k_is)
    (case c13 => k_is)
    (case k13 => k_is)
    (case aC => k_is)
    (case a14 => k_is)
    (case i14 => k_is)
    (case l14 => k_is)
    (case c14 => k_is)
    (case k14 => k_is)
    (case a15 => k_is)
    (case i15 => k_is)
    (case l15 => k_is)
    (case c15 => k_is)
    (case k15 => k_is)
    (case a16 => k_is)
    (case i16 => k_is)
    (case l16 => k_is)
    (case c16 => k_is)
    (case k16 => k_is)
    (case a17 => k_is)
    (case i17 => k_is)
    (case l17 => k_is)
    (case c17 => k_is)
    (case k17 => k_is)
    (case a18 => k_is)
    (case i18 => k_is)
    (case l18 => k_is)
    (case c18 => k_is)
    (case k18 => k_is)
    (case a19 => k_is)
    (case i19 => k_is)
    (case l19 => k_is)
    (case c19 => k_is)
    (case k19 => k_is)
    (case a20 => k_is)
    (case i20 => k_is)
    (case l20 => k_is)
    (case c20 => k_is)
    (case k20 => k_is)
    (case a21 => k_is)
    (case i21 => k_is)
    (case l21 => k_is)
    (case c21 => k_is)
    (case k21 => k_is)
    (case pg => k_is)
    (case hd => k_is)
    (case po => k_is)
    (case sa => k_is)
    (case mk => k_is)
    (case kc => k_is)
    (case nR => k_is)
    (case nK => k_is)
    (case nT => k_is)
    (case aW => k_is)
    (case z_len => k_is)
    (case z_abs => k_is)
    (case z_list => k_is)
    (case z_tuple => k_is)
    (case z_dict => k_is)
    (case z_range => k_is)
    (case z_int => k_is)
    (case z_max => k_is)
    (case z_sorted => k_is)
    (case z_repr => k_is)
    (case z_isinstance => k_is)
    (case z_bool => k_is)
    (case z_all => k_is)
