import PyProof.Rows.All
import Wide.All
import OpenK.AllK
import Wide.FinOn
import HandS.ForMost
import HandS.Wide
import HandS.Style
import HandS.Codes
import HandS.Conv
import HandS.OwnEq
import HandS.TupAny
import HandS.Flow
import HandS.IsInst
import HandS.Deep
import PySem.Challenge.RW_farcalls_k29_whole_rows_handed_on
set_option Elab.async false
set_option maxRecDepth 100000
set_option maxHeartbeats 4000000
namespace K3
open PySem L2
def top (i : Nat) : Stmt := PySem.Challenge.pw_farcalls_k29_whole_rows_handed_on.main.body.getD i (.Pass ⟨0, 0, 0, 0⟩)
abbrev sPen : Stmt := top 10
abbrev sDraw : Stmt := top 11
abbrev sPick : Stmt := top 12
/-! ### frames -/
/-- all that stood stands as it stood, but at M -/
def But (M : Addr → Prop) (H H' : Hp) : Prop := ∀ b o, ¬ M b → H b = some o → H' b = some o
theorem But.refl (M : Addr → Prop) (H : Hp) : But M H H := fun _ _ _ h => h
theorem But.trans {M : Addr → Prop} {H H1 H2 : Hp} (a : But M H H1) (b : But M H1 H2) : But M H H2 := fun c o m h => b c o m (a c o m h)
theorem But.new {M : Addr → Prop} {H H' : Hp} (a : But M H H') {p : Addr} {o : HO} (h : H' p = none) : But M H (upd H' p o) := fun c u m e => by
  have e1 := a c u m e
  rw [upd_ne (ne_of_none e1 h)]
  exact e1
theorem But.mut {M : Addr → Prop} {H H' : Hp} (a : But M H H') {p : Addr} {o : HO} (h : M p) : But M H (upd H' p o) := fun c u m e => by
  have e1 := a c u m e
  rw [upd_ne (fun z => m (by rw [z]; exact h))]
  exact e1
theorem But.mono {M N : Addr → Prop} {H H' : Hp} (a : But M H H') (h : ∀ b, M b → N b) : But N H H' := fun c o m e => a c o (fun z => m (h c z)) e
/-- what was new and is not M is new or .. (used for new objects made on the way) -/
theorem But.mutNew {M : Addr → Prop} {H H' : Hp} (a : But M H H') {p : Addr} {o : HO} (h : H p = none) : But M H (upd H' p o) := fun c u m e => by
  have e1 := a c u m e
  rw [upd_ne (ne_of_none e h)]
  exact e1
theorem But.free {M : Addr → Prop} {H H' : Hp} (a : But M H H') {l : Addr} (h : H' l = none) (n : ¬ M l) : H l = none := by
  cases q : H l with
  | none => rfl
  | some o =>
    rw [a l o n q] at h
    cases h
/-! ### the pen -/
def penK (c : Addr) (at' lf : Int) : List (Key × V) := [(Sum.inr "cells", .ref c), (Sum.inr "at", .int at'), (Sum.inr "left", .int lf)]
/-- the pen at p, its cells the list at c; at most n were begun -/
def Pen (H : Hp) (p c : Addr) (ns : List Int) (n : Nat) : Prop :=
  ∃ at' lf : Int, 0 ≤ at' ∧ at' ≤ (n : Int) ∧ 0 ≤ lf ∧ H p = some (.dK (penK c at' lf)) ∧ H c = some (.lst (ns.map V.int)) ∧ ns.length ≤ 63
theorem pen_cells (c : Addr) (a l : Int) : valV (penK c a l) (Sum.inr "cells") = some (.ref c) := rfl
theorem pen_at (c : Addr) (a l : Int) : valV (penK c a l) (Sum.inr "at") = some (.int a) := rfl
theorem pen_left (c : Addr) (a l : Int) : valV (penK c a l) (Sum.inr "left") = some (.int l) := rfl
theorem pen_put_at (c : Addr) (a l b : Int) : putK (penK c a l) (Sum.inr "at") (.int b) = penK c b l := rfl
theorem pen_put_left (c : Addr) (a l b : Int) : putK (penK c a l) (Sum.inr "left") (.int b) = penK c a b := rfl
theorem pen_gl {H : Hp} {p c : Addr} {a l : Int} (h : H p = some (.dK (penK c a l))) : DGet H p (.str "left") (some (.int l)) := DGet.k (k := Sum.inr "left") h
theorem pen_ga {H : Hp} {p c : Addr} {a l : Int} (h : H p = some (.dK (penK c a l))) : DGet H p (.str "at") (some (.int a)) := DGet.k (k := Sum.inr "at") h
theorem pen_gc {H : Hp} {p c : Addr} {a l : Int} (h : H p = some (.dK (penK c a l))) : DGet H p (.str "cells") (some (.ref c)) := DGet.k (k := Sum.inr "cells") h
theorem pen_pl {H : Hp} {p c : Addr} {a l b : Int} (h : H p = some (.dK (penK c a l))) : DPut H p (.str "left") (.int b) (upd H p (.dK (penK c a b))) := DPut.k (k := Sum.inr "left") h (by show 3 < sizeLine; decide)
theorem pen_pa {H : Hp} {p c : Addr} {a l b : Int} (h : H p = some (.dK (penK c a l))) : DPut H p (.str "at") (.int b) (upd H p (.dK (penK c b l))) := DPut.k (k := Sum.inr "at") h (by show 3 < sizeLine; decide)
theorem dp_ints {K : PySem.W.Frag} {H : Hp} : ∀ ns : List Int, DpAll K H (ns.map V.int) (ns.map PyData.int)
  | [] => .nil
  | n :: r => .cons (.int n) (dp_ints r)
theorem lay_ints : ∀ ns : List Int, PyData.canLayAll0 (ns.map PyData.int) = true ∧ PyData.depthAll (ns.map PyData.int) ≤ 1
  | [] => ⟨rfl, Nat.zero_le _⟩
  | n :: r => by
    obtain ⟨a, b⟩ := lay_ints r
    simp only [List.map_cons, PyData.canLayAll0, PyData.canLay0, PyData.depthAll, PyData.depth, a, Bool.and_self, true_and]
    omega
theorem shaped_ints (ns : List Int) : SeqAt.shaped (.list (ns.map PyData.int)) = true := by
  obtain ⟨a, b⟩ := lay_ints ns
  unfold SeqAt.shaped
  simp only [PyData.canLay0, PyData.depth, a, Bool.true_and]
  exact decide_eq_true (by omega)
theorem eqv_ints (ns : List Int) : PyData.eqv (.list (ns.map PyData.int)) (.list []) = ns.isEmpty := by
  cases ns <;> rfl
theorem atI_int {α : Type} {xs : List α} {i : Int} {v : α} (h0 : 0 ≤ i) (h : xs[i.toNat]? = some v) : atI xs i = some v := by
  have e : ((i.toNat : Nat) : Int) = i := Int.toNat_of_nonneg h0
  rw [← e]
  exact atI_nat h
theorem get_map_int {ns : List Int} {j : Nat} (h : j < ns.length) : (ns.map V.int)[j]? = some (V.int ns[j]) := by
  rw [List.getElem?_map, List.getElem?_eq_getElem h]
  rfl
structure Txt (mg : Str → Option Value) : Prop where
  len : mg "len" = none
  abs : mg "abs" = none
  list : mg "list" = none
  tuple : mg "tuple" = none
  dict : mg "dict" = none
  range : mg "range" = none
  int : mg "int" = none
  max : mg "max" = none
  sorted : mg "sorted" = none
  repr : mg "repr" = none
  isinstance : mg "isinstance" = none
def spDraw : Sp := fun vs H Q _ => ∃ (p c : Addr) (ns : List Int) (n : Nat) (m : Int), vs = [.ref p, .int m] ∧ Pen H p c ns n ∧ n ≤ 1000000000 ∧ 1 ≤ m ∧ m ≤ 1000000 ∧
  ∀ (r : Int) (H' : Hp), 0 ≤ r → r < m → Pen H' p c ns (n + 1) → But (· = p) H H' → Q (.int r) H'
end K3
namespace K3
open PySem L2
section
variable {P : Program} {w : World} {K : PySem.W.Frag} {mg : Str → Option Value} {base : Heap}
theorem scD : FnScope ["_law_pen_here", "_law_many", "_law_digit", "_law_at", "_law_cell", "_law_number"] ["_law_pen_here", "_law_many"] (defScope sDraw) := ⟨rfl, rfl, rfl, by decide +kernel, rfl, by decide +kernel, by decide +kernel⟩
theorem ok_draw {f : Addr} {fd : FuncData} (F : Fun K "_law_draw" "_law_draw" sDraw f fd) (T : Txt mg) : FnOk P w K mg base CX0 1 f fd ["_law_pen_here", "_law_many"] spDraw := by
  refine F.ok scD (fun vs H Q E h => ?_) (fun cdv A outer s H vs Q E hr h => ?_)
  · obtain ⟨p, c, ns, n, m, rfl, _⟩ := h
    rfl
  · obtain ⟨p, c, ns, n, m, rfl, ⟨at', lf, a0, a1, l0, hp, hc, h63⟩, hn, m1, m2, k⟩ := h
    have hu := hu_of hr
    refine ⟨_, pss_cons (ps_if (pt_cmpR op_gt (pe_dget hu (pv 0) pe_str (fun _ _ => rfl)) pe_int (nomark _))
        (pss_cons (ps_set (i := 2) scD.nd rfl (.inl rfl) (pe_op op_modN (pe_dget hu (pv 0) pe_str (fun _ _ => rfl)) (pv 1)))
        (pss_cons (ps_dput hu (pv 0) pe_str (pe_op op_fdivN (pe_dget hu (pv 0) pe_str (fun _ _ => rfl)) (pv 1)) rfl)
        (pss_one (ps_ret (pv 2))))) pss_nil)
      (pss_cons (ps_set (i := 3) scD.nd rfl (.inl rfl) (pe_dget hu (pv 0) pe_str (fun _ _ => rfl)))
      (pss_cons (ps_dput hu (pv 0) pe_str (pe_op op_add (pv 3) pe_int) rfl)
      (pss_cons (ps_set (i := 4) scD.nd rfl (.inl rfl) pe_int)
      (C8.pss_cut (ps_if (pt_cmpR (op_neD hr.units) (pe_dget hu (pv 0) pe_str (fun _ _ => rfl)) (pe_lst pa_nil) (nomark _))
        (pss_one (ps_set (i := 4) scD.nd rfl (.inl rfl) (pe_ix ix_list (pe_dget hu (pv 0) pe_str (fun _ _ => rfl)) (pe_op op_modN (pv 3) (pe_callB call_len_seq (by rfl) T.len PySem.boot_len (pa_cons (pe_dget hu (pv 0) pe_str (fun _ _ => rfl)) pa_nil))) (fun _ _ => rfl)))) pss_nil)
      (C8.pss_cut (ps_if (PW.pt (pw_and (pt_cmpR op_lt (pv 3) (pe_callB call_len_seq (by rfl) T.len PySem.boot_len (pa_cons (pe_dget hu (pv 0) pe_str (fun _ _ => rfl)) pa_nil)) (nomark _)) (pw_and1 (pt_cmpR op_ge (pe_callB call_abs (by rfl) T.abs (by decide +kernel) (pa_cons (pv 4) pa_nil)) (pe_op op_pow pe_int pe_int) (nomark _)))))
        (pss_cons (ps_dput hu (pv 0) pe_str (pe_op op_fdivN (pe_op op_sub (pe_callB call_abs (by rfl) T.abs (by decide +kernel) (pa_cons (pv 4) pa_nil)) (pe_op op_pow pe_int pe_int)) (pv 1)) rfl)
        (pss_one (ps_ret (pe_op op_modN (pe_op op_sub (pe_callB call_abs (by rfl) T.abs (by decide +kernel) (pa_cons (pv 4) pa_nil)) (pe_op op_pow pe_int pe_int)) (pv 1))))) pss_nil)
      (pss_cons (ps_set (i := 5) scD.nd rfl (.inl rfl) (pe_op op_add (pe_op op_add (pe_op op_add (pe_op op_modN (pv 4) pe_int) (pe_op op_mul (pe_op op_mul pe_int (pv 3)) (pv 3))) (pe_op op_mul pe_int (pv 3))) pe_int))
      (C8.pss_cut (ps_set (i := 5) scD.nd rfl (.inl rfl) (pe_op op_modN (pe_op op_mul (pv 5) pe_int) pe_int))
      (C8.pss_cut (ps_set (i := 5) scD.nd rfl (.inl rfl) (pe_op op_modN (pe_op op_add (pe_op op_add (pe_op op_mul (pv 5) (pv 5)) (pe_op op_mul pe_int (pv 5))) (pv 3)) pe_int))
      (pss_one (ps_ret (pe_op op_modN (pe_op op_fdivN (pe_op op_modN (pe_op op_mul (pv 5) (pe_op op_add (pv 5) pe_int)) pe_int) pe_int) (pv 1)))))))))))), ?_⟩
    have npc : p ≠ c := ne_of hp hc (by intro z; cases z)
    have nm : m ≠ 0 := by omega
    have dm : CDivN 0 m := ⟨nm, by omega⟩
    refine ⟨_, rfl, p, _, rfl, pen_gl hp, lf, 0, rfl, rfl, _, rfl, ?_⟩
    refine ite2 (fun hl => ?_) (fun hl => ?_)
    · -- a great one's next digit
      refine ⟨_, rfl, p, _, rfl, pen_gl hp, _, rfl, _, _, rfl, rfl, nm, ?_⟩
      refine ⟨_, rfl, p, _, rfl, pen_gl hp, _, rfl, _, _, rfl, rfl, dm, _, rfl, p, _, rfl, pen_pl hp, ?_⟩
      refine ⟨_, rfl, ?_⟩
      refine k _ _ (Int.fmod_nonneg_of_pos _ (by omega)) (Int.fmod_lt_of_pos _ (by omega)) ⟨at', _, a0, by omega, ?_, upd_same, by rw [upd_ne npc.symm]; exact hc, h63⟩ ((But.refl _ H).mut rfl)
      rw [Int.fdiv_eq_ediv_of_nonneg _ (by omega)]
      exact Int.ediv_nonneg l0 (by omega)
    · -- the cell, mixed
      refine ⟨_, rfl, p, _, rfl, pen_ga hp, ?_⟩
      refine ⟨_, rfl, _, _, rfl, rfl, _, rfl, p, _, rfl, pen_pa hp, ?_⟩
      have hp1 : upd H p (HO.dK (penK c (at' + 1) lf)) p = some (.dK (penK c (at' + 1) lf)) := upd_same
      have hc1 : upd H p (HO.dK (penK c (at' + 1) lf)) c = some (.lst (ns.map V.int)) := by rw [upd_ne npc.symm]; exact hc
      have b1 : But (· = p) H (upd H p (HO.dK (penK c (at' + 1) lf))) := (But.refl _ H).mut rfl
      generalize upd H p (HO.dK (penK c (at' + 1) lf)) = H1 at hp1 hc1 b1 ⊢
      refine ⟨fun σ' H' => (∃ cell : Int, σ' = [some (.ref p), some (.int m), none, some (.int at'), some (.int cell), none]) ∧ H' p = some (.dK (penK c (at' + 1) lf)) ∧ H' c = some (.lst (ns.map V.int)) ∧ But (· = p) H H', ?_, ?_⟩
      · refine ⟨_, rfl, p, _, rfl, pen_gc hp1, Nat.zero_le _, fun l hl => ?_⟩
        have hp2 : upd H1 l (.lst []) p = some (.dK (penK c (at' + 1) lf)) := by rw [upd_ne (ne_of_none hp1 hl)]; exact hp1
        have hc2 : upd H1 l (.lst []) c = some (.lst (ns.map V.int)) := by rw [upd_ne (ne_of_none hc1 hl)]; exact hc1
        have hl2 : upd H1 l (.lst []) l = some (.lst []) := upd_same
        have b2 : But (· = p) H (upd H1 l (.lst [])) := b1.new hl
        generalize upd H1 l (.lst []) = H2 at hp2 hc2 hl2 b2 ⊢
        refine ⟨_, _, .lst (SqL.of hc2) (dp_ints ns), .lst (SqL.of hl2) .nil, shaped_ints ns, by decide +kernel, _, rfl, ?_⟩
        rw [eqv_ints]
        cases he : ns.isEmpty with
        | true => exact iteF ⟨⟨_, rfl⟩, hp2, hc2, b2⟩
        | false =>
          have hlen : 1 ≤ ns.length := by
            cases ns with
            | nil => cases he
            | cons _ _ => exact Nat.le_add_left _ _
          have hm1 := Int.fmod_nonneg_of_pos at' (b := ((ns.map V.int).length : Int)) (by rw [List.length_map]; omega)
          have hm2 := Int.fmod_lt_of_pos at' (b := ((ns.map V.int).length : Int)) (by rw [List.length_map]; omega)
          have hidx : (at'.fmod ((ns.map V.int).length : Int)).toNat < ns.length := by rw [List.length_map] at hm1 hm2 ⊢; omega
          have hat := atI_int hm1 (get_map_int hidx)
          refine iteT ?_
          refine ⟨_, rfl, p, _, rfl, pen_gc hp2, _, rfl, _, rfl, p, _, rfl, pen_gc hp2, c, _, rfl, .inl (SqL.of hc2), _, _, rfl, rfl, (by rw [List.length_map]; omega), c, _, _, _, rfl, rfl, SqL.of hc2, hat, ?_⟩
          exact ⟨⟨_, rfl⟩, hp2, hc2, b2⟩
      · rintro σ' H2 ⟨⟨cell, rfl⟩, hp2, hc2, b2⟩
        have ab : ∀ x : Int, 0 ≤ (if x < 0 then -x else x) := fun x => by split <;> omega
        refine ⟨fun σ' H' => σ' = [some (.ref p), some (.int m), none, some (.int at'), some (.int cell), none] ∧ H' p = some (.dK (penK c (at' + 1) lf)) ∧ H' c = some (.lst (ns.map V.int)) ∧ But (· = p) H H', ?_, ?_⟩
        · refine ⟨_, rfl, _, rfl, p, _, rfl, pen_gc hp2, c, _, rfl, .inl (SqL.of hc2), _, _, rfl, rfl, _, rfl, ?_⟩
          refine ite2 (fun ha => ?_) (fun ha => ?_)
          · refine ⟨_, rfl, _, rfl, _, _, rfl, rfl, ⟨by decide, by decide, by decide⟩, _, _, rfl, rfl, _, rfl, ?_⟩
            refine ite2 (fun hg => ?_) (fun hg => ?_)
            · have hge : (10 : Int) ^ (Int.toNat 18) ≤ (if cell < 0 then -cell else cell) := of_decide_eq_true hg
              refine ⟨_, rfl, _, rfl, _, _, rfl, rfl, ⟨by decide, by decide, by decide⟩, _, _, rfl, rfl, _, rfl, _, _, rfl, rfl, dm, _, rfl, p, _, rfl, pen_pl hp2, ?_⟩
              refine ⟨_, rfl, _, rfl, _, _, rfl, rfl, ⟨by decide, by decide, by decide⟩, _, _, rfl, rfl, _, rfl, _, _, rfl, rfl, nm, ?_⟩
              refine k _ _ (Int.fmod_nonneg_of_pos _ (by omega)) (Int.fmod_lt_of_pos _ (by omega)) ⟨at' + 1, _, by omega, by omega, ?_, upd_same, by rw [upd_ne npc.symm]; exact hc2, h63⟩ (b2.mut rfl)
              rw [Int.fdiv_eq_ediv_of_nonneg _ (by omega)]
              exact Int.ediv_nonneg (by omega) (by omega)
            · exact ⟨rfl, hp2, hc2, b2⟩
          · exact ⟨rfl, hp2, hc2, b2⟩
        · rintro σ' H3 ⟨rfl, hp3, hc3, b3⟩
          have sq : 0 ≤ at' * at' := Int.mul_nonneg a0 a0
          have at9 : at' ≤ 1000000000 := Int.le_trans a1 (Int.ofNat_le.mpr hn)
          refine ⟨_, rfl, _, _, rfl, rfl, (show (2147483629 : Int) ≠ 0 by decide), _, rfl, _, _, rfl, rfl, .inl ⟨by decide, by decide⟩, _, rfl, _, _, rfl, rfl, .inl ⟨by omega, by omega⟩, _, _, rfl, rfl, _, rfl, _, _, rfl, rfl, .inl ⟨by decide, by decide⟩, _, _, rfl, rfl, _, _, rfl, rfl, ?_⟩
          refine ⟨fun σ' H' => ∃ y : Int, 0 ≤ y ∧ y < 2147483647 ∧ σ' = [some (.ref p), some (.int m), none, some (.int at'), some (.int cell), some (.int y)] ∧ H' = H3, ?_, ?_⟩
          · exact ⟨_, rfl, _, _, rfl, rfl, .inr ⟨by decide, by decide⟩, _, _, rfl, rfl, (show (2147483647 : Int) ≠ 0 by decide), _, Int.fmod_nonneg_of_pos _ (by decide), Int.fmod_lt_of_pos _ (by decide), rfl, rfl⟩
          · rintro σ' H' ⟨y, y0, y1, rfl, rfl⟩
            refine ⟨fun σ2 H2 => ∃ y : Int, 0 ≤ y ∧ y < 2147483587 ∧ σ2 = [some (.ref p), some (.int m), none, some (.int at'), some (.int cell), some (.int y)] ∧ H2 = H', ?_, ?_⟩
            · exact ⟨_, rfl, _, rfl, _, _, rfl, rfl, .inl ⟨by omega, by omega⟩, _, rfl, _, _, rfl, rfl, .inl ⟨by decide, by decide⟩, _, _, rfl, rfl, _, rfl, _, _, rfl, rfl, _, _, rfl, rfl, (show (2147483587 : Int) ≠ 0 by decide), _, Int.fmod_nonneg_of_pos _ (by decide), Int.fmod_lt_of_pos _ (by decide), rfl, rfl⟩
            · rintro σ2 H2 ⟨z, z0, z1, rfl, rfl⟩
              refine ⟨_, rfl, _, rfl, _, _, rfl, rfl, _, _, rfl, rfl, .inl ⟨by omega, by omega⟩, _, _, rfl, rfl, (show (2147483563 : Int) ≠ 0 by decide), _, _, rfl, rfl, (show CDivN 0 64 from ⟨by decide, by decide⟩), _, rfl, _, _, rfl, rfl, nm, ?_⟩
              exact k _ _ (Int.fmod_nonneg_of_pos _ (by omega)) (Int.fmod_lt_of_pos _ (by omega)) ⟨at' + 1, lf, by omega, by omega, l0, hp3, hc3, h63⟩ b3
end
end K3
namespace K3
open PySem L2
/-- what a caller wants of a def by its name -/
def Cal (P : Program) (w : World) (K : PySem.W.Frag) (mg : Str → Option Value) (base : Heap) (x : Str) (k : Nat) (ps : List Str) (sp : Sp) : Prop :=
  ∃ f fd, mg x = some (.ref f) ∧ PySem.W.keepIn K (.ref f) = true ∧ Binds K fd ps [] ∧ FnOk P w K mg base CX0 k f fd ps sp
theorem But.seqL {K : PySem.W.Frag} {M : Addr → Prop} {H H' : Hp} {a : Addr} {xs : List V} (e : But M H H') (n : ¬ M a) (h : SqL K H a xs) : SqL K H' a xs := by
  rcases h with (h | ⟨o, h⟩) | h
  · exact .inl (.inl (e _ _ n h))
  · exact .inl (.inr ⟨o, e _ _ n h⟩)
  · exact .inr h
theorem But.seqT {K : PySem.W.Frag} {M : Addr → Prop} {H H' : Hp} {a : Addr} {xs : List V} (e : But M H H') (n : ¬ M a) (h : SqT K H a xs) : SqT K H' a xs := by
  rcases h with (h | ⟨o, h⟩) | h
  · exact .inl (.inl (e _ _ n h))
  · exact .inl (.inr ⟨o, e _ _ n h⟩)
  · exact .inr h
/-- the items of a text -/
def signs (z : Str) : List V := z.cps.toList.map fun c => V.str ⟨#[c]⟩
theorem signs_len (z : Str) : (signs z).length = z.length := by
  unfold signs
  rw [List.length_map]
  rfl
/-- x is a list or a tuple of ys that stands in H, or a text of these signs -/
def Menu (H : Hp) (x : V) (ys : List V) : Prop :=
  1 ≤ ys.length ∧ ys.length ≤ 1000 ∧ ((∃ l, x = .ref l ∧ (H l = some (.lst ys) ∨ H l = some (.tup ys))) ∨ ∃ z : Str, x = .str z ∧ ys = signs z)
theorem Menu.but {M : Addr → Prop} {H H' : Hp} {x : V} {ys : List V} (h : Menu H x ys) (e : But M H H') (n : ∀ l, M l → H l ≠ some (.lst ys) ∧ H l ≠ some (.tup ys)) : Menu H' x ys := by
  obtain ⟨h1, h2, h3⟩ := h
  refine ⟨h1, h2, ?_⟩
  rcases h3 with ⟨l, rfl, q | q⟩ | q
  · exact .inl ⟨l, rfl, .inl (e l _ (fun m => (n l m).1 q) q)⟩
  · exact .inl ⟨l, rfl, .inr (e l _ (fun m => (n l m).2 q) q)⟩
  · exact .inr q
def spPick : Sp := fun vs H Q _ => ∃ (p c : Addr) (ns : List Int) (n : Nat) (x : V) (ys : List V), vs = [.ref p, x] ∧ Pen H p c ns n ∧ n ≤ 1000000000 ∧ Menu H x ys ∧
  ∀ (v : V) (H' : Hp), v ∈ ys → Pen H' p c ns (n + 1) → But (· = p) H H' → Q v H'
theorem scP : FnScope ["_law_pen_here", "_law_some"] ["_law_pen_here", "_law_some"] (defScope sPick) := ⟨rfl, rfl, rfl, by decide +kernel, rfl, by decide +kernel, by decide +kernel⟩
section
variable {P : Program} {w : World} {K : PySem.W.Frag} {mg : Str → Option Value} {base : Heap}
theorem ok_pick {f : Addr} {fd : FuncData} (F : Fun K "_law_pick" "_law_pick" sPick f fd) (T : Txt mg) (CD : Cal P w K mg base "_law_draw" 1 ["_law_pen_here", "_law_many"] spDraw) : FnOk P w K mg base CX0 2 f fd ["_law_pen_here", "_law_some"] spPick := by
  obtain ⟨fD, fdD, mD, kD, bD, GD⟩ := CD
  refine F.ok scP (fun vs H Q E h => ?_) (fun cdv A outer s H vs Q E hr h => ?_)
  · obtain ⟨p, c, ns, n, x, ys, rfl, _⟩ := h
    rfl
  · obtain ⟨p, c, ns, n, x, ys, rfl, hP, hn, hM, k⟩ := h
    obtain ⟨_, _, _, _, _, hp, _, _⟩ := id hP
    refine ⟨_, pss_one (ps_ret (pe_ix ix_seq (pv 1) (pe_call GD hr (by rfl) mD kD bD .nil pass0 (pa_cons (pv 0) (pa_cons (pe_callB call_len (by rfl) T.len PySem.boot_len (pa_cons (pv 1) pa_nil)) pa_nil))) (fun _ _ => rfl))), ?_⟩
    have hL : LenV K x H ys.length := by
      obtain ⟨_, _, h3⟩ := id hM
      rcases h3 with ⟨l, rfl, q | q⟩ | ⟨z, rfl, rfl⟩
      · exact .inl ⟨_, SqL.of q, rfl⟩
      · exact .inr ⟨_, SqT.of q, rfl⟩
      · refine ⟨?_, signs_len z⟩
        have e := signs_len z
        have h1 := hM.2.1
        rw [e] at h1
        exact Nat.le_trans h1 (by decide)
    refine ⟨_, rfl, _, rfl, _, rfl, x, ys.length, rfl, hL, ?_⟩
    refine ⟨p, c, ns, n, _, rfl, hP, hn, Int.ofNat_le.mpr hM.1, ?_, fun r H' r0 r1 hP' b => ?_⟩
    · have := hM.2.1
      omega
    · have hM' := hM.but b (fun l q => by rw [q]; exact ⟨fun z => (by rw [hp] at z; cases z), fun z => (by rw [hp] at z; cases z)⟩)
      have hr' : r.toNat < ys.length := by omega
      have hv := List.getElem?_eq_getElem hr'
      have kk := k ys[r.toNat] H' (List.getElem_mem _) hP' b
      obtain ⟨_, h1000, h3⟩ := hM'
      rcases h3 with ⟨l, rfl, q | q⟩ | ⟨z, rfl, rfl⟩
      · exact .inl ⟨l, _, _, _, rfl, rfl, SqL.of q, atI_int r0 hv, kk⟩
      · exact .inr (.inl ⟨l, _, _, _, rfl, rfl, SqT.of q, atI_int r0 hv, kk⟩)
      · have hz : r.toNat < z.cps.toList.length := by
          have e : (signs z).length = z.cps.toList.length := List.length_map _
          rw [e] at hr'
          exact hr'
        refine .inr (.inr ⟨z, r, z.cps.toList[r.toNat], rfl, rfl, ?_, atI_int r0 (List.getElem?_eq_getElem hz), ?_⟩)
        · rw [signs_len z] at h1000
          exact Nat.le_trans h1000 (by decide)
        · have e : (signs z)[r.toNat] = V.str ⟨#[z.cps.toList[r.toNat]]⟩ := List.getElem_map _
          rw [e] at kk
          exact kk
end
end K3
namespace K3
open PySem L2
def spPen (K : PySem.W.Frag) : Sp := fun vs H Q _ => ∃ (a : Addr) (ns : List Int), vs = [.ref a] ∧ SqL K H a (ns.map V.int) ∧ ns.length ≤ 63 ∧
  ∀ (p c : Addr) (H' : Hp), H p = none → H c = none → Pen H' p c ns 0 → Same H H' → Q (.ref p) H'
theorem scN : FnScope ["_law_script"] ["_law_script"] (defScope sPen) := ⟨rfl, rfl, rfl, by decide +kernel, rfl, by decide +kernel, by decide +kernel⟩
theorem cut63 {xs : List V} (h : xs.length ≤ 63) : cutV xs none (some 63) = xs := by
  have e : HT.sIx xs.length xs.length (some 63) = xs.length := by
    unfold HT.sIx
    simp
    omega
  have e0 : HT.sIx xs.length 0 none = 0 := rfl
  unfold cutV
  rw [e, e0]
  simp
section
variable {P : Program} {w : World} {K : PySem.W.Frag} {mg : Str → Option Value} {base : Heap}
theorem ok_pen {f : Addr} {fd : FuncData} (F : Fun K "_law_pen" "_law_pen" sPen f fd) (T : Txt mg) : FnOk P w K mg base CX0 1 f fd ["_law_script"] (spPen K) := by
  refine F.ok scN (fun vs H Q E h => ?_) (fun cdv A outer s H vs Q E hr h => ?_)
  · obtain ⟨a, ns, rfl, _⟩ := h
    rfl
  · obtain ⟨a, ns, rfl, hS, h63, k⟩ := h
    refine ⟨_, pss_one (ps_ret (pe_disp (pps_cons pe_str (pe_callTy call_list_of (by rfl) T.list (by decide +kernel) (pa_cons (pe_slice sl_list (pv 0) po_none (po_some pe_int)) pa_nil)) (pps_cons pe_str pe_int (pps_cons pe_str pe_int pps_nil))) (by rfl) (by rfl) (fun z => by cases z) (by decide))), ?_⟩
    intro p hp
    refine ⟨_, rfl, _, rfl, a, _, rfl, (Same.seq (fun b o e => by rw [upd_ne (ne_of_none e hp)]; exact e) hS), fun t ht => ?_⟩
    rw [cut63 (by rw [List.length_map]; exact h63)]
    refine ⟨t, _, rfl, .inl (SqL.of upd_same), fun l hl => ?_⟩
    have ntl : t ≠ l := ne_of_none upd_same hl
    have hl1 : upd H p (HO.dK []) l = none := by rw [upd_ne ntl.symm] at hl; exact hl
    have npl : p ≠ l := ne_of_none upd_same hl1
    have hl0 : H l = none := by rw [upd_ne npl.symm] at hl1; exact hl1
    have npt : p ≠ t := ne_of_none upd_same ht
    refine ⟨by rw [upd_ne npl, upd_ne npt, upd_same], [(Sum.inr "cells", .ref l), (Sum.inr "at", .int 0), (Sum.inr "left", .int 0)], rfl, (by show 3 ≤ 15; decide), ?_⟩
    refine k p l _ hp hl0 ⟨0, 0, Int.le_refl _, Int.le_refl _, Int.le_refl _, upd_same, by rw [upd_ne npl.symm, upd_same], h63⟩ (fun b o e => ?_)
    have ht0 : H t = none := by rw [upd_ne npt.symm] at ht; exact ht
    rw [upd_ne (ne_of_none e hp), upd_ne (ne_of_none e hl0), upd_ne (ne_of_none e ht0), upd_ne (ne_of_none e hp)]
    exact e
end
end K3
namespace K3
open PySem L2
theorem Pen.but {M : Addr → Prop} {H H' : Hp} {p c : Addr} {ns : List Int} {n : Nat} (h : Pen H p c ns n) (e : But M H H') (n1 : ¬ M p) (n2 : ¬ M c) : Pen H' p c ns n := by
  obtain ⟨a, l, h1, h2, h3, h4, h5, h6⟩ := h
  exact ⟨a, l, h1, h2, h3, e _ _ n1 h4, e _ _ n2 h5, h6⟩
theorem Pen.new {H : Hp} {p c : Addr} {ns : List Int} {n : Nat} (h : Pen H p c ns n) {l : Addr} {o : HO} (hl : H l = none) : Pen (upd H l o) p c ns n :=
  h.but (M := fun _ => False) ((But.refl _ H).new hl) (fun z => z) (fun z => z)
theorem Pen.fresh {H : Hp} {p c : Addr} {ns : List Int} {n : Nat} (h : Pen H p c ns n) {l : Addr} (hl : H l = none) : l ≠ p ∧ l ≠ c := by
  obtain ⟨a, b, _, _, _, h4, h5, _⟩ := h
  exact ⟨(ne_of_none h4 hl).symm, (ne_of_none h5 hl).symm⟩
/-- an object beside the pen changes -/
theorem Pen.mut {H : Hp} {p c : Addr} {ns : List Int} {n : Nat} (h : Pen H p c ns n) {l : Addr} {o : HO} (n1 : l ≠ p) (n2 : l ≠ c) : Pen (upd H l o) p c ns n :=
  h.but (M := (· = l)) ((But.refl _ H).mut rfl) (fun z => n1 z.symm) (fun z => n2 z.symm)
theorem Pen.mono {H : Hp} {p c : Addr} {ns : List Int} {n m : Nat} (h : Pen H p c ns n) (hm : n ≤ m) : Pen H p c ns m := by
  obtain ⟨a, l, h1, h2, h3, h4, h5, h6⟩ := h
  exact ⟨a, l, h1, by omega, h3, h4, h5, h6⟩
theorem Pen.ne {H : Hp} {p c : Addr} {ns : List Int} {n : Nat} (h : Pen H p c ns n) {l : Addr} {xs : List V} (q : H l = some (.lst xs)) : l ≠ p := by
  obtain ⟨a, b, _, _, _, h4, _, _⟩ := h
  exact ne_of q h4 (by intro z; cases z)
theorem Pen.neT {H : Hp} {p c : Addr} {ns : List Int} {n : Nat} (h : Pen H p c ns n) {l : Addr} {xs : List V} (q : H l = some (.tup xs)) : l ≠ p := by
  obtain ⟨a, b, _, _, _, h4, _, _⟩ := h
  exact ne_of q h4 (by intro z; cases z)
end K3
namespace K3
open PySem L2
/-! ### data of tuples -/
def Tups (H H' : Hp) : Prop := ∀ a xs, H a = some (.tup xs) → H' a = some (.tup xs)
theorem Tups.refl (H : Hp) : Tups H H := fun _ _ h => h
theorem Tups.trans {H H1 H2 : Hp} (a : Tups H H1) (b : Tups H1 H2) : Tups H H2 := fun c o h => b c o (a c o h)
theorem But.tups {M : Addr → Prop} {H H' : Hp} (e : But M H H') (n : ∀ a xs, M a → H a ≠ some (.tup xs)) : Tups H H' := fun a xs h => e a _ (fun m => n a xs m h) h
theorem Tups.new {H H' : Hp} (e : Tups H H') {p : Addr} {o : HO} (h : H' p = none) : Tups H (upd H' p o) := fun a xs z => by
  have z1 := e a xs z
  rw [upd_ne (ne_of_none z1 h)]
  exact z1
theorem Tups.mut {H H' : Hp} (e : Tups H H') {p : Addr} {u o : HO} (h : H' p = some u) (n : ∀ xs, u ≠ .tup xs) : Tups H (upd H' p o) := fun a xs z => by
  have z1 := e a xs z
  rw [upd_ne (fun q => by rw [q, h] at z1; exact n xs (Option.some.inj z1))]
  exact z1
theorem Pen.tups {H H' : Hp} {p c : Addr} {ns : List Int} {n : Nat} (h : Pen H p c ns n) (e : But (· = p) H H') : Tups H H' := e.tups fun a xs q z => by
  obtain ⟨_, _, _, _, _, h4, _, _⟩ := h
  rw [q, h4] at z
  cases z
mutual
inductive Dt (H : Hp) : V → PyData → Prop
  | non : Dt H .non .none
  | int (i : Int) : Dt H (.int i) (.int i)
  | str (z : Str) : Dt H (.str z) (.str z)
  | tup {a : Addr} {xs : List V} {ds : List PyData} : H a = some (.tup xs) → DtAll H xs ds → Dt H (.ref a) (.tuple ds)
inductive DtAll (H : Hp) : List V → List PyData → Prop
  | nil : DtAll H [] []
  | cons {v : V} {vs : List V} {d : PyData} {ds : List PyData} : Dt H v d → DtAll H vs ds → DtAll H (v :: vs) (d :: ds)
end
mutual
theorem Dt.mono {H H' : Hp} (e : Tups H H') : ∀ {d : PyData} {v : V}, Dt H v d → Dt H' v d
  | _, _, .non => .non
  | _, _, .int i => .int i
  | _, _, .str z => .str z
  | _, _, .tup h a => .tup (e _ _ h) (DtAll.mono e a)
theorem DtAll.mono {H H' : Hp} (e : Tups H H') : ∀ {ds : List PyData} {vs : List V}, DtAll H vs ds → DtAll H' vs ds
  | _, _, .nil => .nil
  | _, _, .cons h a => .cons (Dt.mono e h) (DtAll.mono e a)
end
mutual
theorem Dt.dp {K : PySem.W.Frag} {H : Hp} : ∀ {d : PyData} {v : V}, Dt H v d → Dp K H v d
  | _, _, .non => .non
  | _, _, .int i => .int i
  | _, _, .str z => .str z
  | _, _, .tup h a => .tup (SqT.of h) (DtAll.dp a)
theorem DtAll.dp {K : PySem.W.Frag} {H : Hp} : ∀ {ds : List PyData} {vs : List V}, DtAll H vs ds → DpAll K H vs ds
  | _, _, .nil => .nil
  | _, _, .cons h a => .cons (Dt.dp h) (DtAll.dp a)
end
theorem DtAll.length {H : Hp} : ∀ {ds : List PyData} {vs : List V}, DtAll H vs ds → vs.length = ds.length
  | _, _, .nil => rfl
  | _, _, .cons _ a => by rw [List.length_cons, List.length_cons, DtAll.length a]
theorem DtAll.app {H : Hp} : ∀ {ds es : List PyData} {vs ws : List V}, DtAll H vs ds → DtAll H ws es → DtAll H (vs ++ ws) (ds ++ es)
  | _, _, _, _, .nil, b => b
  | _, _, _, _, .cons h a, b => .cons h (DtAll.app a b)
theorem DtAll.drop {H : Hp} : ∀ (n : Nat) {ds : List PyData} {vs : List V}, DtAll H vs ds → DtAll H (vs.drop n) (ds.drop n)
  | 0, _, _, h => h
  | n + 1, _, _, .nil => .nil
  | n + 1, _, _, .cons _ a => DtAll.drop n a
theorem DtAll.take {H : Hp} : ∀ (n : Nat) {ds : List PyData} {vs : List V}, DtAll H vs ds → DtAll H (vs.take n) (ds.take n)
  | 0, _, _, h => .nil
  | n + 1, _, _, .nil => .nil
  | n + 1, _, _, .cons h a => .cons h (DtAll.take n a)
theorem DtAll.get {H : Hp} : ∀ {ds : List PyData} {vs : List V}, DtAll H vs ds → ∀ (i : Nat) (v : V), vs[i]? = some v → ∃ d, ds[i]? = some d ∧ Dt H v d
  | _, _, .nil, i, v, e => by simp at e
  | _, _, .cons h a, 0, v, e => by
    cases e
    exact ⟨_, rfl, h⟩
  | _, _, .cons h a, i + 1, v, e => DtAll.get a i v e
theorem DtAll.mem {H : Hp} : ∀ {ds : List PyData} {vs : List V}, DtAll H vs ds → ∀ v, v ∈ vs → ∃ d, d ∈ ds ∧ Dt H v d
  | _, _, .nil, v, e => absurd e (by simp)
  | _, _, .cons h a, v, e => by
    rcases List.mem_cons.mp e with rfl | e
    · exact ⟨_, List.mem_cons_self .., h⟩
    · obtain ⟨d, h1, h2⟩ := DtAll.mem a v e
      exact ⟨d, List.mem_cons_of_mem _ h1, h2⟩
/-- a worth without holds, as a draw gives it -/
def PlainD (d : PyData) : Prop := d = .none ∨ (∃ i : Int, -999999999 ≤ i ∧ i ≤ 999999999 ∧ d = .int i) ∨ (∃ z : Str, z ∈ ([("a" : Str), "ab", "b", "to", "zzzzzzzz", "odd"] : List Str) ∧ d = .str z) ∨
  d = .tuple [.int 1, .str "a"] ∨ d = .tuple [.str "to", .str "a"] ∨ d = .tuple []
theorem PlainD.lay {d : PyData} (h : PlainD d) : d.canLay0 = true ∧ d.depth ≤ 3 := by
  rcases h with rfl | ⟨i, _, _, rfl⟩ | ⟨z, hz, rfl⟩ | rfl | rfl | rfl
  · exact ⟨rfl, by decide⟩
  · exact ⟨rfl, by simp [PyData.depth]⟩
  · refine ⟨?_, by simp [PyData.depth]⟩
    simp only [List.mem_cons, List.not_mem_nil, or_false] at hz
    rcases hz with rfl | rfl | rfl | rfl | rfl | rfl <;> decide +kernel
  · exact ⟨by decide +kernel, by decide +kernel⟩
  · exact ⟨by decide +kernel, by decide +kernel⟩
  · exact ⟨by decide +kernel, by decide +kernel⟩
def spPlain : Sp := fun vs H Q _ => ∃ (p c : Addr) (ns : List Int) (n : Nat), vs = [.ref p] ∧ Pen H p c ns n ∧ n + 5 ≤ 1000000000 ∧
  ∀ (v : V) (d : PyData) (H' : Hp), Dt H' v d → PlainD d → Pen H' p c ns (n + 5) → But (· = p) H H' → Q v H'
abbrev sPlain : Stmt := top 13
theorem scPl : FnScope ["_law_pen_here", "_law_some"] ["_law_pen_here"] (defScope sPlain) := ⟨rfl, rfl, rfl, by decide +kernel, rfl, by decide +kernel, by decide +kernel⟩
section
variable {P : Program} {w : World} {K : PySem.W.Frag} {mg : Str → Option Value} {base : Heap}
theorem ok_plain {f : Addr} {fd : FuncData} (F : Fun K "_law_plain" "_law_plain" sPlain f fd) (T : Txt mg) (CD : Cal P w K mg base "_law_draw" 1 ["_law_pen_here", "_law_many"] spDraw)
    (CP : Cal P w K mg base "_law_pick" 2 ["_law_pen_here", "_law_some"] spPick) : FnOk P w K mg base CX0 3 f fd ["_law_pen_here"] spPlain := by
  obtain ⟨fD, fdD, mD, kD, bD, GD⟩ := CD
  obtain ⟨fP, fdP, mP, kP, bP, GP⟩ := CP
  refine F.ok scPl (fun vs H Q E h => ?_) (fun cdv A outer s H vs Q E hr h => ?_)
  · obtain ⟨p, c, ns, n, rfl, _⟩ := h
    rfl
  · obtain ⟨p, c, ns, n, rfl, hP, hn, k⟩ := h
    have hr1 : Room 1 _ := hr.mono (by decide)
    refine ⟨_, C8.pss_cut (ps_set (i := 1) scPl.nd rfl (.inl rfl) (pe_lst (pa_cons pe_non (pa_cons pe_int (pa_cons pe_int (pa_cons (pe_call GD hr1 (by rfl) mD kD bD .nil pass0 (pa_cons (pv 0) (pa_cons pe_int pa_nil)))
          (pa_cons (pe_call GP hr (by rfl) mP kP bP .nil pass0 (pa_cons (pv 0) (pa_cons (pe_lst (pa_cons (pe_un un_neg pe_int) (pa_cons pe_int (pa_cons pe_int (pa_cons pe_int (pa_cons pe_int (pa_cons (pe_un un_neg pe_int) pa_nil))))))) pa_nil))) pa_nil)))))))
      (C8.pss_cut (ps_set (i := 1) scPl.nd rfl (.inl rfl) (pe_op op_cat (pv 1) (pe_lst
          (pa_cons (pe_call GP hr (by rfl) mP kP bP .nil pass0 (pa_cons (pv 0) (pa_cons (pe_lst (pa_cons pe_str (pa_cons pe_str (pa_cons pe_str (pa_cons pe_str (pa_cons pe_str (pa_cons pe_str pa_nil))))))) pa_nil)))
          (pa_cons (pe_tup (pa_cons pe_int (pa_cons pe_str pa_nil))) (pa_cons (pe_tup (pa_cons pe_str (pa_cons pe_str pa_nil))) (pa_cons (pe_tup pa_nil) pa_nil)))))))
      (pss_one (ps_ret (pe_ix ix_list (pv 1) (pe_call GD hr1 (by rfl) mD kD bD .nil pass0 (pa_cons (pv 0) (pa_cons pe_int pa_nil))) (fun _ _ => rfl))))), ?_⟩
    refine ⟨fun σ' H' => ∃ (l : Addr) (xs : List V) (ds : List PyData), l ≠ p ∧ l ≠ c ∧ σ' = [some (.ref p), some (.ref l)] ∧ xs.length = 5 ∧ H' l = some (.lst xs) ∧ DtAll H' xs ds ∧ (∀ d ∈ ds, PlainD d) ∧ Pen H' p c ns (n + 2) ∧ But (· = p) H H', ?_, ?_⟩
    · refine ⟨_, rfl, p, c, ns, n, 12, rfl, hP, by omega, by decide, by decide, fun r H1 r0 r1 hP1 b1 => ?_⟩
      refine ⟨_, rfl, _, rfl, _, rfl, (by show 6 ≤ sizeLine; decide), fun l hl => ?_⟩
      refine ⟨p, c, ns, n + 1, _, _, rfl, hP1.new hl, by omega, ⟨by show 1 ≤ 6; decide, by show 6 ≤ 1000; decide, .inl ⟨l, rfl, .inl upd_same⟩⟩, fun v H2 hv hP2 b2 => ?_⟩
      refine ⟨(by show 5 ≤ sizeLine; decide), fun l2 hl2 => ?_⟩
      have hv' : v ∈ ([-9, 10, 99, 100, 999999999, -999999999] : List Int).map V.int := hv
      obtain ⟨q, hq, rfl⟩ := List.mem_map.mp hv'
      have nl := hP2.fresh hl2
      refine ⟨l2, _, [.none, .int 0, .int 1, .int r, .int q], nl.1, nl.2, rfl, rfl, upd_same, .cons .non (.cons (.int _) (.cons (.int _) (.cons (.int _) (.cons (.int _) .nil)))), ?_, hP2.new hl2, ((b1.new hl).trans b2).new hl2⟩
      intro d hd
      simp only [List.mem_cons, List.not_mem_nil, or_false] at hd hq
      rcases hd with rfl | rfl | rfl | rfl | rfl
      · exact .inl rfl
      · exact .inr (.inl ⟨_, by decide, by decide, rfl⟩)
      · exact .inr (.inl ⟨_, by decide, by decide, rfl⟩)
      · exact .inr (.inl ⟨_, by omega, by omega, rfl⟩)
      · exact .inr (.inl ⟨_, by omega, by omega, rfl⟩)
    rintro σ1 H1 ⟨l, xs, ds, nlp, nlc, rfl, hx5, hL, hD, hPl, hP1, b1⟩
    refine ⟨fun σ' H' => ∃ (l : Addr) (xs : List V) (ds : List PyData), l ≠ p ∧ l ≠ c ∧ σ' = [some (.ref p), some (.ref l)] ∧ xs.length = 9 ∧ H' l = some (.lst xs) ∧ DtAll H' xs ds ∧ (∀ d ∈ ds, PlainD d) ∧ Pen H' p c ns (n + 3) ∧ But (· = p) H H', ?_, ?_⟩
    · refine ⟨_, rfl, _, rfl, (by show 6 ≤ sizeLine; decide), fun l1 hl1 => ?_⟩
      refine ⟨p, c, ns, n + 2, _, _, rfl, hP1.new hl1, by omega, ⟨by show 1 ≤ 6; decide, by show 6 ≤ 1000; decide, .inl ⟨l1, rfl, .inl upd_same⟩⟩, fun v H2 hv hP2 b2 => ?_⟩
      have hv' : v ∈ ([("a" : Str), "ab", "b", "to", "zzzzzzzz", "odd"] : List Str).map V.str := hv
      obtain ⟨q, hq, rfl⟩ := List.mem_map.mp hv'
      have T1 : Tups H1 (upd H1 l1 (.lst [.str "a", .str "ab", .str "b", .str "to", .str "zzzzzzzz", .str "odd"])) := (Tups.refl _).new hl1
      have T2 : Tups H1 H2 := T1.trans ((hP1.new hl1).tups b2)
      have hL2 : H2 l = some (.lst xs) := b2 _ _ nlp (by rw [upd_ne (ne_of_none hL hl1)]; exact hL)
      refine ⟨(by show 2 ≤ sizeLine; decide), fun t1 ht1 => ⟨(by show 2 ≤ sizeLine; decide), fun t2 ht2 => ⟨Nat.zero_le _, fun t3 ht3 => ⟨(by show 4 ≤ sizeLine; decide), fun l2 hl2 => ?_⟩⟩⟩⟩
      have T3 : Tups H1 (upd (upd (upd H2 t1 (.tup [.int 1, .str "a"])) t2 (.tup [.str "to", .str "a"])) t3 (.tup [])) := ((T2.new ht1).new ht2).new ht3
      have n12 : t1 ≠ t2 := ne_of_none upd_same ht2
      have n23 : t2 ≠ t3 := ne_of_none upd_same ht3
      have n13 : t1 ≠ t3 := ne_of_none (show upd (upd H2 t1 (.tup [.int 1, .str "a"])) t2 (.tup [.str "to", .str "a"]) t1 = some (.tup [.int 1, .str "a"]) by rw [upd_ne n12, upd_same]) ht3
      have a1 : upd (upd (upd H2 t1 (.tup [.int 1, .str "a"])) t2 (.tup [.str "to", .str "a"])) t3 (.tup []) t1 = some (.tup [.int 1, .str "a"]) := by rw [upd_ne n13, upd_ne n12, upd_same]
      have a2 : upd (upd (upd H2 t1 (.tup [.int 1, .str "a"])) t2 (.tup [.str "to", .str "a"])) t3 (.tup []) t2 = some (.tup [.str "to", .str "a"]) := by rw [upd_ne n23, upd_same]
      have a3 : upd (upd (upd H2 t1 (.tup [.int 1, .str "a"])) t2 (.tup [.str "to", .str "a"])) t3 (.tup []) t3 = some (.tup []) := upd_same
      have hL3 : upd (upd (upd H2 t1 (.tup [.int 1, .str "a"])) t2 (.tup [.str "to", .str "a"])) t3 (.tup []) l = some (.lst xs) := ((((But.refl (fun _ => False) H2).new ht1).new ht2).new ht3) _ _ (fun z => z) hL2
      have hP3 := ((hP2.new ht1).new ht2 (o := .tup [.str "to", .str "a"])).new ht3 (o := .tup [])
      have b3 : But (· = p) H (upd (upd (upd H2 t1 (.tup [.int 1, .str "a"])) t2 (.tup [.str "to", .str "a"])) t3 (.tup [])) := (((b1.new hl1).trans b2).new ht1).new ht2 |>.new ht3
      generalize upd (upd (upd H2 t1 (.tup [.int 1, .str "a"])) t2 (.tup [.str "to", .str "a"])) t3 (.tup []) = H3 at *
      have hl3 : upd H3 l2 (.lst [.str q, .ref t1, .ref t2, .ref t3]) l = some (.lst xs) := by rw [upd_ne (ne_of_none hL3 hl2)]; exact hL3
      refine ⟨l, l2, _, _, rfl, rfl, hl3, upd_same, (by show xs.length + 4 ≤ sizeLine; rw [hx5]; decide), fun l4 hl4 => ?_⟩
      have nl := ((hP3.new hl2).fresh hl4)
      refine ⟨l4, _, ds ++ [.str q, .tuple [.int 1, .str "a"], .tuple [.str "to", .str "a"], .tuple []], nl.1, nl.2, rfl, ?_, upd_same, ?_, ?_, (hP3.new hl2).new hl4, (b3.new hl2).new hl4⟩
      · rw [List.length_append, hx5]; rfl
      · have D3 : DtAll H3 (xs ++ [.str q, .ref t1, .ref t2, .ref t3]) (ds ++ [.str q, .tuple [.int 1, .str "a"], .tuple [.str "to", .str "a"], .tuple []]) :=
          (hD.mono T3).app (.cons (.str _) (.cons (.tup a1 (.cons (.int _) (.cons (.str _) .nil))) (.cons (.tup a2 (.cons (.str _) (.cons (.str _) .nil))) (.cons (.tup a3 .nil) .nil))))
        exact D3.mono (((Tups.refl _).new hl2).new hl4)
      · intro d hd
        rcases List.mem_append.mp hd with hd | hd
        · exact hPl d hd
        · simp only [List.mem_cons, List.not_mem_nil, or_false] at hd
          rcases hd with rfl | rfl | rfl | rfl
          · exact .inr (.inr (.inl ⟨q, hq, rfl⟩))
          · exact .inr (.inr (.inr (.inl rfl)))
          · exact .inr (.inr (.inr (.inr (.inl rfl))))
          · exact .inr (.inr (.inr (.inr (.inr rfl))))
    rintro σ2 H2 ⟨l, xs, ds, nlp, nlc, rfl, hx9, hL, hD, hPl, hP2, b2⟩
    refine ⟨_, rfl, _, rfl, p, c, ns, n + 3, 9, rfl, hP2, by omega, by decide, by decide, fun r H3 r0 r1 hP3 b3 => ?_⟩
    have hr9 : r.toNat < xs.length := by omega
    obtain ⟨d, hd, hdt⟩ := hD.get _ _ (List.getElem?_eq_getElem hr9)
    refine ⟨l, _, _, _, rfl, rfl, SqL.of (b3 _ _ nlp hL), atI_int r0 (List.getElem?_eq_getElem hr9), ?_⟩
    exact k _ d H3 (hdt.mono (hP2.tups b3)) (hPl d (List.mem_of_getElem? hd)) (hP3.mono (by omega)) (b2.trans b3)
end
end K3
namespace K3
open PySem L2
def spRow : Sp := fun vs H Q _ => ∃ (p c : Addr) (ns : List Int) (n : Nat), vs = [.ref p] ∧ Pen H p c ns n ∧ n + 20 ≤ 1000000000 ∧
  ∀ (t : Addr) (xs : List V) (ds : List PyData) (H' : Hp), H t = none → H' t = some (.tup xs) → DtAll H' xs ds → ds.length ≤ 3 → (∀ d ∈ ds, PlainD d) → Pen H' p c ns (n + 20) → But (· = p) H H' → Q (.ref t) H'
abbrev sRow : Stmt := top 14
theorem scRo : FnScope ["_law_pen_here", "_law_k"] ["_law_pen_here"] (defScope sRow) := ⟨rfl, rfl, rfl, by decide +kernel, rfl, by decide +kernel, by decide +kernel⟩
section
variable {P : Program} {w : World} {K : PySem.W.Frag} {mg : Str → Option Value} {base : Heap}
theorem ok_row {f : Addr} {fd : FuncData} (F : Fun K "_law_row_of" "_law_row_of" sRow f fd) (T : Txt mg) (CD : Cal P w K mg base "_law_draw" 1 ["_law_pen_here", "_law_many"] spDraw)
    (CP : Cal P w K mg base "_law_plain" 3 ["_law_pen_here"] spPlain) : FnOk P w K mg base CX0 4 f fd ["_law_pen_here"] spRow := by
  obtain ⟨fD, fdD, mD, kD, bD, GD⟩ := CD
  obtain ⟨fP, fdP, mP, kP, bP, GP⟩ := CP
  refine F.ok scRo (fun vs H Q E h => ?_) (fun cdv A outer s H vs Q E hr h => ?_)
  · obtain ⟨p, c, ns, n, rfl, _⟩ := h
    rfl
  · obtain ⟨p, c, ns, n, rfl, hP, hn, k⟩ := h
    have hr1 : Room 1 _ := hr.mono (by decide)
    refine ⟨_, pss_one (ps_ret (pe_callTy call_tuple_of (by rfl) T.tuple (by decide +kernel) (pa_cons (pe_lc (own := [("_law_k", 1)]) (g := gName 1) (tt := tYes) rfl scRo.nd
          (pi_range1 rfl T.range (pa_cons (pe_call GD hr1 (by rfl) mD kD bD .nil pass0 (pa_cons (pv 0) (pa_cons pe_int pa_nil))) pa_nil))
          (blkOk_by (N := ["_law_pen_here", "_law_k"]) (sc := defScope sRow) (by decide +kernel))
          (fun _ _ _ _ _ => pg_name (i := 1) scRo.nd rfl (Or.inl rfl)) (fun _ _ _ _ _ => pts_nil)
          (fun _ _ _ _ _ => pe_call GP hr (by rfl) mP kP bP .nil pass0 (pa_cons (pv 0) pa_nil))) pa_nil))), ?_⟩
    refine ⟨_, rfl, p, c, ns, n, 4, rfl, hP, by omega, by decide, by decide, fun r H1 r0 r1 hP1 b1 => ?_⟩
    refine ⟨_, rfl, by omega, by omega, fun D hD => ?_⟩
    have nD := hP1.fresh hD
    refine lc_range (lo := 0) (n := r.toNat) (fun i H' => ∃ (xs : List V) (ds : List PyData), H' D = some (.lst xs) ∧ DtAll H' xs ds ∧ ds.length = i ∧ (∀ d ∈ ds, PlainD d) ∧ Pen H' p c ns (n + 1 + 5 * i) ∧ But (· = p) H H') ?_ ?_ ?_
    · exact ⟨[], [], upd_same, .nil, rfl, fun d hd => absurd hd (by simp), hP1.new hD, b1.new hD⟩
    · rintro i H2 hi ⟨xs, ds, hL, hd, hl, hp, hP2, b2⟩
      refine ⟨rfl, _, rfl, p, c, ns, n + 1 + 5 * i, rfl, hP2, by omega, fun v d H3 hv hpd hP3 b3 => ?_⟩
      have hL3 := b3 _ _ nD.1 hL
      have T3 := hP2.tups b3
      refine ⟨_, hL3, ?_, xs ++ [v], ds ++ [d], upd_same, ?_, ?_, ?_, ?_, (b2.trans b3).mutNew (b1.free hD nD.1)⟩
      · rw [hd.length]
        exact small1000 (by omega)
      · exact ((hd.mono T3).app (.cons hv .nil)).mono ((Tups.refl _).mut hL3 (by intro _ z; cases z))
      · rw [List.length_append, hl]; rfl
      · intro e he
        rcases List.mem_append.mp he with q | q
        · exact hp e q
        · rw [List.mem_singleton.mp q]; exact hpd
      · exact (hP3.mut nD.1 nD.2).mono (by omega)
    · rintro H2 ⟨xs, ds, hL, hd, hl, hp, hP2, b2⟩
      refine ⟨D, _, rfl, .inl ⟨SqL.of hL, fun t ht => ?_⟩⟩
      have nt := hP2.fresh ht
      exact k t xs ds _ (b2.free ht nt.1) upd_same (hd.mono ((Tups.refl _).new ht)) (by omega) hp ((hP2.new ht).mono (by omega)) (b2.new ht)
end
end K3
namespace GG
open PySem PySem.Spec PyProof.Rows L2
/-! ### defs that are called where no repr is under way: the same promises, for such callers alone -/
section
variable {P : Program} {w : World} {K : PySem.W.Frag} {mg : Str → Option Value} {base : Heap} {CX : CXT} {k : Nat} {f : Addr} {fd : FuncData} {ps : List Str} {sp : Sp}
/-- nothing is being shown by the callers -/
abbrev Free (A : Around) : Prop := A.guards = some []
def FnG (P : Program) (w : World) (K : PySem.W.Frag) (mg : Str → Option Value) (base : Heap) (CX : CXT) (k : Nat) (f : Addr) (fd : FuncData) (ps : List Str) (sp : Sp) : Prop :=
  (∀ vs H Q E, sp vs H Q E → vs.length = ps.length) ∧
  ∀ (A : Around), Free A → Room k A → ∀ (outer : List Env) (s : Shared) (H : Hp), Env0 P w K mg base A outer s H →
    ∀ (args : Args) (us : List Value) (vs : List V), BindsTo s fd args (ps.zip us) → Vals vs us → ∀ (Q : VK) (E : XK), sp vs H Q E →
      codeAny (model P w) A (.call (.ref f) args) (CR CX outer P w H s Q E) s
theorem FnG.of (F : FnOk P w K mg base CX k f fd ps sp) : FnG P w K mg base CX k f fd ps sp :=
  ⟨F.len, fun A _ hr outer s H e0 args us vs hb hv Q E hs => F.run A outer s H args us vs Q E hr e0 hb hv hs⟩
end
theorem fng_fn {CX : CXT} {P : Program} {w : World} {K : PySem.W.Frag} {mg : Str → Option Value} {base : Heap} {k : Nat} {f : Addr} {nm qn : Str} {pa : Arguments} {bd : List Stmt} {sc : Scope} {dv kv doc pm cv ct oc : Value} {an od : Option Addr}
    {sl : Array (Option Value)} {N ps : List Str} {sp : Sp} (lk : K.lookup f = some ⟨oc, od, .func (PySem.W.fnOf nm qn pa bd sc dv kv doc pm an cv ct), sl⟩) (hc : PySem.W.codeIn K cv qn = true) (S : FnScope N ps sc)
    (ln : ∀ vs H Q E, sp vs H Q E → vs.length = ps.length)
    (hbd : ∀ (A : Around) (outer : List Env) (s : Shared) (H : Hp) (vs : List V) (Q : VK) (E : XK), Free A → Room k (A.deeper (envOfC qn sc s.heap.objs.size f cv)) → sp vs H Q E →
      ∃ t, PSs (cxOf CX P w K mg base N qn sc f cv A outer s H E) bd t ∧ t { nx := fun _ H' => Q .non H', rt := Q } (start N vs) H) :
    FnG P w K mg base CX (k + 1) f (PySem.W.fnOf nm qn pa bd sc dv kv doc pm an cv ct) ps sp := by
  refine ⟨ln, ?_⟩
  intro A hg hr outer s H e0 args us vs hb rv Q E hs
  have many := ln _ _ _ _ hs
  have stay : ∀ b o, base.get? b = some o → s.heap.get? b = some o := fun b o e => (e0.bs b o e).1
  have kin : K.In s.heap := e0.mod.kin.keeps stay
  have kinds : ∀ z ∈ ps.zip us, sc.names.lookup z.1 = some .local ∨ (sc.names.lookup z.1 = some .cell ∧ ((cellsFrom (s.heap.objs.size + 1) sc.names []).lookup z.1).isSome = true) := by
    rintro ⟨y, v⟩ hz
    rcases S.par y (List.of_mem_zip hz).1 with h | h
    · exact Or.inl h
    · exact Or.inr ⟨h, PySem.W.cellsFrom_some _ _ _ (Or.inl h)⟩
  refine codeAny_call_function hr.depth (kin _ _ lk) rfl S.co S.gen rfl (PySem.W.codeRec_of kin hc) (hb _ _ _ _ (wpAny_newFunctionEnv_cells S.kind kinds ?_))
  intro env eenv s1 x
  subst eenv
  refine ⟨(e0.mod.nolimit.keeps stay).keeps x.toInCall.keep, codeAny_func ?_⟩
  obtain ⟨t, ht, hq⟩ := hbd A outer s H vs Q E hg (hr.deeper _) hs
  have I0 := inv_start (CX := CX) (E := E) S hr.hd e0 many rv x
  refine wpAny_mono (ht.run [] s1 (start N vs) H _ I0 hq) ?_ (fun e s' z => z)
  intro fl s' z
  match fl, z with
  | .ret u, ⟨v, σ', H', J, r1, q1⟩ => exact ⟨v, H', J.os, J.bare, J.base, J.hok, r1, q1⟩
  | .next, ⟨σ', H', J, q1⟩ => exact ⟨V.non, H', J.os, J.bare, J.base, J.hok, rfl, q1⟩
  | .brk, ⟨_, _, _, q1⟩ => exact q1.elim
  | .cont, ⟨_, _, _, q1⟩ => exact q1.elim
theorem deeper_free {A : Around} {e : Env} (h : Free A) : Free (A.deeper e) := h
/-- a def of the text -/
theorem fun_okG {P : Program} {w : World} {K : PySem.W.Frag} {mg : Str → Option Value} {base : Heap} {x qn : Str} {st : Stmt} {f : Addr} {fd : FuncData} {N ps : List Str} {k : Nat} {sp : Sp} (F : Fun K x qn st f fd) (S : FnScope N ps (defScope st))
    (ln : ∀ vs H Q E, sp vs H Q E → vs.length = ps.length)
    (hbd : ∀ (cdv : Value) (A : Around) (outer : List Env) (s : Shared) (H : Hp) (vs : List V) (Q : VK) (E : XK), Free (A.deeper (envOfC qn (defScope st) s.heap.objs.size f cdv)) → Room k (A.deeper (envOfC qn (defScope st) s.heap.objs.size f cdv)) → sp vs H Q E →
      ∃ t, PSs (cxOf CX0 P w K mg base N qn (defScope st) f cdv A outer s H E).nox (defBody st) t ∧ t { nx := fun _ H' => Q .non H', rt := Q } (start N vs) H) : FnG P w K mg base CX0 (k + 1) f fd ps sp := by
  obtain ⟨_, _, _, _, _, _, cdv, _, _, rfl, lk, hc⟩ := F.ex
  refine fng_fn lk hc S ln ?_
  intro A outer s H vs Q E hg hr hs
  obtain ⟨t, h1, h2⟩ := hbd cdv A outer s H vs Q E (deeper_free hg) hr hs
  exact ⟨t, h1.nox, h2⟩
section
variable {X : Cx} {CX : CXT} {k : Nat} {f : Addr} {fd : FuncData} {ps : List Str} {sp : Sp} {dvs : List V} {ds : List Value} {E : XK} {x : Str} {p pos : Pos} {e : Expr} {es : List Expr} {t : TA}
/-- f(e, ..) of such a def -/
theorem pe_callG (F : FnG X.prog X.w X.K X.mg X.base CX k f fd ps sp) (hf : Free X.A) (hr : Room k X.A) (hg : Gl X x) (hm : X.mg x = some (.ref f)) (hk : PySem.W.keepIn X.K (.ref f) = true) (hb : Binds X.K fd ps ds) (hd : Vals dvs ds) (hx : Passes CX X E)
    (ha : PA X (e :: es) t) (h1 : (x == ("__debug__" : Str)) = false := by decide) (h2 : starEach (e :: es) X.env = (false, eval e X.env) :: starEach es X.env := by rfl) (h3 : (backTo pos (starEach es X.env)).any (·.1) = false := by rfl) :
    PE X (.Call (.Name x p) (e :: es) [] pos) (tCall sp dvs E t) := by
  constructor
  intro pins s σ H Q I h
  refine wpAny_Call_Name_kw (ld_glob I hg hm (PySem.W.callWith_K (h₀ := X.base) I.ok.mod.kin hk (thn (ha.run pos pins s σ H _ I h) ?_) h2 h3) h1)
  rintro us s1 ⟨vs, H1, I1, r, q⟩
  refine ⟨I1.kIn, ?_⟩
  have r2 := r.append hd
  have many : (us ++ ds).length = ps.length := r2.length.symm.trans (F.1 _ _ _ _ q)
  refine wpAny_call (codeAny_mono (F.2 X.A hf hr X.stack s1 H1 I1.env0 ⟨us, []⟩ (us ++ ds) (vs ++ dvs) (hb s1 us I1.kIn many) r2 Q E q) ?_)
  intro r s' z
  match r, z with
  | .error e, z => exact hx pins σ H1 s1 e s' I1 z
  | .ok (.ret u), z => exact I1.after z
  | .ok .next, z => exact z.elim
  | .ok .brk, z => exact z.elim
  | .ok .cont, z => exact z.elim
/-- repr of data without dicts -/
def ShowOk (d : PyData) : Prop := d.showable = true ∧ d.hasDict = false ∧ d.depth ≤ 60 ∧ d.shown.length ≤ sizeLine ∧ (∀ i, d = .int i → i.natAbs.log2 < 1920) ∧ (∀ b, d ≠ .bool b)
def rRepr (K : PySem.W.Frag) : List V → Hp → VK → Prop := fun xs H Q => ∃ (v : V) (d : PyData), xs = [v] ∧ Dp K H v d ∧ ShowOk d ∧ Q (.str d.shown) H
end
section
variable {X : Cx}
theorem call_repr (hf : Free X.A) (hu : X.A.units + 64 < cLine) : CallR X (.builtin "repr") (rRepr X.K) := by
  intro pins s σ H xs us Q I r h
  obtain ⟨v, d, rfl, hd, ⟨h1, h2, h3, h4, h5, h6⟩, q⟩ := h
  obtain ⟨u, rfl, rv⟩ := vals1 r
  obtain ⟨as, hr⟩ := Dp.reads I d v u hd rv
  cases hd with
  | non =>
    obtain rfl : u = Value.none := rv
    exact PySem.P.repr_of_none ⟨.str _, H, I.tok _, ⟨_, rfl⟩, q⟩
  | bl b => exact absurd rfl (h6 b)
  | int i =>
    obtain ⟨t, rfl⟩ := rv
    exact PySem.P.repr_of_int (h5 i rfl) ⟨.str _, H, I.tok _, ⟨_, rfl⟩, q⟩
  | str z =>
    obtain ⟨t, rfl⟩ := rv
    exact PySem.P.repr_of_str ⟨.str _, H, I.tok _, ⟨_, rfl⟩, q⟩ h4
  | lst _ _ =>
    cases rv
    exact repr_of_reads' hr h1 (fun z => by rw [h2] at z; cases z) hf (by omega) (fun _ _ e => e) (fun h' t tk hk => ⟨.str _, H, I.kept hk, ⟨_, rfl⟩, q⟩) h4
  | tup _ _ =>
    cases rv
    exact repr_of_reads' hr h1 (fun z => by rw [h2] at z; cases z) hf (by omega) (fun _ _ e => e) (fun h' t tk hk => ⟨.str _, H, I.kept hk, ⟨_, rfl⟩, q⟩) h4
end
end GG
namespace GG
open PySem PySem.Spec PyProof.Rows L2
/-- the law itself, where its own text shows things -/
theorem law_callG {P : Program} {w : World} {K : PySem.W.Frag} {mg mb : Str → Option Value} {k : Nat} {fa a : Addr} {fd : FuncData} {x : Str} {sp : Sp} {s₁ : Shared} {vs : List Value} {ns : List Int}
    (KX : K.In s₁.heap) (gN : s₁.heap.Ns mainGlobals mg) (bN : s₁.heap.Ns builtinsNs mb) (bB : ∀ x : Str, x ≠ "__name__" → mb x = bootBuiltins x) (lim : s₁.heap.NoLimit) (gen : s₁.gens = #[])
    (ha : s₁.heap.get? a = some { cls := .type "list", data := .seq vs.toArray }) (hi : IntsAre vs ns) (hl : ns.length ≤ sizeLine) (hr : Room k callerA)
    (F : ∀ b : Heap, K.In b → b.Ns mainGlobals mg → FnG P w K mg b CX0 k fa fd [x] sp) (hb : ∀ (s : Shared) (u : Value), BindsTo s fd ⟨[u], []⟩ [(x, u)])
    (hs : ∀ H : Hp, Only H → SqL K H a (ns.map V.int) → sp [.ref a] H (fun v _ => v = .bl true) fun _ _ _ => False) :
    codeAny (model P w) callerA (.call (.ref fa) ⟨[.ref a], []⟩) (fun r s' => r = .ok (.ret (.bool true)) ∧ OldK s₁.heap s'.heap ∧ s'.os = s₁.os ∧ AllBare s'.gens) s₁ := by
  have main : ∀ H : Hp, Only H → SqL K H a (ns.map V.int) → HOk P w H s₁.heap → (∀ b, H b ≠ none → b = a ∧ K.lookup a = none) →
      codeAny (model P w) callerA (.call (.ref fa) ⟨[.ref a], []⟩) (fun r s' => r = .ok (.ret (.bool true)) ∧ OldK s₁.heap s'.heap ∧ s'.os = s₁.os ∧ AllBare s'.gens) s₁ := by
    intro H hO hS ok only
    have dic : ∀ {b : Addr} {o : Obj} {es : Array DictEntry} {ep : Nat}, s₁.heap.get? b = some o → o.data = .dict es ep → H b = none := by
      intro b o es ep e d
      match q : H b with
      | none => rfl
      | some u =>
        obtain ⟨rfl, _⟩ := only b (by rw [q]; exact fun z => by cases z)
        rw [ha] at e
        cases e
        cases d
    have ns1 : ∀ {b : Addr} {m : Str → Option Value}, s₁.heap.Ns b m → (hidT s₁.heap H).Ns b m := by
      rintro b m ⟨o, es, ep, e, d, r⟩
      exact ⟨o, es, ep, hidT_get e (dic e d), d, r⟩
    have kin : K.In (hidT s₁.heap H) := by
      intro b o e
      refine hidT_get (KX b o e) ?_
      match q : H b with
      | none => rfl
      | some u =>
        obtain ⟨rfl, h2⟩ := only b (by rw [q]; exact fun z => by cases z)
        rw [h2] at e
        cases e
    obtain ⟨mc, l1, l2⟩ := lim
    have e0 : Env0 P w K mg (hidT s₁.heap H) callerA [] s₁ H :=
      { frames := rfl, mod := ⟨kin, ns1 gN, ⟨mb, ns1 bN, bB⟩, ⟨mc, ns1 l1, l2⟩⟩, bs := fun b o e => of_hidT e, bsz := Nat.le_of_eq (hidT_size _ _), funs := trivial, frf := fun b z => (List.not_mem_nil (show b ∈ ([] : List Addr) from z)).elim, hok := ok, bare := .of_eq gen }
    refine codeAny_mono ((F _ kin (ns1 gN)).2 callerA rfl hr [] s₁ H e0 ⟨[.ref a], []⟩ [.ref a] [.ref a] (hb s₁ (.ref a)) (.cons rfl .nil) _ _ (hs H hO hS)) ?_
    intro r s' z
    match r, z with
    | .error e, z => exact z.elim
    | .ok .next, z => exact z.elim
    | .ok .brk, z => exact z.elim
    | .ok .cont, z => exact z.elim
    | .ok (.ret u), ⟨v, H', os, bare, un, ok', rv, q⟩ =>
      have q' : v = .bl true := q
      subst q'
      have eu : u = Value.bool true := rv
      subst eu
      refine ⟨rfl, OldK.of_keep ?_, os, bare⟩
      intro b o e
      match q : H b with
      | none => exact un.keep b o e q (fun z => List.not_mem_nil (show b ∈ ([] : List Addr) from z)) (fun z => List.not_mem_nil (show b ∈ ([] : List Addr) from z))
      | some u =>
        rcases hO b with z | ⟨ob, xs, z⟩
        · rw [z] at q
          cases q
        · have i1 := (ok b _ z).1
          have i2 := (ok' b _ (un.frzs b ob _ z)).1
          rw [e] at i1
          cases i1
          exact i2
  have rv := vals_ints hi
  match hk : K.lookup a with
  | some o =>
    have e := KX a o hk
    rw [ha] at e
    cases e
    exact main (fun _ => none) (fun _ => .inl rfl) (.inr ⟨_, vs.toArray, _, hk, rfl, rfl, rfl, by rw [List.size_toArray, hi.length]; exact hl, by simpa using rv⟩) (fun b u z => nomatch z) (fun b z => absurd rfl z)
  | none =>
    have atA : ∀ {b : Addr} {u : HO}, (if b = a then some (HO.frz { cls := .type "list", data := .seq vs.toArray } (.lst (ns.map V.int))) else none) = some u → b = a ∧ u = HO.frz { cls := .type "list", data := .seq vs.toArray } (.lst (ns.map V.int)) := by
      intro b u z
      by_cases hb : b = a
      · rw [if_pos hb] at z
        exact ⟨hb, (Option.some.inj z).symm⟩
      · rw [if_neg hb] at z
        cases z
    refine main (fun b => if b = a then some (.frz { cls := .type "list", data := .seq vs.toArray } (.lst (ns.map V.int))) else none) ?_ (.inl (.inr ⟨{ cls := .type "list", data := .seq vs.toArray }, if_pos rfl⟩)) ?_ ?_
    · intro b
      by_cases hb : b = a
      · exact .inr ⟨_, _, if_pos hb⟩
      · exact .inl (if_neg hb)
    · intro b u z
      obtain ⟨rfl, rfl⟩ := atA z
      exact ⟨ha, by rw [List.length_map]; exact hl, vs, _, rv, ha⟩
    · intro b z
      refine ⟨?_, hk⟩
      by_cases hb : b = a
      · exact hb
      · exact absurd (if_neg hb) z
/-- the end of a law whose text shows things -/
theorem walk_ofG {l : PySem.W.OpenLaw} {n k : Nat} {q : Program} {loose : List Str} {XP : (Str → Option Value) → Heap → Prop} {YP : World → Heap → Prop} {d : DefRec} {K : Params → PySem.W.Frag} {sp : PySem.W.Frag → Sp} {x : Str}
    (hn : l.most = some n) (h2 : n ≤ sizeLine) (hd : d.params.defaults = []) (hr : Room k callerA) (hY : ∀ (w : World) (h : Heap), YP w h → (K w.params).In h)
    (F : ∀ (w : World) (mg : Str → Option Value) (fa : Addr) (h : Heap), (K w.params).In h → h.Ns mainGlobals mg → mg d.name = some (.ref fa) → ∃ fd : FuncData, (∀ (s : Shared) (u : Value), BindsTo s fd ⟨[u], []⟩ [(x, u)]) ∧
      ∀ b : Heap, (K w.params).In b → b.Ns mainGlobals mg → FnG l.prog w (K w.params) mg b CX0 k fa fd [x] (sp (K w.params)))
    (hs : ∀ (K : PySem.W.Frag) (H : Hp) (a : Addr) (ns : List Int), ns.length ≤ n → Only H → SqL K H a (ns.map V.int) → sp K [.ref a] H (fun v _ => v = .bl true) fun _ _ _ => False) :
    PySem.W.WalkO q loose XP YP l.row.toRowW d [] (fun f vs => PySem.call f vs) := by
  refine Att.attach_call hn hd ?_
  intro w s₀ s₁ mg mb fa o pm cd doc a vs ns G Y ho hod hcd hmg hobj hints hlen hg
  have KX := hY w _ Y
  obtain ⟨fd, hb, hF⟩ := F w mg fa _ KX G.T.g hmg
  exact law_callG KX G.T.g G.T.b G.T.builtins G.T.nolimit hg hobj hints (Nat.le_trans hlen h2) hr hF hb (fun H hO hS => hs (K w.params) H a ns hlen hO hS)
end GG
namespace GG
open PySem PySem.Spec PyProof.Rows L2
section
variable {X : Cx} {k : Nat} {C f : Addr} {fd : FuncData} {ps : List Str} {sp : Sp}
/-- what a def of one's own, called by the machine, hands back -/
theorem run_in1 {pins : List (Addr × Obj)} {σ : L2.St} {H : Hp} {s : Shared} {Q : VK} {us : List Value} {vs : List V} (F : FnOk X.prog X.w X.K X.mg X.base CX0 k f fd ps sp) (hr : Room (k + 1) X.A) (hb : Binds X.K fd ps [])
    (I : Inv X pins σ H s) (rv : Vals vs us) (h : sp vs H Q E0) : wpAny (model X.prog X.w) X.A.in1 (call (.ref f) us) (EP X pins σ Q) X.xe s := by
  have many : (us ++ ([] : List Value)).length = ps.length := by
    rw [List.append_nil, ← rv.length]
    exact F.len _ _ _ _ h
  have bb := hb s us I.kIn many
  rw [List.append_nil] at bb
  refine wpAny_call (codeAny_mono (F.run X.A.in1 X.stack s H ⟨us, []⟩ us vs Q E0 hr.in1 I.env0.in1 bb rv h) ?_)
  intro r s' z
  match r, z with
  | .error e, z => exact z.elim
  | .ok (.ret u), z => exact I.after z
  | .ok .next, z => exact z.elim
  | .ok .brk, z => exact z.elim
  | .ok .cont, z => exact z.elim
/-- len(w) by an own __len__ -/
def rLenO (C : Addr) (sp : Sp) : List V → Hp → VK → Prop := fun xs H Q => ∃ a dx fs, xs = [.ref a] ∧ H a = some (.ins C dx fs) ∧ sp [.ref a] H (fun v H' => ∃ n : Int, v = .int n ∧ 0 ≤ n ∧ n < 2 ^ 63 ∧ Q (.int n) H') E0
theorem call_lenO (F : FnOk X.prog X.w X.K X.mg X.base CX0 k f fd ps sp) (hr : Room (k + 1) X.A) (hb : Binds X.K fd ps []) (hs : PySem.W.findIn X.K (.ref C) "__len__" = some (some (.ref f))) (hf : PySem.W.isFn X.K (.ref f) = true) :
    CallR X (.builtin "len") (rLenO C sp) := by
  intro pins s σ H xs us Q I r h
  obtain ⟨a, dx, fs, rfl, ha, hsp⟩ := h
  obtain ⟨u, rfl, ru⟩ := vals1 r
  cases ru
  obtain ⟨mA, J, _⟩ := ins_get I.hok ha
  obtain ⟨od, J, _⟩ := J.look
  obtain ⟨m, hF⟩ := I.fr
  refine PySem.W.len_K hF I.ok.mod.kin J hs hf (wpAny_mono (run_in1 F hr hb I (.cons (show RelV (V.ref a) (Value.ref a) from rfl) .nil) hsp) ?_ fun _ _ z => z)
  rintro v s' ⟨y, H', I', ry, n, rfl, n0, n1, q⟩
  obtain ⟨t, rfl⟩ := ry
  exact ⟨⟨n0, n1⟩, .int n, H', I'.tok _, ⟨_, rfl⟩, q⟩
/-- w == y by an own __eq__, whatever y is (but of a class below C's) -/
def rEqO (K : PySem.W.Frag) (C : Addr) (sp : Sp) : R2 := fun x y H Q => ∃ (a dx : Addr) (fs : List (Str × V)) (t : Value), x = .ref a ∧ H a = some (.ins C dx fs) ∧ TyX K H y t ∧ PySem.W.notFirst K C t = true ∧ sp [.ref a, y] H (fun v H' => ∃ b : Bool, v = .bl b ∧ Q (.bl b) H') E0
end
end GG
namespace K3
open PySem L2
/-! ### what a law may lean on of a wire -/
def RowD (d : PyData) : Prop := ∃ ds, d = .tuple ds ∧ ds.length ≤ 4 ∧ ∀ e ∈ ds, PlainD e
def LetD (first : Nat) (rows : List PyData) (heard : Nat) : PyData := .tuple [.str "rows", .int first, .tuple rows, .int heard]
theorem Dt.tupI {H : Hp} {a : Addr} {ds : List PyData} (h : Dt H (.ref a) (.tuple ds)) : ∃ xs, H a = some (.tup xs) ∧ DtAll H xs ds := by
  cases h with
  | tup h1 h2 => exact ⟨_, h1, h2⟩
theorem Dt.ref_of {H : Hp} {v : V} {ds : List PyData} (h : Dt H v (.tuple ds)) : ∃ a, v = .ref a := by
  cases h with
  | tup h1 h2 => exact ⟨_, rfl⟩
structure WK where
  C : Addr
  At : Hp → List Addr → Addr → List PyData → Nat → Nat → Prop
  ins : ∀ {H fp w rows put tk}, At H fp w rows put tk → ∃ dx fs, H w = some (.ins C dx fs) ∧ ∀ m ∈ ([("put" : Str), "letter", "take", "heard", "unheard"] : List Str), fs.lookup m = none
  mem : ∀ {H fp w rows put tk}, At H fp w rows put tk → w ∈ fp
  there : ∀ {H fp w rows put tk}, At H fp w rows put tk → ∀ a ∈ fp, ∃ u, H a = some u ∧ ∀ xs, u ≠ .tup xs
  keep : ∀ {H H' fp w rows put tk}, At H fp w rows put tk → (∀ a ∈ fp, H' a = H a) → Tups H H' → At H' fp w rows put tk
  le : ∀ {H fp w rows put tk}, At H fp w rows put tk → rows.length ≤ put
  rowD : ∀ {H fp w rows put tk}, At H fp w rows put tk → ∀ d ∈ rows, RowD d
variable (W : WK)
def spWInit : Sp := fun vs H Q _ => ∃ (H0 : Hp) (w dx : Addr), vs = [.ref w] ∧ Same H0 H ∧ H0 w = none ∧ H w = some (.ins W.C dx []) ∧ ∀ (fp : List Addr) (H' : Hp), W.At H' fp w [] 0 0 → (∀ a ∈ fp, H0 a = none) → Same H0 H' → Q .non H'
def spWPut : Sp := fun vs H Q _ => ∃ (w r : Addr) (d : PyData) (fp : List Addr) (rows : List PyData) (put tk : Nat), vs = [.ref w, .ref r] ∧ W.At H fp w rows put tk ∧ Dt H (.ref r) d ∧ RowD d ∧ put ≤ 1000 ∧
  ∀ (fp' : List Addr) (H' : Hp), W.At H' fp' w (rows ++ [d]) (put + 1) tk → (∀ a ∈ fp', a ∈ fp ∨ H a = none) → But (· ∈ fp) H H' → Q (.int put) H'
def spWLetter : Sp := fun vs H Q _ => ∃ (w : Addr) (fp : List Addr) (rows : List PyData) (put tk : Nat), vs = [.ref w] ∧ W.At H fp w rows put tk ∧ put ≤ 1000 ∧
  ∀ (t : Addr) (H' : Hp), H t = none → Dt H' (.ref t) (LetD (put - rows.length) rows tk) → Same H H' → Q (.ref t) H'
def spWTake : Sp := fun vs H Q _ => ∃ (w t : Addr) (fp : List Addr) (rows new : List PyData) (put tk first heard : Nat), vs = [.ref w, .ref t] ∧ W.At H fp w rows put tk ∧ Dt H (.ref t) (LetD first new heard) ∧
  first ≤ tk ∧ heard ≤ put ∧ (∀ d ∈ new, RowD d) ∧ new.length ≤ 1000 ∧ put ≤ 1000 ∧ tk ≤ 1000 ∧
  ∀ (l : Addr) (xs : List V) (fp' : List Addr) (H' : Hp), H l = none → l ∉ fp' → H' l = some (.lst xs) → DtAll H' xs (new.drop (tk - first)) →
    W.At H' fp' w (rows.drop (heard - (put - rows.length))) put (tk + (new.drop (tk - first)).length) → (∀ a ∈ fp', a ∈ fp ∨ H a = none) → But (· ∈ fp) H H' → Q (.ref l) H'
def spWHeard : Sp := fun vs H Q _ => ∃ (w : Addr) (fp : List Addr) (rows : List PyData) (put tk : Nat), vs = [.ref w] ∧ W.At H fp w rows put tk ∧ ∀ H', Same H H' → Q (.int tk) H'
def spWUnheard : Sp := fun vs H Q _ => ∃ (w : Addr) (fp : List Addr) (rows : List PyData) (put tk : Nat), vs = [.ref w] ∧ W.At H fp w rows put tk ∧ put ≤ 1000 ∧
  ∀ (l : Addr) (xs : List V) (H' : Hp), H l = none → H' l = some (.lst xs) → DtAll H' xs rows → Same H H' → Q (.ref l) H'
def spWLen : Sp := fun vs H Q _ => ∃ (w : Addr) (fp : List Addr) (rows : List PyData) (put tk : Nat), vs = [.ref w] ∧ W.At H fp w rows put tk ∧ put ≤ 1000 ∧ ∀ H', Same H H' → Q (.int rows.length) H'
/-- a method by its name -/
def MCal (P : Program) (w : World) (K : PySem.W.Frag) (mg : Str → Option Value) (base : Heap) (C : Addr) (m : Str) (k : Nat) (sp : Sp) : Prop :=
  ∃ f fd ps, Meth K C m f ∧ Binds K fd ps [] ∧ FnOk P w K mg base CX0 k f fd ps sp
theorem MCal.mono {P : Program} {w : World} {K : PySem.W.Frag} {mg : Str → Option Value} {base : Heap} {C : Addr} {m : Str} {j k : Nat} {sp : Sp} (h : MCal P w K mg base C m j sp) (jk : j ≤ k) : MCal P w K mg base C m k sp := by
  obtain ⟨f, fd, ps, h1, h2, h3⟩ := h
  exact ⟨f, fd, ps, h1, h2, h3.mono jk⟩
structure Wires (P : Program) (w : World) (K : PySem.W.Frag) (mg : Str → Option Value) (base : Heap) (k : Nat) : Prop where
  cls : Cls K W.C
  glob : mg "Wire" = some (.ref W.C)
  new : ∃ f fd ps, Mk K W.C f ∧ Binds K fd ps [] ∧ FnOk P w K mg base CX0 k f fd ps (spWInit W)
  put : MCal P w K mg base W.C "put" k (spWPut W)
  letter : MCal P w K mg base W.C "letter" k (spWLetter W)
  take : MCal P w K mg base W.C "take" k (spWTake W)
  heard : MCal P w K mg base W.C "heard" k (spWHeard W)
  unheard : MCal P w K mg base W.C "unheard" k (spWUnheard W)
  len : ∃ f fd ps, PySem.W.findIn K (.ref W.C) "__len__" = some (some (.ref f)) ∧ PySem.W.isFn K (.ref f) = true ∧ Binds K fd ps [] ∧ FnOk P w K mg base CX0 k f fd ps (spWLen W)
theorem sameBut {H H' : Hp} (s : Same H H') (M : Addr → Prop) : But M H H' := fun b o _ e => s b o e
theorem sameTups {H H' : Hp} (s : Same H H') : Tups H H' := fun a xs e => s a _ e
/-- a wire stands through what leaves it alone -/
theorem WK.but {W : WK} {M : Addr → Prop} {H H' : Hp} {fp : List Addr} {w : Addr} {rows : List PyData} {put tk : Nat} (h : W.At H fp w rows put tk) (e : But M H H') (n : ∀ a ∈ fp, ¬ M a) (t : Tups H H') : W.At H' fp w rows put tk :=
  W.keep h (fun a ha => by
    obtain ⟨u, hu, _⟩ := W.there h a ha
    rw [hu, e a u (n a ha) hu]) t
theorem WK.same {W : WK} {H H' : Hp} {fp : List Addr} {w : Addr} {rows : List PyData} {put tk : Nat} (h : W.At H fp w rows put tk) (e : Same H H') : W.At H' fp w rows put tk :=
  WK.but h (sameBut e fun _ => False) (fun _ _ z => z) (sameTups e)
theorem WK.tups {W : WK} {H H' : Hp} {fp : List Addr} {w : Addr} {rows : List PyData} {put tk : Nat} (h : W.At H fp w rows put tk) (e : But (· ∈ fp) H H') : Tups H H' :=
  e.tups fun a xs m z => by
    obtain ⟨u, hu, hn⟩ := W.there h a m
    rw [hu] at z
    exact hn xs (Option.some.inj z)
theorem WK.ne {W : WK} {H : Hp} {fp : List Addr} {w : Addr} {rows : List PyData} {put tk : Nat} (h : W.At H fp w rows put tk) {l : Addr} (hl : H l = none) : l ∉ fp := fun m => by
  obtain ⟨u, hu, _⟩ := W.there h l m
  rw [hl] at hu
  cases hu
end K3
namespace K3
open PySem L2 GG
/-! ### how long what is shown may be -/
structure Sh (n k : Nat) (d : PyData) : Prop where
  show' : d.showable = true
  plain : d.hasDict = false
  deep : d.depth ≤ k
  long : d.shown.length ≤ n
theorem Sh.mono {n m k l : Nat} {d : PyData} (h : Sh n k d) (a : n ≤ m) (b : k ≤ l) : Sh m l d := ⟨h.show', h.plain, Nat.le_trans h.deep b, Nat.le_trans h.long a⟩
theorem sh_all {n k : Nat} : ∀ {ds : List PyData}, (∀ d ∈ ds, Sh n k d) → PyData.showableAll ds = true ∧ PyData.hasDictAll ds = false ∧ PyData.depthAll ds ≤ k ∧ piled (PyData.shownAll ds) ≤ ds.length * (n + 2) ∧ (PyData.shownAll ds).length = ds.length
  | [], _ => ⟨rfl, rfl, Nat.zero_le _, Nat.zero_le _, rfl⟩
  | d :: ds, h => by
    obtain ⟨a, b, c, e, f⟩ := sh_all (ds := ds) fun x hx => h x (List.mem_cons_of_mem _ hx)
    have q := h d (List.mem_cons_self ..)
    refine ⟨?_, ?_, ?_, ?_, ?_⟩
    · simp only [PyData.showableAll, q.show', a, Bool.and_self]
    · simp only [PyData.hasDictAll, q.plain, b, Bool.or_self]
    · simp only [PyData.depthAll]
      have := q.deep
      omega
    · simp only [PyData.shownAll, piled_cons, List.length_cons, Nat.add_mul, Nat.one_mul]
      have := q.long
      omega
    · simp only [PyData.shownAll, List.length_cons, f]
theorem textFrom_le (ts : List Str) : (listText ts).length ≤ piled ts + 2 := by
  unfold listText
  rw [strLen_append]
  have e1 : (("]" : String) : Str).length = 1 := rfl
  rw [e1]
  cases ts with
  | nil => exact Nat.le_refl 2
  | cons t r =>
    show (textFrom 1 _ r).length + 1 ≤ _
    rw [textFrom_length_pos _ _ _ (by decide), strLen_append, strLen_append, piled_cons]
    have e2 : (("[" : String) : Str).length = 1 := rfl
    have e3 : ((if 0 > 0 then ", " else "" : String) : Str).length = 0 := rfl
    rw [e2, e3]
    omega
theorem tupleText_le (ts : List Str) : (tupleText ts).length ≤ piled ts + 3 := by
  unfold tupleText
  rw [strLen_append, strLen_append]
  have e1 : (("(" : String) : Str).length = 1 := rfl
  have e2 : (Str.ofString (if (ts.length == 1) = true then ",)" else ")")).length ≤ 2 := by
    cases ts.length == 1
    · exact Nat.le_succ 1
    · exact Nat.le_refl 2
  cases ts with
  | nil =>
    have e3 : (Str.join ", " []).length = 0 := rfl
    rw [e1, e3]
    omega
  | cons t r =>
    have e3 := join_length_add (t :: r) (by simp)
    rw [e1]
    omega
theorem Sh.tup {n k : Nat} {ds : List PyData} (h : ∀ d ∈ ds, Sh n k d) : Sh (ds.length * (n + 2) + 3) (k + 1) (.tuple ds) := by
  obtain ⟨a, b, c, e, f⟩ := sh_all h
  refine ⟨?_, ?_, ?_, ?_⟩
  · simp only [PyData.showable, a]
  · simp only [PyData.hasDict, b]
  · simp only [PyData.depth]
    omega
  · show (tupleText (PyData.shownAll ds)).length ≤ _
    exact Nat.le_trans (tupleText_le _) (by omega)
theorem Sh.lst {n k : Nat} {ds : List PyData} (h : ∀ d ∈ ds, Sh n k d) : Sh (ds.length * (n + 2) + 3) (k + 1) (.list ds) := by
  obtain ⟨a, b, c, e, f⟩ := sh_all h
  refine ⟨?_, ?_, ?_, ?_⟩
  · simp only [PyData.showable, a]
  · simp only [PyData.hasDict, b]
  · simp only [PyData.depth]
    omega
  · show (listText (PyData.shownAll ds)).length ≤ _
    exact Nat.le_trans (textFrom_le _) (by omega)
theorem sh_int {i : Int} (h : i.natAbs < 10 ^ 10) : Sh 12 1 (.int i) := by
  refine ⟨?_, rfl, by simp [PyData.depth], ?_⟩
  · simp only [PyData.showable]
    refine decide_eq_true ?_
    by_cases h0 : i.natAbs = 0
    · rw [h0]; decide
    · refine (Nat.log2_lt h0).mpr (Nat.lt_of_lt_of_le h ?_)
      calc (10 : Nat) ^ 10 ≤ 2 ^ 40 := by decide
        _ ≤ 2 ^ 1920 := Nat.pow_le_pow_right (by decide) (by decide)
  · show (Str.ofString (toString i)).length ≤ 12
    rw [ofString_length]
    exact Nat.le_trans (int_text_length_le10 (k := 10) (by decide) h) (by decide)
theorem sh_rows : Sh 12 1 (.str "rows") := ⟨rfl, rfl, by simp [PyData.depth], by decide +kernel⟩
theorem sh_none : Sh 12 1 .none := ⟨rfl, rfl, by simp [PyData.depth], by decide +kernel⟩
theorem PlainD.sh {d : PyData} (h : PlainD d) : Sh 40 2 d := by
  rcases h with rfl | ⟨i, h1, h2, rfl⟩ | ⟨z, hz, rfl⟩ | rfl | rfl | rfl
  · exact sh_none.mono (by decide) (by decide)
  · exact (sh_int (by omega)).mono (by decide) (by decide)
  · refine ⟨rfl, rfl, by simp [PyData.depth], ?_⟩
    simp only [List.mem_cons, List.not_mem_nil, or_false] at hz
    rcases hz with rfl | rfl | rfl | rfl | rfl | rfl <;> decide +kernel
  · exact ⟨by decide +kernel, by decide +kernel, by decide +kernel, by decide +kernel⟩
  · exact ⟨by decide +kernel, by decide +kernel, by decide +kernel, by decide +kernel⟩
  · exact ⟨by decide +kernel, by decide +kernel, by decide +kernel, by decide +kernel⟩
theorem RowD.sh {d : PyData} (h : RowD d) : Sh 200 3 d := by
  obtain ⟨ds, rfl, h4, hp⟩ := h
  have q := Sh.tup fun e he => (hp e he).sh
  refine q.mono ?_ (by decide)
  have : ds.length * (40 + 2) ≤ 4 * 42 := Nat.mul_le_mul_right _ h4
  omega
theorem RowD.lay {d : PyData} (h : RowD d) : d.canLay0 = true ∧ d.depth ≤ 4 := by
  obtain ⟨ds, rfl, h4, hp⟩ := h
  have all : ∀ l : List PyData, (∀ e ∈ l, PlainD e) → PyData.canLayAll0 l = true ∧ PyData.depthAll l ≤ 3 := by
    intro l
    induction l with
    | nil => exact fun _ => ⟨rfl, Nat.zero_le _⟩
    | cons a r ih =>
      intro h
      obtain ⟨q1, q2⟩ := ih fun e he => h e (List.mem_cons_of_mem _ he)
      obtain ⟨q3, q4⟩ := (h a (List.mem_cons_self ..)).lay
      refine ⟨?_, ?_⟩
      · simp only [PyData.canLayAll0, q3, q1, Bool.and_self]
      · simp only [PyData.depthAll]; omega
  obtain ⟨q1, q2⟩ := all ds hp
  refine ⟨?_, ?_⟩
  · simp only [PyData.canLay0, q1]
  · simp only [PyData.depth]; omega
/-- a list of rows, shown -/
theorem rows_sh {ds : List PyData} (h : ∀ d ∈ ds, RowD d) (n : ds.length ≤ 1000) : Sh 300000 4 (.list ds) := by
  refine (Sh.lst fun d hd => (h d hd).sh).mono ?_ (by decide)
  have : ds.length * (200 + 2) ≤ 1000 * 202 := Nat.mul_le_mul_right _ n
  omega
theorem let_sh {first heard : Nat} {ds : List PyData} (h : ∀ d ∈ ds, RowD d) (n : ds.length ≤ 1000) (hf : first ≤ 1000000) (hh : heard ≤ 1000000) : Sh 1300000 5 (LetD first ds heard) := by
  have rt : Sh 300000 4 (.tuple ds) := by
    refine (Sh.tup fun d hd => (h d hd).sh).mono ?_ (by decide)
    have : ds.length * (200 + 2) ≤ 1000 * 202 := Nat.mul_le_mul_right _ n
    omega
  refine (Sh.tup (n := 300000) (k := 4) ?_).mono (by simp) (by decide)
  intro d hd
  simp only [List.mem_cons, List.not_mem_nil, or_false] at hd
  rcases hd with rfl | rfl | rfl | rfl
  · exact sh_rows.mono (by decide) (by decide)
  · exact (sh_int (by omega)).mono (by decide) (by decide)
  · exact rt
  · exact (sh_int (by omega)).mono (by decide) (by decide)
/-- what repr asks -/
theorem Sh.okT {ds : List PyData} {k : Nat} (h : Sh 1300000 k (.tuple ds)) (hk : k ≤ 60) : ShowOk (.tuple ds) :=
  ⟨h.show', h.plain, Nat.le_trans h.deep hk, Nat.le_trans h.long (by decide), (fun i z => nomatch z), fun b z => nomatch z⟩
theorem Sh.okL {ds : List PyData} {k : Nat} (h : Sh 1300000 k (.list ds)) (hk : k ≤ 60) : ShowOk (.list ds) :=
  ⟨h.show', h.plain, Nat.le_trans h.deep hk, Nat.le_trans h.long (by decide), (fun i z => nomatch z), fun b z => nomatch z⟩
end K3
namespace K3
open PySem L2 GG
theorem cutV_drop {xs : List V} {k : Nat} : cutV xs (some (k : Int)) none = xs.drop k := by
  have e1 : HT.sIx xs.length 0 (some (k : Int)) = min k xs.length := HT.sIx_nat ..
  have e2 : HT.sIx xs.length xs.length none = xs.length := rfl
  unfold cutV
  rw [e1, e2]
  by_cases h : k ≤ xs.length
  · rw [Nat.min_eq_left h]
    apply List.take_of_length_le
    rw [List.length_drop]
    exact Nat.le_refl _
  · rw [Nat.min_eq_right (by omega), List.drop_eq_nil_of_le (Nat.le_refl _), List.drop_eq_nil_of_le (by omega)]
    simp
theorem same_new {H H' : Hp} (s : Same H H') {p : Addr} {o : HO} (h : H' p = none) : Same H (upd H' p o) := fun b u z => by
  have z1 := s _ _ z
  rw [upd_ne (ne_of_none z1 h)]
  exact z1
theorem same_mut {H H' : Hp} (s : Same H H') {p : Addr} {o : HO} (h : H p = none) : Same H (upd H' p o) := fun b u z => by
  rw [upd_ne (ne_of_none z h)]
  exact s _ _ z
theorem iteYes {c A B : Prop} [Decidable c] (hc : c) (h : A) : if decide c = true then A else B := by
  rw [decide_eq_true hc]
  exact iteT h
/-! ### objects made one behind the other -/
def Trk (H : Hp) (O : List Addr) : Prop := O.Nodup ∧ ∀ a ∈ O, ∃ u, H a = some u
theorem Trk.same {H H' : Hp} {O : List Addr} (h : Trk H O) (s : Same H H') : Trk H' O := ⟨h.1, fun a m => by
  obtain ⟨u, hu⟩ := h.2 a m
  exact ⟨u, s a u hu⟩⟩
theorem Trk.not {H : Hp} {O : List Addr} (h : Trk H O) {l : Addr} (hl : H l = none) : l ∉ O := fun m => by
  obtain ⟨v, hv⟩ := h.2 l m
  rw [hl] at hv
  cases hv
theorem Trk.add {H H' : Hp} {O : List Addr} (h : Trk H O) {l : Addr} {u : HO} (hl : H l = none) (s : Same H H') (e : H' l = some u) : Trk H' (l :: O) := by
  refine ⟨List.nodup_cons.mpr ⟨h.not hl, h.1⟩, fun a m => ?_⟩
  rcases List.mem_cons.mp m with rfl | m
  · exact ⟨u, e⟩
  · exact (h.same s).2 a m
theorem Trk.two {H H' : Hp} {O : List Addr} (h : Trk H O) {l m : Addr} {u v : HO} (hl : H l = none) (hm : H m = none) (n : l ≠ m) (s : Same H H') (e : H' l = some u) (f : H' m = some v) : Trk H' (m :: l :: O) := by
  refine ⟨List.nodup_cons.mpr ⟨fun z => ?_, (h.add hl s e).1⟩, fun a z => ?_⟩
  · rcases List.mem_cons.mp z with z | z
    · exact n z.symm
    · exact h.not hm z
  · rcases List.mem_cons.mp z with rfl | z
    · exact ⟨v, f⟩
    · exact (h.add hl s e).2 a z
/-- a wire's objects beside others -/
def Dj (H : Hp) (fp O : List Addr) : Prop := (∀ a ∈ fp, ∃ u, H a = some u) ∧ ∀ a ∈ fp, a ∉ O
theorem Dj.same {H H' : Hp} {fp O : List Addr} (h : Dj H fp O) (s : Same H H') : Dj H' fp O := ⟨fun a m => by
  obtain ⟨u, hu⟩ := h.1 a m
  exact ⟨u, s a u hu⟩, h.2⟩
theorem Dj.add {H H' : Hp} {fp O : List Addr} (h : Dj H fp O) {l : Addr} (hl : H l = none) (s : Same H H') : Dj H' fp (l :: O) := ⟨(h.same s).1, fun a m z => by
  rcases List.mem_cons.mp z with z | z
  · obtain ⟨u, hu⟩ := h.1 a m
    rw [z, hl] at hu
    cases hu
  · exact h.2 a m z⟩
theorem Dj.two {H H' : Hp} {fp O : List Addr} (h : Dj H fp O) {l m : Addr} (hl : H l = none) (hm : H m = none) (s : Same H H') : Dj H' fp (m :: l :: O) := ⟨(h.same s).1, fun a z q => by
  obtain ⟨u, hu⟩ := h.1 a z
  rcases List.mem_cons.mp q with q | q
  · rw [q, hm] at hu
    cases hu
  · rcases List.mem_cons.mp q with q | q
    · rw [q, hl] at hu
      cases hu
    · exact h.2 a z q⟩
end K3
namespace K3
open PySem L2 GG
structure S7 where
  w : Addr
  P : Addr
  K : Addr
  fp : List Addr
  rows : List PyData
  kn : Nat
  tk : Nat
def S7.own (x : S7) : List Addr := [x.P, x.K]
/-- one end, beside the other one y -/
structure S7Ok (W : WK) (H : Hp) (x y : S7) (i : Nat) : Prop where
  hP : ∃ xs, H x.P = some (.lst xs) ∧ DtAll H xs x.rows
  hK : ∃ xs, H x.K = some (.lst xs) ∧ DtAll H xs (y.rows.take x.tk)
  hW : W.At H x.fp x.w (x.rows.drop x.kn) x.rows.length x.tk
  row : ∀ d ∈ x.rows, RowD d
  len : x.rows.length ≤ i
  kx : x.kn ≤ y.tk
  tx : x.tk ≤ y.rows.length
structure Two (W : WK) (H : Hp) (El Pl Kl : Addr) (x y : S7) (i : Nat) : Prop where
  lE : H El = some (.lst [.ref x.w, .ref y.w])
  lP : H Pl = some (.lst [.ref x.P, .ref y.P])
  lK : H Kl = some (.lst [.ref x.K, .ref y.K])
  ox : S7Ok W H x y i
  oy : S7Ok W H y x i
theorem S7Ok.keep {W : WK} {M : Addr → Prop} {H H' : Hp} {x y : S7} {i : Nat} (h : S7Ok W H x y i) (b : But M H H') (t : Tups H H') (n : ∀ a ∈ x.own, ¬ M a) (nf : ∀ a ∈ x.fp, ¬ M a) : S7Ok W H' x y i := by
  obtain ⟨⟨xs, p1, p2⟩, ⟨ys, q1, q2⟩, h3, h4, h5, h6, h7⟩ := h
  exact ⟨⟨xs, b _ _ (n _ (by simp [S7.own])) p1, p2.mono t⟩, ⟨ys, b _ _ (n _ (by simp [S7.own])) q1, q2.mono t⟩, WK.but h3 b nf t, h4, h5, h6, h7⟩
theorem S7Ok.same {W : WK} {H H' : Hp} {x y : S7} {i : Nat} (h : S7Ok W H x y i) (s : Same H H') : S7Ok W H' x y i := h.keep (sameBut s fun _ => False) (sameTups s) (fun _ _ z => z) (fun _ _ z => z)
theorem Two.same {W : WK} {H H' : Hp} {El Pl Kl : Addr} {x y : S7} {i : Nat} (h : Two W H El Pl Kl x y i) (s : Same H H') : Two W H' El Pl Kl x y i := ⟨s _ _ h.lE, s _ _ h.lP, s _ _ h.lK, h.ox.same s, h.oy.same s⟩
/-- what is taken on top of what was taken -/
theorem take_on {α : Type} (l : List α) {f t m : Nat} (hf : f ≤ t) (ht : t ≤ l.length) : l.take t ++ ((l.take m).drop f).drop (t - f) = l.take (t + (((l.take m).drop f).drop (t - f)).length) := by
  have e : ((l.take m).drop f).drop (t - f) = (l.take m).drop t := by
    rw [List.drop_drop]
    congr 1
    omega
  rw [e, List.length_drop, List.length_take]
  by_cases h : m ≤ t
  · have e1 : (l.take m).drop t = [] := List.drop_eq_nil_of_le (by rw [List.length_take]; omega)
    have e2 : t + (min m l.length - t) = t := by omega
    rw [e1, e2, List.append_nil]
  · have e1 : l.take t = (l.take m).take t := by rw [List.take_take, Nat.min_eq_left (by omega)]
    rw [e1, List.take_append_drop]
    by_cases h2 : m ≤ l.length
    · have e2 : t + (min m l.length - t) = m := by omega
      rw [e2]
    · have e2 : t + (min m l.length - t) = l.length := by omega
      rw [e2, List.take_of_length_le (by omega), List.take_of_length_le (Nat.le_refl _)]
theorem cutV_to {xs : List V} {k : Nat} : cutV xs none (some (k : Int)) = xs.take k := by
  have e1 : HT.sIx xs.length 0 none = 0 := rfl
  have e2 : HT.sIx xs.length xs.length (some (k : Int)) = min k xs.length := HT.sIx_nat ..
  unfold cutV
  rw [e1, e2, List.drop_zero, Nat.sub_zero]
  by_cases h : k ≤ xs.length
  · rw [Nat.min_eq_left h]
  · rw [Nat.min_eq_right (by omega), List.take_of_length_le (Nat.le_refl _), List.take_of_length_le (by omega)]
end K3
namespace K3
open PySem L2 GG
/-! ### two ends, a net beside them -/
structure Le7 (x x' : S7) : Prop where
  rows : ∃ e, x.rows ++ e = x'.rows
  kn : x.kn ≤ x'.kn
  tk : x.tk ≤ x'.tk
theorem Le7.refl (x : S7) : Le7 x x := ⟨⟨[], List.append_nil _⟩, Nat.le_refl _, Nat.le_refl _⟩
theorem Le7.len {x x' : S7} (h : Le7 x x') : x.rows.length ≤ x'.rows.length := by
  obtain ⟨e, he⟩ := h.rows
  rw [← he, List.length_append]
  exact Nat.le_add_right _ _
theorem Le7.take {x x' : S7} (h : Le7 x x') {m : Nat} (hm : m ≤ x.rows.length) : x'.rows.take m = x.rows.take m := by
  obtain ⟨e, he⟩ := h.rows
  rw [← he, List.take_append_of_le_length hm]
/-- a letter written at x -/
def Good7 (x : S7) (first : Nat) (new : List PyData) (heard : Nat) : Prop := ∃ m, new = (x.rows.take m).drop first ∧ m ≤ x.rows.length ∧ first ≤ x.kn ∧ heard ≤ x.tk
theorem Good7.le {x x' : S7} {first heard : Nat} {new : List PyData} (h : Good7 x first new heard) (l : Le7 x x') : Good7 x' first new heard := by
  obtain ⟨m, e, h1, h2, h3⟩ := h
  exact ⟨m, by rw [l.take h1]; exact e, Nat.le_trans h1 l.len, Nat.le_trans h2 l.kn, Nat.le_trans h3 l.tk⟩
theorem good7_now (x : S7) : Good7 x x.kn (x.rows.drop x.kn) x.tk := ⟨x.rows.length, by rw [List.take_of_length_le (Nat.le_refl _)], Nat.le_refl _, Nat.le_refl _, Nat.le_refl _⟩
/-- what lies on the net -/
def NetD (x y : S7) (d : PyData) : Prop := ∃ (to : Int) (s : S7) (first heard : Nat) (new : List PyData), d = .tuple [.int to, LetD first new heard] ∧ ((to = 1 ∧ s = x) ∨ (to = 0 ∧ s = y)) ∧ Good7 s first new heard
theorem NetD.le {x y x' y' : S7} {d : PyData} (h : NetD x y d) (lx : Le7 x x') (ly : Le7 y y') : NetD x' y' d := by
  obtain ⟨to, s, f, hh, new, e, q, g⟩ := h
  rcases q with ⟨q1, rfl⟩ | ⟨q1, rfl⟩
  · exact ⟨to, x', f, hh, new, e, .inl ⟨q1, rfl⟩, g.le lx⟩
  · exact ⟨to, y', f, hh, new, e, .inr ⟨q1, rfl⟩, g.le ly⟩
def NetAt (H : Hp) (Nt : Addr) (x y : S7) (i : Nat) : Prop := ∃ xs ds, H Nt = some (.lst xs) ∧ DtAll H xs ds ∧ (∀ d ∈ ds, NetD x y d) ∧ ds.length ≤ i
def S7.all (x y : S7) (R : List Addr) : List Addr := x.own ++ (y.own ++ R)
structure C7 (W : WK) (H : Hp) (p c : Addr) (ns : List Int) (n : Nat) (R : List Addr) (x y : S7) (i : Nat) : Prop where
  pen : Pen H p c ns n
  ox : S7Ok W H x y i
  oy : S7Ok W H y x i
  trk : Trk H (x.own ++ (y.own ++ R))
  fx : ∀ a ∈ x.fp, a ∉ y.fp ∧ a ∉ x.own ++ (y.own ++ R)
  fy : ∀ a ∈ y.fp, a ∉ x.fp ∧ a ∉ x.own ++ (y.own ++ R)
  pR : p ∈ R
  cR : c ∈ R
theorem swap_mem {x y : S7} {R : List Addr} {a : Addr} (m : a ∈ y.own ++ (x.own ++ R)) : a ∈ x.own ++ (y.own ++ R) := by
  simp only [List.mem_append] at m ⊢
  rcases m with m | m | m
  · exact .inr (.inl m)
  · exact .inl m
  · exact .inr (.inr m)
theorem C7.symm {W : WK} {H : Hp} {p c : Addr} {ns : List Int} {n : Nat} {R : List Addr} {x y : S7} {i : Nat} (h : C7 W H p c ns n R x y i) : C7 W H p c ns n R y x i :=
  ⟨h.pen, h.oy, h.ox, ⟨(List.perm_append_comm_assoc _ _ _).nodup_iff.mp h.trk.1, fun a m => h.trk.2 a (swap_mem m)⟩, fun a m => ⟨(h.fy a m).1, fun z => (h.fy a m).2 (swap_mem z)⟩, fun a m => ⟨(h.fx a m).1, fun z => (h.fx a m).2 (swap_mem z)⟩, h.pR, h.cR⟩
theorem C7.notx {W : WK} {H : Hp} {p c : Addr} {ns : List Int} {n : Nat} {R : List Addr} {x y : S7} {i : Nat} (h : C7 W H p c ns n R x y i) {a : Addr} (m : a ∈ x.own) : a ∉ y.own ++ R := fun z =>
  (List.nodup_append.mp h.trk.1).2.2 a m a z rfl
theorem C7.notR {W : WK} {H : Hp} {p c : Addr} {ns : List Int} {n : Nat} {R : List Addr} {x y : S7} {i : Nat} (h : C7 W H p c ns n R x y i) {a : Addr} (m : a ∈ R) : a ∉ x.own ∧ a ∉ y.own ∧ a ∉ x.fp ∧ a ∉ y.fp :=
  ⟨fun z => h.notx z (List.mem_append_right _ m), fun z => h.symm.notx z (List.mem_append_right _ m), fun z => (h.fx a z).2 (List.mem_append_right _ (List.mem_append_right _ m)), fun z => (h.fy a z).2 (List.mem_append_right _ (List.mem_append_right _ m))⟩
theorem S7Ok.more {W : WK} {H : Hp} {x y : S7} {i j : Nat} (h : S7Ok W H x y i) (le : i ≤ j) : S7Ok W H x y j := ⟨h.hP, h.hK, h.hW, h.row, Nat.le_trans h.len le, h.kx, h.tx⟩
/-- what changes among the others -/
theorem C7.keep {W : WK} {M : Addr → Prop} {H H' : Hp} {p c : Addr} {ns : List Int} {n n' : Nat} {R : List Addr} {x y : S7} {i : Nat} (h : C7 W H p c ns n R x y i) (b : But M H H') (t : Tups H H') (q : Pen H' p c ns n') (hM : ∀ a, M a → a ∈ R) (th : ∀ a, M a → ∃ u, H' a = some u) : C7 W H' p c ns n' R x y i := by
  refine ⟨q, h.ox.keep b t (fun a m z => (h.notR (hM a z)).1 m) (fun a m z => (h.notR (hM a z)).2.2.1 m), h.oy.keep b t (fun a m z => (h.notR (hM a z)).2.1 m) (fun a m z => (h.notR (hM a z)).2.2.2 m), ⟨h.trk.1, fun a m => ?_⟩, h.fx, h.fy, h.pR, h.cR⟩
  by_cases z : M a
  · exact th a z
  · obtain ⟨u, hu⟩ := h.trk.2 a m
    exact ⟨u, b a u z hu⟩
theorem C7.draw {W : WK} {H H' : Hp} {p c : Addr} {ns : List Int} {n n' : Nat} {R : List Addr} {x y : S7} {i : Nat} (h : C7 W H p c ns n R x y i) (b : But (· = p) H H') (q : Pen H' p c ns n') : C7 W H' p c ns n' R x y i :=
  h.keep b (h.pen.tups b) q (fun a z => by rw [show a = p from z]; exact h.pR) (fun a z => by
    obtain ⟨_, _, _, _, _, e, _⟩ := q
    exact ⟨_, by rw [show a = p from z]; exact e⟩)
theorem C7.same {W : WK} {H H' : Hp} {p c : Addr} {ns : List Int} {n : Nat} {R : List Addr} {x y : S7} {i : Nat} (h : C7 W H p c ns n R x y i) (s : Same H H') : C7 W H' p c ns n R x y i :=
  h.keep (sameBut s fun _ => False) (sameTups s) (h.pen.but (sameBut s fun _ => False) (fun z => z) (fun z => z)) (fun _ z => z.elim) (fun _ z => z.elim)
theorem C7.more {W : WK} {H : Hp} {p c : Addr} {ns : List Int} {n m : Nat} {R : List Addr} {x y : S7} {i j : Nat} (h : C7 W H p c ns n R x y i) (ln : n ≤ m) (le : i ≤ j) : C7 W H p c ns m R x y j :=
  ⟨h.pen.mono ln, h.ox.more le, h.oy.more le, h.trk, h.fx, h.fy, h.pR, h.cR⟩
/-- a list among the others changes -/
theorem C7.lset {W : WK} {H : Hp} {p c : Addr} {ns : List Int} {n : Nat} {R : List Addr} {x y : S7} {i : Nat} (h : C7 W H p c ns n R x y i) {l : Addr} {xs : List V} {o : HO} (hl : H l = some (.lst xs)) (m : l ∈ R) (np : l ≠ p) (nc : l ≠ c) : C7 W (upd H l o) p c ns n R x y i :=
  h.keep (M := (· = l)) ((But.refl _ _).mut rfl) ((Tups.refl _).mut hl (by intro _ z; cases z)) (h.pen.mut np nc) (fun a z => by rw [show a = l from z]; exact m) (fun a z => ⟨o, by rw [show a = l from z]; exact upd_same⟩)
/-- all others, with another one at the head -/
theorem C7.head {W : WK} {H : Hp} {p c : Addr} {ns : List Int} {n : Nat} {R : List Addr} {Nt N' : Addr} {x y : S7} {i : Nat} (h : C7 W H p c ns n (Nt :: R) x y i) (np : Nt ≠ p) (nc : Nt ≠ c) (hn : ∃ u, H N' = some u) (n1 : N' ∉ x.own ++ (y.own ++ R)) (n2 : N' ∉ x.fp) (n3 : N' ∉ y.fp) : C7 W H p c ns n (N' :: R) x y i := by
  have pm : ∀ z : Addr, z ∈ x.own ++ (y.own ++ (N' :: R)) → z = N' ∨ z ∈ x.own ++ (y.own ++ R) := fun z m => by
    simp only [List.mem_append, List.mem_cons] at m ⊢
    rcases m with m | m | m | m
    · exact .inr (.inl m)
    · exact .inr (.inr (.inl m))
    · exact .inl m
    · exact .inr (.inr (.inr m))
  have mp : ∀ z : Addr, z ∈ x.own ++ (y.own ++ R) → z ∈ x.own ++ (y.own ++ (Nt :: R)) := fun z m => by
    simp only [List.mem_append, List.mem_cons] at m ⊢
    rcases m with m | m | m
    · exact .inl m
    · exact .inr (.inl m)
    · exact .inr (.inr (.inr m))
  refine ⟨h.pen, h.ox, h.oy, ⟨?_, fun a m => ?_⟩, fun a m => ⟨(h.fx a m).1, fun z => ?_⟩, fun a m => ⟨(h.fy a m).1, fun z => ?_⟩, ?_, ?_⟩
  · have e : ∀ N : Addr, (x.own ++ (y.own ++ (N :: R))).Perm (N :: (x.own ++ (y.own ++ R))) := fun N => (List.Perm.append_left _ List.perm_middle).trans List.perm_middle
    have q := (e Nt).nodup_iff.mp h.trk.1
    exact (e N').nodup_iff.mpr (List.nodup_cons.mpr ⟨n1, (List.nodup_cons.mp q).2⟩)
  · rcases pm a m with rfl | m
    · exact hn
    · exact h.trk.2 a (mp a m)
  · rcases pm a z with rfl | z
    · exact n2 m
    · exact (h.fx a m).2 (mp a z)
  · rcases pm a z with rfl | z
    · exact n3 m
    · exact (h.fy a m).2 (mp a z)
  · rcases List.mem_cons.mp h.pR with q | q
    · exact absurd q.symm np
    · exact List.mem_cons_of_mem _ q
  · rcases List.mem_cons.mp h.cR with q | q
    · exact absurd q.symm nc
    · exact List.mem_cons_of_mem _ q
theorem C7.free {W : WK} {H : Hp} {p c : Addr} {ns : List Int} {n : Nat} {R : List Addr} {x y : S7} {i : Nat} (h : C7 W H p c ns n R x y i) {a : Addr} (ha : H a = none) : a ∉ x.own ++ (y.own ++ R) ∧ a ∉ x.fp ∧ a ∉ y.fp :=
  ⟨h.trk.not ha, WK.ne h.ox.hW ha, WK.ne h.oy.hW ha⟩
/-- what changes at x alone: its own lists, its wire's -/
theorem C7.at {W : WK} {H H' : Hp} {p c : Addr} {ns : List Int} {n : Nat} {R : List Addr} {x x' y : S7} {i : Nat} {M : Addr → Prop} (h : C7 W H p c ns n R x y i) (b : But M H H') (t : Tups H H') (hM : ∀ a, M a → a ∈ x.own ∨ a ∈ x.fp)
    (own : x'.own = x.own) (o : S7Ok W H' x' y (i + 1)) (le : Le7 x x') (th : ∀ a ∈ x.own, ∃ u, H' a = some u) (fp : ∀ a ∈ x'.fp, a ∈ x.fp ∨ H a = none) : C7 W H' p c ns n R x' y (i + 1) := by
  have nR : ∀ a ∈ R, ¬ M a := fun a m z => by
    rcases hM a z with q | q
    · exact (h.notR m).1 q
    · exact (h.notR m).2.2.1 q
  have ny : ∀ a ∈ y.own, ¬ M a := fun a m z => by
    rcases hM a z with q | q
    · exact h.notx q (List.mem_append_left _ m)
    · exact (h.fx a q).2 (List.mem_append_right _ (List.mem_append_left _ m))
  have nf : ∀ a ∈ y.fp, ¬ M a := fun a m z => by
    rcases hM a z with q | q
    · exact (h.fy a m).2 (List.mem_append_left _ q)
    · exact (h.fx a q).1 m
  obtain ⟨y1, y2, y3, y4, y5, y6, y7⟩ := h.oy.keep b t ny nf
  refine ⟨h.pen.but b (nR _ h.pR) (nR _ h.cR), o, ⟨y1, by rw [le.take y7]; exact y2, y3, y4, Nat.le_succ_of_le y5, Nat.le_trans y6 le.tk, Nat.le_trans y7 le.len⟩, ⟨by rw [own]; exact h.trk.1, fun a m => ?_⟩, fun a m => ?_, fun a m => ?_, h.pR, h.cR⟩
  · rw [own] at m
    rcases List.mem_append.mp m with q | q
    · exact th a q
    · obtain ⟨u, hu⟩ := h.trk.2 a m
      refine ⟨u, b a u (fun z => ?_) hu⟩
      rcases List.mem_append.mp q with q | q
      · exact ny a q z
      · exact nR a q z
  · rw [own]
    rcases fp a m with q | q
    · exact h.fx a q
    · exact ⟨(h.free q).2.2, (h.free q).1⟩
  · rw [own]
    refine ⟨fun z => ?_, (h.fy a m).2⟩
    rcases fp a z with q | q
    · exact (h.fy a m).1 q
    · exact (h.free q).2.2 m
theorem C7.own2 {W : WK} {H : Hp} {p c : Addr} {ns : List Int} {n : Nat} {R : List Addr} {x y : S7} {i : Nat} (h : C7 W H p c ns n R x y i) : x.P ≠ x.K := by
  have q := (List.nodup_append.mp h.trk.1).1
  simp only [S7.own, List.nodup_cons, List.mem_cons, List.not_mem_nil, or_false, not_false_eq_true, List.nodup_nil, and_true] at q
  exact q
/-- a row put at x -/
theorem C7.put {W : WK} {H H5 : Hp} {p c : Addr} {ns : List Int} {n : Nat} {R : List Addr} {x y : S7} {i : Nat} (h : C7 W H p c ns n R x y i) {t : Addr} {d : PyData} {qs : List V} {fp' : List Addr} (hq : H x.P = some (.lst qs)) (hqd : DtAll H qs x.rows) (hd : Dt H (.ref t) d) (hr : RowD d)
    (hW : W.At H5 fp' x.w (x.rows.drop x.kn ++ [d]) (x.rows.length + 1) x.tk) (hf : ∀ a ∈ fp', a ∈ x.fp ∨ upd H x.P (.lst (qs ++ [.ref t])) a = none) (b : But (· ∈ x.fp) (upd H x.P (.lst (qs ++ [.ref t]))) H5) :
    C7 W H5 p c ns n R { x with fp := fp', rows := x.rows ++ [d] } y (i + 1) ∧ But (fun a => a = x.P ∨ a ∈ x.fp) H H5 := by
  have n1 := h.own2
  have own : ∀ a ∈ x.own, a ∉ x.fp := fun a m z => (h.fx a z).2 (List.mem_append_left _ m)
  have hq5 : H5 x.P = some (.lst (qs ++ [.ref t])) := b _ _ (own x.P (by simp [S7.own])) upd_same
  have bb : But (fun a => a = x.P ∨ a ∈ x.fp) H H5 := fun a o m z => b a o (fun q => m (.inr q)) (by rw [upd_ne (fun q => m (.inl q))]; exact z)
  have tt : Tups H H5 := bb.tups fun a xs m z => by
    rcases m with rfl | m
    · rw [hq] at z
      cases z
    · obtain ⟨u, hu, hn⟩ := W.there h.ox.hW a m
      rw [hu] at z
      exact hn xs (Option.some.inj z)
  obtain ⟨_, ⟨ks, k1, k2⟩, g4, g5, g6, g7, g8⟩ := h.ox
  have kn : x.kn ≤ x.rows.length := Nat.le_trans g7 h.oy.tx
  have hk5 : H5 x.K = some (.lst ks) := bb _ _ (fun z => by
    rcases z with z | z
    · exact n1 z.symm
    · exact own _ (by simp [S7.own]) z) k1
  refine ⟨h.at (x' := { x with fp := fp', rows := x.rows ++ [d] }) bb tt (fun a m => ?_) rfl ⟨⟨_, hq5, (hqd.mono tt).app (.cons (hd.mono tt) .nil)⟩, ⟨ks, hk5, k2.mono tt⟩, ?_, fun e he => ?_, ?_, g7, g8⟩ ⟨⟨[d], rfl⟩, Nat.le_refl _, Nat.le_refl _⟩ (fun a m => ?_) (fun a m => ?_), bb⟩
  · rcases m with rfl | m
    · exact .inl (by simp [S7.own])
    · exact .inr m
  · show W.At H5 fp' x.w ((x.rows ++ [d]).drop x.kn) (x.rows ++ [d]).length x.tk
    rw [List.drop_append_of_le_length kn, List.length_append, List.length_singleton]
    exact hW
  · rcases List.mem_append.mp he with z | z
    · exact g5 e z
    · rw [List.mem_singleton.mp z]; exact hr
  · show (x.rows ++ [d]).length ≤ i + 1
    rw [List.length_append, List.length_singleton]
    omega
  · simp only [S7.own, List.mem_cons, List.not_mem_nil, or_false] at m
    rcases m with rfl | rfl
    · exact ⟨_, hq5⟩
    · exact ⟨_, hk5⟩
  · rcases hf a m with z | z
    · exact .inl z
    · refine .inr ?_
      cases q : H a with
      | none => rfl
      | some u =>
        by_cases e : a = x.P
        · rw [e, upd_same] at z
          cases z
        · rw [upd_ne e, q] at z
          cases z
/-- a letter of y's taken at x, its rows put behind what was taken -/
theorem C7.take {W : WK} {H H5 : Hp} {p c : Addr} {ns : List Int} {n : Nat} {R : List Addr} {x y : S7} {i : Nat} (h : C7 W H p c ns n R x y i) {first heard : Nat} {new : List PyData} {fp' : List Addr} {ks xs : List V} (hl : Good7 y first new heard)
    (hW : W.At H5 fp' x.w ((x.rows.drop x.kn).drop (heard - x.kn)) x.rows.length (x.tk + (new.drop (x.tk - first)).length)) (hf : ∀ a ∈ fp', a ∈ x.fp ∨ H a = none) (b5 : But (· ∈ x.fp) H H5)
    (hk : H x.K = some (.lst ks)) (hkd : DtAll H ks (y.rows.take x.tk)) (hx : DtAll H5 xs (new.drop (x.tk - first))) :
    C7 W (upd H5 x.K (.lst (ks ++ xs))) p c ns n R { x with fp := fp', kn := max x.kn heard, tk := x.tk + (new.drop (x.tk - first)).length } y (i + 1) ∧ But (fun a => a = x.K ∨ a ∈ x.fp) H (upd H5 x.K (.lst (ks ++ xs))) ∧ Tups H5 (upd H5 x.K (.lst (ks ++ xs))) := by
  have n1 := h.own2
  obtain ⟨m, rfl, hm, hfk, hhk⟩ := hl
  have own : ∀ a ∈ x.own, a ∉ x.fp := fun a m z => (h.fx a z).2 (List.mem_append_left _ m)
  have hk5 : H5 x.K = some (.lst ks) := b5 _ _ (own x.K (by simp [S7.own])) hk
  have t5 : Tups H H5 := WK.tups h.ox.hW b5
  have t6 : Tups H5 (upd H5 x.K (.lst (ks ++ xs))) := (Tups.refl _).mut hk5 (by intro _ z; cases z)
  have tt := t5.trans t6
  have bb : But (fun a => a = x.K ∨ a ∈ x.fp) H (upd H5 x.K (.lst (ks ++ xs))) := fun a o q z => by
    rw [upd_ne (fun e => q (.inl e))]
    exact b5 a o (fun e => q (.inr e)) z
  obtain ⟨⟨ps, p1, p2⟩, _, g4, g5, g6, g7, g8⟩ := h.ox
  have y6 := h.oy.kx
  have y7 := h.oy.tx
  have kfp : x.K ∉ fp' := fun z => by
    rcases hf _ z with q | q
    · exact own _ (by simp [S7.own]) q
    · rw [hk] at q
      cases q
  have hft : first ≤ x.tk := by omega
  have et := take_on y.rows (f := first) (t := x.tk) (m := m) hft g8
  have lt : x.tk + (((y.rows.take m).drop first).drop (x.tk - first)).length ≤ y.rows.length := by
    rw [List.length_drop, List.length_drop, List.length_take]
    omega
  refine ⟨h.at (x' := { x with fp := fp', kn := max x.kn heard, tk := x.tk + (((y.rows.take m).drop first).drop (x.tk - first)).length }) bb tt (fun a q => ?_) rfl ⟨⟨ps, bb _ _ (fun z => ?_) p1, p2.mono tt⟩, ⟨_, upd_same, ?_⟩, ?_, g5, Nat.le_succ_of_le g6, ?_, lt⟩ ⟨⟨[], List.append_nil _⟩, Nat.le_max_left _ _, Nat.le_add_right _ _⟩ (fun a q => ?_) hf, bb, t6⟩
  · rcases q with rfl | q
    · exact .inl (by simp [S7.own])
    · exact .inr q
  · rcases z with z | z
    · exact n1 z
    · exact own _ (by simp [S7.own]) z
  · show DtAll _ (ks ++ xs) (y.rows.take (x.tk + (((y.rows.take m).drop first).drop (x.tk - first)).length))
    rw [← et]
    exact (hkd.mono tt).app (hx.mono t6)
  · show W.At _ fp' x.w (x.rows.drop (max x.kn heard)) x.rows.length _
    have em : x.kn + (heard - x.kn) = max x.kn heard := by omega
    rw [List.drop_drop, em] at hW
    exact W.keep hW (fun a q => upd_ne (fun z => kfp (by rw [← z]; exact q))) t6
  · show max x.kn heard ≤ y.tk
    omega
  · simp only [S7.own, List.mem_cons, List.not_mem_nil, or_false] at q
    rcases q with rfl | rfl
    · exact ⟨_, bb _ _ (fun z => by
        rcases z with z | z
        · exact n1 z
        · exact own _ (by simp [S7.own]) z) p1⟩
    · exact ⟨_, upd_same⟩
def Ls7 (H : Hp) (El Pl Kl : Addr) (x y : S7) : Prop := H El = some (.lst [.ref x.w, .ref y.w]) ∧ H Pl = some (.lst [.ref x.P, .ref y.P]) ∧ H Kl = some (.lst [.ref x.K, .ref y.K])
theorem Ls7.but {M : Addr → Prop} {H H' : Hp} {El Pl Kl : Addr} {x y : S7} (h : Ls7 H El Pl Kl x y) (b : But M H H') (n : ∀ a ∈ [El, Pl, Kl], ¬ M a) : Ls7 H' El Pl Kl x y :=
  ⟨b _ _ (n _ (by simp)) h.1, b _ _ (n _ (by simp)) h.2.1, b _ _ (n _ (by simp)) h.2.2⟩
theorem Ls7.same {H H' : Hp} {El Pl Kl : Addr} {x y : S7} (h : Ls7 H El Pl Kl x y) (s : Same H H') : Ls7 H' El Pl Kl x y := h.but (sameBut s fun _ => False) (fun _ _ z => z)
theorem C7.two {W : WK} {H : Hp} {p c : Addr} {ns : List Int} {n : Nat} {R : List Addr} {x y : S7} {i : Nat} {El Pl Kl : Addr} (h : C7 W H p c ns n R x y i) (l : Ls7 H El Pl Kl x y) : Two W H El Pl Kl x y i := ⟨l.1, l.2.1, l.2.2, h.ox, h.oy⟩
theorem NetAt.but {M : Addr → Prop} {H H' : Hp} {Nt : Addr} {x y : S7} {i : Nat} (h : NetAt H Nt x y i) (b : But M H H') (t : Tups H H') (n : ¬ M Nt) : NetAt H' Nt x y i := by
  obtain ⟨xs, ds, h1, h2, h3, h4⟩ := h
  exact ⟨xs, ds, b _ _ n h1, h2.mono t, h3, h4⟩
theorem NetAt.le {H : Hp} {Nt : Addr} {x y x' y' : S7} {i j : Nat} (h : NetAt H Nt x y i) (lx : Le7 x x') (ly : Le7 y y') (ij : i ≤ j) : NetAt H Nt x' y' j := by
  obtain ⟨xs, ds, h1, h2, h3, h4⟩ := h
  exact ⟨xs, ds, h1, h2, fun d m => (h3 d m).le lx ly, Nat.le_trans h4 ij⟩
theorem NetD.lay {x y : S7} {d : PyData} (h : NetD x y d) (rx : ∀ d ∈ x.rows, RowD d) (ry : ∀ d ∈ y.rows, RowD d) : d.canLay0 = true ∧ d.depth ≤ 20 := by
  obtain ⟨to, s, f, hh, new, rfl, q, ⟨m, rfl, _⟩⟩ := h
  have all : ∀ l : List PyData, (∀ d ∈ l, RowD d) → PyData.canLayAll0 l = true ∧ PyData.depthAll l ≤ 10 := by
    intro l
    induction l with
    | nil => exact fun _ => ⟨rfl, Nat.zero_le _⟩
    | cons b r ih =>
      intro h
      obtain ⟨q1, q2⟩ := ih fun e he => h e (List.mem_cons_of_mem _ he)
      obtain ⟨q3, q4⟩ := (h b (List.mem_cons_self ..)).lay
      refine ⟨?_, ?_⟩
      · simp only [PyData.canLayAll0, q3, q1, Bool.and_self]
      · simp only [PyData.depthAll]; omega
  have hs : ∀ d ∈ s.rows, RowD d := by
    rcases q with ⟨_, rfl⟩ | ⟨_, rfl⟩
    · exact rx
    · exact ry
  obtain ⟨q1, q2⟩ := all ((s.rows.take m).drop f) (fun d z => hs d (List.mem_of_mem_take (List.mem_of_mem_drop z)))
  have e0 : PyData.canLay0 (.str "rows") = true := by decide +kernel
  refine ⟨?_, ?_⟩
  · simp only [LetD, PyData.canLay0, PyData.canLayAll0, q1, Bool.and_true, Bool.true_and]
    simpa only [PyData.canLay0] using e0
  · simp only [LetD, PyData.depth, PyData.depthAll]
    omega
theorem net_shaped {x y : S7} {ds : List PyData} (h : ∀ d ∈ ds, NetD x y d) (rx : ∀ d ∈ x.rows, RowD d) (ry : ∀ d ∈ y.rows, RowD d) : SeqAt.shaped (.list ds) = true := by
  have all : ∀ l : List PyData, (∀ d ∈ l, NetD x y d) → PyData.canLayAll0 l = true ∧ PyData.depthAll l ≤ 20 := by
    intro l
    induction l with
    | nil => exact fun _ => ⟨rfl, Nat.zero_le _⟩
    | cons b r ih =>
      intro h
      obtain ⟨q1, q2⟩ := ih fun e he => h e (List.mem_cons_of_mem _ he)
      obtain ⟨q3, q4⟩ := (h b (List.mem_cons_self ..)).lay rx ry
      refine ⟨?_, ?_⟩
      · simp only [PyData.canLayAll0, q3, q1, Bool.and_self]
      · simp only [PyData.depthAll]; omega
  obtain ⟨q1, q2⟩ := all ds h
  unfold SeqAt.shaped
  simp only [PyData.canLay0, PyData.depth, q1, Bool.true_and]
  exact decide_eq_true (by omega)
theorem side7 {W : WK} {H : Hp} {p c : Addr} {ns : List Int} {n : Nat} {R : List Addr} {x y : S7} {i : Nat} {at' : Int} (h01 : at' = 0 ∨ at' = 1) (h : C7 W H p c ns n R x y i) : ∃ me ot, C7 W H p c ns n R me ot i ∧
    atI [V.ref x.w, V.ref y.w] at' = some (V.ref me.w) ∧ atI [V.ref x.P, V.ref y.P] at' = some (V.ref me.P) ∧ atI [V.ref x.K, V.ref y.K] at' = some (V.ref me.K) ∧ atI [V.ref x.w, V.ref y.w] (1 - at') = some (V.ref ot.w) ∧
    (∀ first new heard, Good7 me first new heard → NetD x y (.tuple [.int (1 - at'), LetD first new heard])) ∧ (∀ s : S7, (at' = 1 ∧ s = x) ∨ (at' = 0 ∧ s = y) → s = ot) ∧
    (∀ me' : S7, me'.w = me.w → me'.P = me.P → me'.K = me.K → Le7 me me' → ∃ x' y', (∀ {H' : Hp} {El Pl Kl : Addr}, Ls7 H' El Pl Kl x y → Ls7 H' El Pl Kl x' y') ∧ (∀ {H' : Hp} {Nt : Addr} {j : Nat}, NetAt H' Nt x y j → NetAt H' Nt x' y' j) ∧
      (∀ {H' : Hp} {R : List Addr} {N j : Nat}, C7 W H' p c ns N R me' ot j → C7 W H' p c ns N R x' y' j) ∧ (at' = 0 → x' = me' ∧ y' = y ∧ me = x ∧ ot = y) ∧ (at' = 1 → x' = x ∧ y' = me' ∧ me = y ∧ ot = x)) := by
  rcases h01 with rfl | rfl
  · refine ⟨x, y, h, rfl, rfl, rfl, rfl, fun f nw hh g => ⟨_, x, f, hh, nw, rfl, .inl ⟨rfl, rfl⟩, g⟩, fun s q => ?_, fun me' e1 e2 e3 le => ⟨me', y, fun l => ?_, fun l => l.le le (Le7.refl _) (Nat.le_refl _), id, fun _ => ⟨rfl, rfl, rfl, rfl⟩, fun z => absurd z (by decide)⟩⟩
    · rcases q with ⟨q, _⟩ | ⟨_, q⟩
      · exact absurd q (by decide)
      · exact q
    · unfold Ls7 at l ⊢
      rw [e1, e2, e3]
      exact l
  · refine ⟨y, x, h.symm, rfl, rfl, rfl, rfl, fun f nw hh g => ⟨_, y, f, hh, nw, rfl, .inr ⟨rfl, rfl⟩, g⟩, fun s q => ?_, fun me' e1 e2 e3 le => ⟨x, me', fun l => ?_, fun l => l.le (Le7.refl _) le (Nat.le_refl _), fun q => q.symm, fun z => absurd z (by decide), fun _ => ⟨rfl, rfl, rfl, rfl⟩⟩⟩
    · rcases q with ⟨_, q⟩ | ⟨q, _⟩
      · exact q
      · exact absurd q (by decide)
    · unfold Ls7 at l ⊢
      rw [e1, e2, e3]
      exact l
theorem upd_self {H : Hp} {a : Addr} {o : HO} (h : H a = some o) : upd H a o = H := by
  funext b
  by_cases e : b = a
  · rw [e, upd_same, h]
  · rw [upd_ne e]
theorem pick7 (Nt Kl K2 K1 Pl P2 P1 El c p : Nat) (t : [Nt, Kl, K2, K1, Pl, P2, P1, El, c, p].Nodup) : [P1, K1, P2, K2, Nt, El, Pl, Kl, p, c].Nodup := by
  simp only [List.nodup_cons, List.mem_cons, List.not_mem_nil, or_false, not_or, not_false_eq_true, List.nodup_nil, and_true] at t
  obtain ⟨⟨_, _, _, _, _, _, _, _, _⟩, ⟨_, _, _, _, _, _, _, _⟩, ⟨_, _, _, _, _, _, _⟩, ⟨_, _, _, _, _, _⟩, ⟨_, _, _, _, _⟩, ⟨_, _, _, _⟩, ⟨_, _, _⟩, ⟨_, _⟩, _⟩ := t
  simp only [List.nodup_cons, List.mem_cons, List.not_mem_nil, or_false, not_or, not_false_eq_true, List.nodup_nil, and_true]
  and_intros <;> first | assumption | (apply Ne.symm; assumption)
theorem pick7in {Nt Kl K2 K1 Pl P2 P1 El c p a : Nat} (m : a ∈ [P1, K1, P2, K2, Nt, El, Pl, Kl, p, c]) : a ∈ [Nt, Kl, K2, K1, Pl, P2, P1, El, c, p] := by
  simp only [List.mem_cons, List.not_mem_nil, or_false] at m
  rcases m with rfl | rfl | rfl | rfl | rfl | rfl | rfl | rfl | rfl | rfl <;> simp
theorem c7_start {W : WK} {H : Hp} {p c El Pl Kl Nt w1 w2 P1 P2 K1 K2 : Addr} {ns : List Int} {n : Nat} {fp1 fp2 : List Addr} (hP : Pen H p c ns n) (T : Trk H [Nt, Kl, K2, K1, Pl, P2, P1, El, c, p])
    (D1 : Dj H fp1 [Nt, Kl, K2, K1, Pl, P2, P1, El, c, p]) (D2 : Dj H fp2 [Nt, Kl, K2, K1, Pl, P2, P1, El, c, p]) (D : ∀ a ∈ fp1, a ∉ fp2) (h1 : W.At H fp1 w1 [] 0 0) (h2 : W.At H fp2 w2 [] 0 0)
    (p1 : H P1 = some (.lst [])) (p2 : H P2 = some (.lst [])) (q1 : H K1 = some (.lst [])) (q2 : H K2 = some (.lst [])) :
    C7 W H p c ns n [Nt, El, Pl, Kl, p, c] ⟨w1, P1, K1, fp1, [], 0, 0⟩ ⟨w2, P2, K2, fp2, [], 0, 0⟩ 0 := by
  refine ⟨hP, ⟨⟨[], p1, .nil⟩, ⟨[], q1, .nil⟩, h1, fun d z => absurd z (by simp), Nat.le_refl _, Nat.le_refl _, Nat.le_refl _⟩, ⟨⟨[], p2, .nil⟩, ⟨[], q2, .nil⟩, h2, fun d z => absurd z (by simp), Nat.le_refl _, Nat.le_refl _, Nat.le_refl _⟩,
    ⟨pick7 _ _ _ _ _ _ _ _ _ _ T.1, fun a m => T.2 a (pick7in m)⟩, fun a m => ⟨D a m, fun z => D1.2 a m (pick7in z)⟩, fun a m => ⟨fun z => D a z m, fun z => D2.2 a m (pick7in z)⟩, by simp, by simp⟩
theorem C7.quiet {W : WK} {H : Hp} {p c : Addr} {ns : List Int} {n : Nat} {R : List Addr} {x y : S7} {i : Nat} {M : Addr → Prop} (h : C7 W H p c ns n R x y i) (hM : ∀ a, M a → a ∈ x.own ∨ a ∈ x.fp) : ∀ a ∈ R, ¬ M a := fun a m z => by
  rcases hM a z with q | q
  · exact (h.notR m).1 q
  · exact (h.notR m).2.2.1 q
theorem C7.ls {W : WK} {H : Hp} {p c : Addr} {ns : List Int} {n : Nat} {x y : S7} {i : Nat} {Nt El Pl Kl : Addr} (h : C7 W H p c ns n [Nt, El, Pl, Kl, p, c] x y i) : Nt ≠ p ∧ Nt ≠ c ∧ (∀ a ∈ [El, Pl, Kl], ¬ a = Nt) ∧ (∀ a ∈ [El, Pl, Kl], ¬ a = p) := by
  have q := (List.nodup_append.mp (List.nodup_append.mp h.trk.1).2.1).2.1
  simp only [List.nodup_cons, List.mem_cons, List.not_mem_nil, or_false, not_or, not_false_eq_true, List.nodup_nil, and_true] at q
  obtain ⟨⟨q1, q2, q3, q4, q5⟩, ⟨_, _, q6, _⟩, ⟨_, q7, _⟩, ⟨q8, _⟩, _⟩ := q
  refine ⟨q4, q5, fun a m => ?_, fun a m => ?_⟩
  · simp only [List.mem_cons, List.not_mem_nil, or_false] at m
    rcases m with rfl | rfl | rfl
    · exact fun z => q1 z.symm
    · exact fun z => q2 z.symm
    · exact fun z => q3 z.symm
  · simp only [List.mem_cons, List.not_mem_nil, or_false] at m
    rcases m with rfl | rfl | rfl
    · exact q6
    · exact q7
    · exact q8
theorem cutV_toI {xs : List V} {k : Int} (h : 0 ≤ k) : cutV xs none (some k) = xs.take k.toNat := by
  have q := cutV_to (xs := xs) (k := k.toNat)
  rwa [Int.toNat_of_nonneg h] at q
theorem cutV_dropI {xs : List V} {k : Int} (h : 0 ≤ k) : cutV xs (some k) none = xs.drop k.toNat := by
  have q := cutV_drop (xs := xs) (k := k.toNat)
  rwa [Int.toNat_of_nonneg h] at q
theorem DtAll.eraseIdx {H : Hp} : ∀ (n : Nat) {ds : List PyData} {vs : List V}, DtAll H vs ds → DtAll H (vs.eraseIdx n) (ds.eraseIdx n)
  | _, _, _, .nil => .nil
  | 0, _, _, .cons _ a => a
  | n + 1, _, _, .cons h a => .cons h (DtAll.eraseIdx n a)
theorem NetD.at {H : Hp} {x y : S7} {v : V} {d : PyData} (h : NetD x y d) (hd : Dt H v d) : ∃ (a t : Addr) (to : Int) (s : S7) (first heard : Nat) (new : List PyData), v = .ref a ∧ H a = some (.tup [.int to, .ref t]) ∧ Dt H (.ref t) (LetD first new heard) ∧ ((to = 1 ∧ s = x) ∨ (to = 0 ∧ s = y)) ∧ Good7 s first new heard := by
  obtain ⟨to, s, f, hh, nw, rfl, q, g⟩ := h
  obtain ⟨a, rfl⟩ := hd.ref_of
  obtain ⟨xs, ha, hx⟩ := hd.tupI
  cases hx with
  | cons z1 hx =>
  cases hx with
  | cons z2 hx =>
  cases hx
  cases z1
  obtain ⟨t, rfl⟩ := z2.ref_of
  exact ⟨a, t, to, s, f, hh, nw, rfl, ha, z2, q, g⟩
theorem cat_row {K : PySem.W.Frag} {Q : VK} {t1 t2 : Addr} {H : Hp} {xs : List V} {ds : List PyData} {i : Int} (h1 : H t1 = some (.tup [.int i])) (h2 : H t2 = some (.tup xs)) (hD : DtAll H xs ds) (hl : ds.length ≤ 3) (k : ∀ (t : Addr) (H' : Hp), Dt H' (.ref t) (.tuple (.int i :: ds)) → Same H H' → Q (.ref t) H') : rCatT K (.ref t1) (.ref t2) H Q := by
  refine ⟨t1, t2, _, _, rfl, rfl, SqT.of h1, SqT.of h2, by simp, ?_, fun e => ?_, fun ne t3 ht3 => ?_⟩
  · have := hD.length
    simp only [List.length_cons, List.length_nil]
    exact Nat.le_trans (show 0 + 1 + xs.length ≤ 4 by omega) (by decide)
  · subst e
    cases hD
    exact k t1 H (.tup h1 (.cons (.int _) .nil)) (Same.refl _)
  · have e := hD.mono (sameTups (same_new (Same.refl H) ht3 (o := .tup ([.int i] ++ xs))))
    exact k t3 _ (.tup upd_same (.cons (.int _) e)) (same_new (Same.refl H) ht3)
end K3
namespace K3
open PySem L2 GG
/-! ### a row of pairs of wires; each object by its part -/
abbrev E9 := Nat → Bool → S7
def E9.put (e : E9) (k : Nat) (s : Bool) (v : S7) : E9 := fun k' s' => if k' = k ∧ s' = s then v else e k' s'
theorem E9.put_self {e : E9} {k : Nat} {s : Bool} {v : S7} : (e.put k s v) k s = v := if_pos ⟨rfl, rfl⟩
theorem E9.put_ne {e : E9} {k k' : Nat} {s s' : Bool} {v : S7} (h : ¬ (k' = k ∧ s' = s)) : (e.put k s v) k' s' = e k' s' := if_neg h
/-- the ends stand -/
structure B9 (W : WK) (H : Hp) (ρ : Addr → Nat) (p c : Addr) (ns : List Int) (n N : Nat) (A : Nat → Addr) (e : E9) : Prop where
  pen : Pen H p c ns n
  live : ∀ a, ρ a ≠ 0 → ∃ u, H a = some u
  rp : ρ p = 5
  rc : ρ c = 6
  rA : ∀ k, k < N → ρ (A k) = 10 + 4 * k
  rW : ∀ k, k < N → ∀ s, ∀ a ∈ (e k s).fp, ρ a = 12 + 4 * k + s.toNat
  hA : ∀ k, k < N → H (A k) = some (.lst [.ref (e k false).w, .ref (e k true).w])
  hW : ∀ k, k < N → ∀ s, W.At H (e k s).fp (e k s).w ((e k s).rows.drop (e k s).kn) (e k s).rows.length (e k s).tk
theorem B9.zero {W : WK} {H : Hp} {ρ : Addr → Nat} {p c : Addr} {ns : List Int} {n N : Nat} {A : Nat → Addr} {e : E9} (h : B9 W H ρ p c ns n N A e) {a : Addr} (ha : H a = none) : ρ a = 0 := by
  by_cases z : ρ a = 0
  · exact z
  · obtain ⟨u, hu⟩ := h.live a z
    rw [ha] at hu
    cases hu
/-- others change -/
theorem B9.chg {W : WK} {H H' : Hp} {ρ : Addr → Nat} {p c : Addr} {ns : List Int} {n n' N : Nat} {A : Nat → Addr} {e : E9} {M : Addr → Prop} {v : Nat} (h : B9 W H ρ p c ns n N A e) (b : But M H H') (t : Tups H H') (hM : ∀ a, M a → ρ a = v) (v2 : v = 5 ∨ v = 3 ∨ v = 4 ∨ ∃ k, v = 11 + 4 * k) (lv : ∀ a, M a → ∃ u, H' a = some u) (pen : Pen H' p c ns n') : B9 W H' ρ p c ns n' N A e := by
  refine ⟨pen, fun a z => ?_, h.rp, h.rc, h.rA, h.rW, fun k hk => b _ _ (fun z => ?_) (h.hA k hk), fun k hk s => WK.but (h.hW k hk s) b (fun a m z => ?_) t⟩
  · by_cases q : M a
    · exact lv a q
    · obtain ⟨u, hu⟩ := h.live a z
      exact ⟨u, b a u q hu⟩
  · have := hM _ z
    rw [h.rA k hk] at this
    omega
  · have := hM _ z
    rw [h.rW k hk s a m] at this
    have sb : s.toNat ≤ 1 := by cases s <;> decide
    omega
theorem B9.penK {W : WK} {H H' : Hp} {ρ : Addr → Nat} {p c : Addr} {ns : List Int} {n N : Nat} {A : Nat → Addr} {e : E9} {M : Addr → Prop} {v : Nat} (h : B9 W H ρ p c ns n N A e) (b : But M H H') (hM : ∀ a, M a → ρ a = v) (v5 : v ≠ 5) (v6 : v ≠ 6) : Pen H' p c ns n :=
  h.pen.but b (fun z => v5 (by rw [← hM _ z, h.rp])) (fun z => v6 (by rw [← hM _ z, h.rc]))
theorem B9.same {W : WK} {H H' : Hp} {ρ : Addr → Nat} {p c : Addr} {ns : List Int} {n N : Nat} {A : Nat → Addr} {e : E9} (h : B9 W H ρ p c ns n N A e) (s : Same H H') : B9 W H' ρ p c ns n N A e :=
  h.chg (v := 3) (sameBut s fun _ => False) (sameTups s) (fun _ z => z.elim) (.inr (.inl rfl)) (fun _ z => z.elim) (h.pen.but (sameBut s fun _ => False) (fun z => z) (fun z => z))
theorem B9.draw {W : WK} {H H' : Hp} {ρ : Addr → Nat} {p c : Addr} {ns : List Int} {n n' N : Nat} {A : Nat → Addr} {e : E9} (h : B9 W H ρ p c ns n N A e) (b : But (· = p) H H') (q : Pen H' p c ns n') : B9 W H' ρ p c ns n' N A e :=
  h.chg (v := 5) b (h.pen.tups b) (fun a z => by rw [show a = p from z]; exact h.rp) (.inl rfl) (fun a z => by
    obtain ⟨_, _, _, _, _, e, _⟩ := q
    exact ⟨_, by rw [show a = p from z]; exact e⟩) q
theorem B9.more {W : WK} {H : Hp} {ρ : Addr → Nat} {p c : Addr} {ns : List Int} {n n' N : Nat} {A : Nat → Addr} {e : E9} (h : B9 W H ρ p c ns n N A e) (le : n ≤ n') : B9 W H ρ p c ns n' N A e := ⟨h.pen.mono le, h.live, h.rp, h.rc, h.rA, h.rW, h.hA, h.hW⟩
/-- an object gets its part -/
theorem B9.role {W : WK} {H : Hp} {ρ : Addr → Nat} {p c : Addr} {ns : List Int} {n N : Nat} {A : Nat → Addr} {e : E9} (h : B9 W H ρ p c ns n N A e) {l : Addr} (l0 : ρ l = 0) (ex : ∃ u, H l = some u) (v : Nat) : B9 W H (fun a => if a = l then v else ρ a) p c ns n N A e := by
  have ne : ∀ {a m}, ρ a = m → m ≠ 0 → (if a = l then v else ρ a) = m := fun {a m} q z => by
    rw [if_neg (fun y => z (by rw [← q, y, l0]))]
    exact q
  refine ⟨h.pen, fun a z => ?_, ne h.rp (by decide), ne h.rc (by decide), fun k hk => ne (h.rA k hk) (by omega), fun k hk s a m => ne (h.rW k hk s a m) (by omega), h.hA, h.hW⟩
  by_cases q : a = l
  · rw [q]; exact ex
  · exact h.live a (by rw [if_neg q] at z; exact z)
/-- an object loses its part -/
theorem B9.drop {W : WK} {H : Hp} {ρ : Addr → Nat} {p c : Addr} {ns : List Int} {n N : Nat} {A : Nat → Addr} {e : E9} (h : B9 W H ρ p c ns n N A e) {l : Addr} (l0 : ρ l = 4) : B9 W H (fun a => if a = l then 0 else ρ a) p c ns n N A e := by
  have ne : ∀ {a m}, ρ a = m → m ≠ 4 → (if a = l then 0 else ρ a) = m := fun {a m} q z => by
    rw [if_neg (fun y => z (by rw [← q, y, l0]))]
    exact q
  refine ⟨h.pen, fun a z => ?_, ne h.rp (by decide), ne h.rc (by decide), fun k hk => ne (h.rA k hk) (by omega), fun k hk s a m => ne (h.rW k hk s a m) (by omega), h.hA, h.hW⟩
  by_cases q : a = l
  · exact absurd (if_pos q) z
  · exact h.live a (by rw [if_neg q] at z; exact z)
/-- a wire changes -/
def rhoW (ρ : Addr → Nat) (old new : List Addr) (v : Nat) : Addr → Nat := fun a => if a ∈ new then v else if a ∈ old then 0 else ρ a
theorem B9.wire {W : WK} {H H' : Hp} {ρ : Addr → Nat} {p c : Addr} {ns : List Int} {n N : Nat} {A : Nat → Addr} {e : E9} (h : B9 W H ρ p c ns n N A e) {k : Nat} {s : Bool} {v : S7} (hk : k < N) (b : But (· ∈ (e k s).fp) H H')
    (hW : W.At H' v.fp v.w (v.rows.drop v.kn) v.rows.length v.tk) (hf : ∀ a ∈ v.fp, a ∈ (e k s).fp ∨ H a = none) (hw : v.w = (e k s).w) : B9 W H' (rhoW ρ (e k s).fp v.fp (12 + 4 * k + s.toNat)) p c ns n N A (e.put k s v) ∧
    (∀ a m, ρ a = m → m ≠ 12 + 4 * k + s.toNat → (m ≠ 0 ∨ ∃ u, H a = some u) → rhoW ρ (e k s).fp v.fp (12 + 4 * k + s.toNat) a = m) := by
  have keep : ∀ a m, ρ a = m → m ≠ 12 + 4 * k + s.toNat → (m ≠ 0 ∨ ∃ u, H a = some u) → rhoW ρ (e k s).fp v.fp (12 + 4 * k + s.toNat) a = m := fun a m q z x => by
    have n1 : a ∉ (e k s).fp := fun y => z (by rw [← q]; exact h.rW k hk s a y)
    have n2 : a ∉ v.fp := fun y => by
      rcases hf a y with y | y
      · exact n1 y
      · rcases x with x | ⟨u, x⟩
        · exact x (by rw [← q]; exact h.zero y)
        · rw [y] at x
          cases x
    unfold rhoW
    rw [if_neg n2, if_neg n1]
    exact q
  have sb : s.toNat ≤ 1 := by cases s <;> decide
  have t := WK.tups (h.hW k hk s) b
  have hM : ∀ a, a ∈ (e k s).fp → ρ a = 12 + 4 * k + s.toNat := fun a m => h.rW k hk s a m
  have ew : ∀ k' s', (e.put k s v k' s').w = (e k' s').w := fun k' s' => by
    by_cases q : k' = k ∧ s' = s
    · obtain ⟨rfl, rfl⟩ := q
      rw [E9.put_self, hw]
    · rw [E9.put_ne q]
  have oth : ∀ k' s', ¬ (k' = k ∧ s' = s) → 12 + 4 * k' + s'.toNat ≠ 12 + 4 * k + s.toNat := fun k' s' q z => by
    have sb' : s'.toNat ≤ 1 := by cases s' <;> decide
    refine q ⟨by omega, ?_⟩
    have : s'.toNat = s.toNat := by omega
    revert this
    cases s <;> cases s' <;> decide
  refine ⟨⟨h.penK b hM (by omega) (by omega), fun a z => ?_, keep _ _ h.rp (by omega) (.inl (by decide)), keep _ _ h.rc (by omega) (.inl (by decide)), fun k' hk' => keep _ _ (h.rA k' hk') (by omega) (.inl (by omega)), fun k' hk' s' a m => ?_, fun k' hk' => ?_, fun k' hk' s' => ?_⟩, keep⟩
  · unfold rhoW at z
    by_cases q : a ∈ v.fp
    · obtain ⟨u, hu, _⟩ := W.there hW a q
      exact ⟨u, hu⟩
    · rw [if_neg q] at z
      by_cases q2 : a ∈ (e k s).fp
      · rw [if_pos q2] at z
        exact absurd rfl z
      · rw [if_neg q2] at z
        obtain ⟨u, hu⟩ := h.live a z
        exact ⟨u, b a u q2 hu⟩
  · by_cases q : k' = k ∧ s' = s
    · obtain ⟨rfl, rfl⟩ := q
      rw [E9.put_self] at m
      exact if_pos m
    · rw [E9.put_ne q] at m
      exact keep _ _ (h.rW k' hk' s' a m) (oth k' s' q) (.inl (by omega))
  · rw [ew, ew]
    exact b _ _ (fun z => by
      have := hM _ z
      rw [h.rA k' hk'] at this
      omega) (h.hA k' hk')
  · by_cases q : k' = k ∧ s' = s
    · obtain ⟨rfl, rfl⟩ := q
      rw [E9.put_self]
      exact hW
    · rw [E9.put_ne q]
      refine WK.but (h.hW k' hk' s') b (fun a m z => ?_) t
      have := hM a z
      rw [h.rW k' hk' s' a m] at this
      exact oth k' s' q this
def updN {α : Type} (A : Nat → α) (N : Nat) (a : α) : Nat → α := fun k => if k = N then a else A k
theorem updN_self {α : Type} {A : Nat → α} {N : Nat} {a : α} : updN A N a N = a := if_pos rfl
theorem updN_ne {α : Type} {A : Nat → α} {N k : Nat} {a : α} (h : k < N) : updN A N a k = A k := if_neg (by omega)
/-- one pair more -/
def rhoP (ρ : Addr → Nat) (N : Nat) (a : Addr) (f0 f1 : List Addr) : Addr → Nat := fun b => if b = a then 10 + 4 * N else if b ∈ f0 then 12 + 4 * N else if b ∈ f1 then 13 + 4 * N else ρ b
theorem B9.pair {W : WK} {H H' : Hp} {ρ : Addr → Nat} {p c : Addr} {ns : List Int} {n N : Nat} {A : Nat → Addr} {e : E9} (h : B9 W H ρ p c ns n N A e) (sm : Same H H') {a w0 w1 : Addr} {f0 f1 : List Addr} (ha : H a = none) (ha' : H' a = some (.lst [.ref w0, .ref w1])) (h0 : ∀ b ∈ f0, H b = none) (h1 : ∀ b ∈ f1, H b = none)
    (n0 : a ∉ f0) (n1 : a ∉ f1) (n01 : ∀ b ∈ f1, b ∉ f0) (W0 : W.At H' f0 w0 [] 0 0) (W1 : W.At H' f1 w1 [] 0 0) :
    B9 W H' (rhoP ρ N a f0 f1) p c ns n (N + 1) (updN A N a) (updN e N fun s => if s then ⟨w1, 0, 0, f1, [], 0, 0⟩ else ⟨w0, 0, 0, f0, [], 0, 0⟩) ∧ ∀ b u, H b = some u → rhoP ρ N a f0 f1 b = ρ b := by
  have hs := h.same sm
  have keep : ∀ b u, H b = some u → rhoP ρ N a f0 f1 b = ρ b := fun b u hb => by
    have nn : ∀ {c : Addr}, H c = none → b ≠ c := fun {c} z y => by
      rw [y, z] at hb
      cases hb
    unfold rhoP
    rw [if_neg (nn ha), if_neg (fun m => nn (h0 b m) rfl), if_neg (fun m => nn (h1 b m) rfl)]
  have keepR : ∀ b m, ρ b = m → m ≠ 0 → rhoP ρ N a f0 f1 b = m := fun b m q z => by
    obtain ⟨u, hu⟩ := h.live b (by rw [q]; exact z)
    rw [keep b u hu, q]
  refine ⟨⟨hs.pen, fun b z => ?_, keepR _ _ h.rp (by decide), keepR _ _ h.rc (by decide), fun k hk => ?_, fun k hk s b m => ?_, fun k hk => ?_, fun k hk s => ?_⟩, keep⟩
  · unfold rhoP at z
    by_cases q : b = a
    · rw [q]; exact ⟨_, ha'⟩
    · rw [if_neg q] at z
      by_cases q0 : b ∈ f0
      · obtain ⟨u, hu, _⟩ := W.there W0 b q0
        exact ⟨u, hu⟩
      · rw [if_neg q0] at z
        by_cases q1 : b ∈ f1
        · obtain ⟨u, hu, _⟩ := W.there W1 b q1
          exact ⟨u, hu⟩
        · rw [if_neg q1] at z
          exact hs.live b z
  · by_cases q : k = N
    · subst q
      rw [updN_self]
      exact if_pos rfl
    · have hk' : k < N := by omega
      rw [updN_ne hk']
      exact keepR _ _ (h.rA k hk') (by omega)
  · by_cases q : k = N
    · subst q
      rw [updN_self] at m
      cases s with
      | false =>
        have m' : b ∈ f0 := m
        unfold rhoP
        rw [if_neg (fun z => n0 (by rw [← z]; exact m')), if_pos m']
        rfl
      | true =>
        have m' : b ∈ f1 := m
        unfold rhoP
        rw [if_neg (fun z => n1 (by rw [← z]; exact m')), if_neg (n01 b m'), if_pos m']
        show 13 + 4 * k = 12 + 4 * k + 1
        omega
    · have hk' : k < N := by omega
      rw [updN_ne hk'] at m
      exact keepR _ _ (h.rW k hk' s b m) (by omega)
  · by_cases q : k = N
    · subst q
      rw [updN_self, updN_self]
      exact ha'
    · have hk' : k < N := by omega
      rw [updN_ne hk', updN_ne hk']
      exact hs.hA k hk'
  · by_cases q : k = N
    · subst q
      rw [updN_self]
      cases s with
      | false => exact W0
      | true => exact W1
    · have hk' : k < N := by omega
      rw [updN_ne hk']
      exact hs.hW k hk' s
end K3
namespace K3
open PySem L2 GG
structure L9 (H : Hp) (ρ : Addr → Nat) (Pl Cl Hd Nt : Addr) (N : Nat) (A cm : Nat → Addr) (cd : Nat → List PyData) (D nd : List PyData) : Prop where
  rP : ρ Pl = 1
  rC : ρ Cl = 2
  rH : ρ Hd = 3
  rN : ρ Nt = 4
  rK : ∀ k, k < N → ρ (cm k) = 11 + 4 * k
  lP : H Pl = some (.lst ((List.range N).map fun k => V.ref (A k)))
  lC : H Cl = some (.lst ((List.range N).map fun k => V.ref (cm k)))
  hK : ∀ k, k < N → ∃ xs, H (cm k) = some (.lst xs) ∧ DtAll H xs (cd k)
  hH : ∃ xs, H Hd = some (.lst xs) ∧ DtAll H xs D
  hN : ∃ xs, H Nt = some (.lst xs) ∧ DtAll H xs nd
theorem L9.keep {H H' : Hp} {ρ : Addr → Nat} {Pl Cl Hd Nt : Addr} {N : Nat} {A cm : Nat → Addr} {cd : Nat → List PyData} {D nd : List PyData} {M : Addr → Prop} {v : Nat} (h : L9 H ρ Pl Cl Hd Nt N A cm cd D nd) (b : But M H H') (t : Tups H H') (hM : ∀ a, M a → ρ a = v)
    (v1 : v = 5 ∨ ∃ (k : Nat) (s : Bool), v = 12 + 4 * k + s.toNat) : L9 H' ρ Pl Cl Hd Nt N A cm cd D nd := by
  have lo : 5 ≤ v := by omega
  have no : ∀ k, v ≠ 11 + 4 * k := fun k z => by
    rcases v1 with q | ⟨j, s, q⟩
    · omega
    · cases s <;> simp at q <;> omega
  obtain ⟨xs, h1, h2⟩ := h.hH
  obtain ⟨ys, h3, h4⟩ := h.hN
  refine ⟨h.rP, h.rC, h.rH, h.rN, h.rK, b _ _ (fun z => ?_) h.lP, b _ _ (fun z => ?_) h.lC, fun k hk => ?_, ⟨xs, b _ _ (fun z => ?_) h1, h2.mono t⟩, ⟨ys, b _ _ (fun z => ?_) h3, h4.mono t⟩⟩
  · have := hM _ z; rw [h.rP] at this; omega
  · have := hM _ z; rw [h.rC] at this; omega
  · obtain ⟨zs, h5, h6⟩ := h.hK k hk
    exact ⟨zs, b _ _ (fun z => no k (by rw [← hM _ z, h.rK k hk])) h5, h6.mono t⟩
  · have := hM _ z; rw [h.rH] at this; omega
  · have := hM _ z; rw [h.rN] at this; omega
theorem L9.same {H H' : Hp} {ρ : Addr → Nat} {Pl Cl Hd Nt : Addr} {N : Nat} {A cm : Nat → Addr} {cd : Nat → List PyData} {D nd : List PyData} (h : L9 H ρ Pl Cl Hd Nt N A cm cd D nd) (s : Same H H') : L9 H' ρ Pl Cl Hd Nt N A cm cd D nd :=
  h.keep (v := 5) (sameBut s fun _ => False) (sameTups s) (fun _ z => z.elim) (.inl rfl)
theorem L9.rho {H : Hp} {ρ ρ' : Addr → Nat} {Pl Cl Hd Nt : Addr} {N : Nat} {A cm : Nat → Addr} {cd : Nat → List PyData} {D nd : List PyData} (h : L9 H ρ Pl Cl Hd Nt N A cm cd D nd) {k : Nat} {s : Bool} (r : ∀ a m, ρ a = m → m ≠ 12 + 4 * k + s.toNat → m ≠ 0 → ρ' a = m) : L9 H ρ' Pl Cl Hd Nt N A cm cd D nd := by
  have sb : s.toNat ≤ 1 := by cases s <;> decide
  exact ⟨r _ _ h.rP (by omega) (by decide), r _ _ h.rC (by omega) (by decide), r _ _ h.rH (by omega) (by decide), r _ _ h.rN (by omega) (by decide), fun j hj => r _ _ (h.rK j hj) (by omega) (by omega), h.lP, h.lC, h.hK, h.hH, h.hN⟩
/-- one of the lists of rows changes -/
theorem L9.set {H : Hp} {ρ : Addr → Nat} {Pl Cl Hd Nt : Addr} {N : Nat} {A cm : Nat → Addr} {cd cd' : Nat → List PyData} {D D' nd nd' : List PyData} {l : Addr} {xs ys : List V} (h : L9 H ρ Pl Cl Hd Nt N A cm cd D nd) (hl : H l = some (.lst xs)) (n1 : l ≠ Pl) (n2 : l ≠ Cl)
    (hK : ∀ k, k < N → (cm k = l ∧ DtAll H ys (cd' k)) ∨ (cm k ≠ l ∧ cd' k = cd k)) (hH : (Hd = l ∧ DtAll H ys D') ∨ (Hd ≠ l ∧ D' = D)) (hN : (Nt = l ∧ DtAll H ys nd') ∨ (Nt ≠ l ∧ nd' = nd)) : L9 (upd H l (.lst ys)) ρ Pl Cl Hd Nt N A cm cd' D' nd' ∧ But (· = l) H (upd H l (.lst ys)) ∧ Tups H (upd H l (.lst ys)) := by
  have t : Tups H (upd H l (.lst ys)) := (Tups.refl _).mut hl (by intro _ z; cases z)
  refine ⟨⟨h.rP, h.rC, h.rH, h.rN, h.rK, by rw [upd_ne n1.symm]; exact h.lP, by rw [upd_ne n2.symm]; exact h.lC, fun k hk => ?_, ?_, ?_⟩, (But.refl _ _).mut rfl, t⟩
  · rcases hK k hk with ⟨q, z⟩ | ⟨q, z⟩
    · exact ⟨ys, by rw [q]; exact upd_same, z.mono t⟩
    · obtain ⟨zs, z1, z2⟩ := h.hK k hk
      exact ⟨zs, by rw [upd_ne q]; exact z1, by rw [z]; exact z2.mono t⟩
  · rcases hH with ⟨q, z⟩ | ⟨q, z⟩
    · exact ⟨ys, by rw [q]; exact upd_same, z.mono t⟩
    · obtain ⟨zs, z1, z2⟩ := h.hH
      exact ⟨zs, by rw [upd_ne q]; exact z1, by rw [z]; exact z2.mono t⟩
  · rcases hN with ⟨q, z⟩ | ⟨q, z⟩
    · exact ⟨ys, by rw [q]; exact upd_same, z.mono t⟩
    · obtain ⟨zs, z1, z2⟩ := h.hN
      exact ⟨zs, by rw [upd_ne q]; exact z1, by rw [z]; exact z2.mono t⟩
theorem L9.ne {H : Hp} {ρ : Addr → Nat} {Pl Cl Hd Nt : Addr} {N : Nat} {A cm : Nat → Addr} {cd : Nat → List PyData} {D nd : List PyData} (_h : L9 H ρ Pl Cl Hd Nt N A cm cd D nd) {a b : Addr} {m n : Nat} (ha : ρ a = m) (hb : ρ b = n) (ne : m ≠ n) : a ≠ b := fun z => ne (by rw [← ha, ← hb, z])
/-- rows come at the end of a pair -/
theorem L9.came {H : Hp} {ρ : Addr → Nat} {Pl Cl Hd Nt : Addr} {N : Nat} {A cm : Nat → Addr} {cd : Nat → List PyData} {D nd new : List PyData} {k : Nat} {xs ys : List V} (h : L9 H ρ Pl Cl Hd Nt N A cm cd D nd) (hk : k < N) (hl : H (cm k) = some (.lst xs)) (hd : DtAll H xs (cd k)) (hy : DtAll H ys new) :
    L9 (upd H (cm k) (.lst (xs ++ ys))) ρ Pl Cl Hd Nt N A cm (updN cd k (cd k ++ new)) D nd ∧ But (· = cm k) H (upd H (cm k) (.lst (xs ++ ys))) ∧ Tups H (upd H (cm k) (.lst (xs ++ ys))) := by
  have rk := h.rK k hk
  refine h.set hl (h.ne rk h.rP (by omega)) (h.ne rk h.rC (by omega)) (fun j hj => ?_) (.inr ⟨h.ne h.rH rk (by omega), rfl⟩) (.inr ⟨h.ne h.rN rk (by omega), rfl⟩)
  by_cases q : j = k
  · subst q
    exact .inl ⟨rfl, by rw [updN_self]; exact hd.app hy⟩
  · exact .inr ⟨h.ne (h.rK j hj) rk (by omega), if_neg q⟩
theorem L9.head {H : Hp} {ρ : Addr → Nat} {Pl Cl Hd Nt : Addr} {N : Nat} {A cm : Nat → Addr} {cd : Nat → List PyData} {D nd new : List PyData} {xs ys : List V} (h : L9 H ρ Pl Cl Hd Nt N A cm cd D nd) (hl : H Hd = some (.lst xs)) (hd : DtAll H xs D) (hy : DtAll H ys new) :
    L9 (upd H Hd (.lst (xs ++ ys))) ρ Pl Cl Hd Nt N A cm cd (D ++ new) nd ∧ But (· = Hd) H (upd H Hd (.lst (xs ++ ys))) ∧ Tups H (upd H Hd (.lst (xs ++ ys))) :=
  h.set hl (h.ne h.rH h.rP (by omega)) (h.ne h.rH h.rC (by omega)) (fun j hj => .inr ⟨h.ne (h.rK j hj) h.rH (by omega), rfl⟩) (.inl ⟨rfl, hd.app hy⟩) (.inr ⟨h.ne h.rN h.rH (by omega), rfl⟩)
theorem L9.net {H : Hp} {ρ : Addr → Nat} {Pl Cl Hd Nt : Addr} {N : Nat} {A cm : Nat → Addr} {cd : Nat → List PyData} {D nd nd' : List PyData} {xs ys : List V} (h : L9 H ρ Pl Cl Hd Nt N A cm cd D nd) (hl : H Nt = some (.lst xs)) (hy : DtAll H ys nd') :
    L9 (upd H Nt (.lst ys)) ρ Pl Cl Hd Nt N A cm cd D nd' ∧ But (· = Nt) H (upd H Nt (.lst ys)) ∧ Tups H (upd H Nt (.lst ys)) :=
  h.set hl (h.ne h.rN h.rP (by omega)) (h.ne h.rN h.rC (by omega)) (fun j hj => .inr ⟨h.ne (h.rK j hj) h.rN (by omega), rfl⟩) (.inr ⟨h.ne h.rH h.rN (by omega), rfl⟩) (.inl ⟨rfl, hy⟩)
/-! ### what the ends have of one another -/
structure Rel9 (N : Nat) (e : E9) (cd : Nat → List PyData) (D : List PyData) : Prop where
  r0 : 0 < N
  d0 : (e 0 false).rows = D
  dk : ∀ k, k + 1 < N → (e (k + 1) false).rows = D.take (e k true).tk
  r1 : ∀ k, k < N → (e k true).rows = []
  cdk : ∀ k, k < N → cd k = D.take (e k true).tk
  kx : ∀ k, k < N → ∀ s, (e k s).kn ≤ (e k !s).tk
  tx : ∀ k, k < N → ∀ s, (e k s).tk ≤ (e k !s).rows.length
  row : ∀ d ∈ D, RowD d
theorem Rel9.pre {N : Nat} {e : E9} {cd : Nat → List PyData} {D : List PyData} (h : Rel9 N e cd D) {k : Nat} (hk : k < N) (s : Bool) : ∃ j, (e k s).rows = D.take j ∧ j ≤ D.length := by
  cases s with
  | true => exact ⟨0, by rw [h.r1 k hk]; rfl, Nat.zero_le _⟩
  | false =>
    cases k with
    | zero => exact ⟨D.length, by rw [h.d0, List.take_of_length_le (Nat.le_refl _)], Nat.le_refl _⟩
    | succ k =>
      refine ⟨min (e k true).tk D.length, by rw [h.dk k hk, List.take_eq_take_min], Nat.min_le_right _ _⟩
theorem Rel9.rows {N : Nat} {e : E9} {cd : Nat → List PyData} {D : List PyData} (h : Rel9 N e cd D) {k : Nat} (hk : k < N) (s : Bool) : (e k s).rows.length ≤ D.length ∧ ∀ d ∈ (e k s).rows, RowD d := by
  obtain ⟨j, q, _⟩ := h.pre hk s
  rw [q]
  exact ⟨List.length_take_le' .., fun d m => h.row d (List.mem_of_mem_take m)⟩
theorem Rel9.tk {N : Nat} {e : E9} {cd : Nat → List PyData} {D : List PyData} (h : Rel9 N e cd D) {k : Nat} (hk : k < N) (s : Bool) : (e k s).tk ≤ D.length := Nat.le_trans (h.tx k hk s) (h.rows hk _).1
/-- what comes new at the end of pair k -/
theorem Rel9.new {N : Nat} {e : E9} {cd : Nat → List PyData} {D : List PyData} (h : Rel9 N e cd D) {k : Nat} (hk : k < N) {first heard : Nat} {new : List PyData} (g : Good7 (e k false) first new heard) :
    D.take (e k true).tk ++ new.drop ((e k true).tk - first) = D.take ((e k true).tk + (new.drop ((e k true).tk - first)).length) ∧ (e k true).tk + (new.drop ((e k true).tk - first)).length ≤ (e k false).rows.length := by
  obtain ⟨m, rfl, hm, hf, hh⟩ := g
  obtain ⟨j, ej, hj⟩ := h.pre hk false
  have t1 := h.tx k hk true
  have k1 := h.kx k hk false
  have t2 : (e k true).tk ≤ (e k false).rows.length := t1
  have k2 : (e k false).kn ≤ (e k true).tk := k1
  have lt : (e k true).tk + ((((e k false).rows.take m).drop first).drop ((e k true).tk - first)).length ≤ (e k false).rows.length := by
    rw [List.length_drop, List.length_drop, List.length_take]
    omega
  have q := take_on (e k false).rows (f := first) (t := (e k true).tk) (m := m) (by omega) t2
  refine ⟨?_, lt⟩
  have tt : ∀ i, i ≤ (e k false).rows.length → (e k false).rows.take i = D.take i := fun i hi => by
    rw [ej] at hi ⊢
    rw [List.take_take]
    rw [List.length_take] at hi
    congr 1
    omega
  rw [← tt _ t2, q, tt _ lt]
theorem not_not' (s : Bool) : (!!s) = s := by cases s <;> rfl
theorem Rel9.same {N : Nat} {e e' : E9} {cd : Nat → List PyData} {D : List PyData} (h : Rel9 N e cd D) (q : ∀ k s, (e' k s).rows = (e k s).rows ∧ (e' k s).kn = (e k s).kn ∧ (e' k s).tk = (e k s).tk) : Rel9 N e' cd D := by
  refine ⟨h.r0, by rw [(q _ _).1]; exact h.d0, fun k hk => by rw [(q _ _).1, (q _ _).2.2]; exact h.dk k hk, fun k hk => by rw [(q _ _).1]; exact h.r1 k hk, fun k hk => by rw [(q _ _).2.2]; exact h.cdk k hk, fun k hk s => by rw [(q _ _).2.1, (q _ _).2.2]; exact h.kx k hk s, fun k hk s => by rw [(q _ _).1, (q _ _).2.2]; exact h.tx k hk s, h.row⟩
theorem Rel9.back {N : Nat} {e : E9} {cd : Nat → List PyData} {D : List PyData} (h : Rel9 N e cd D) {k : Nat} (hk : k < N) {v : S7} {heard : Nat} (hh : heard ≤ (e k true).tk) (er : v.rows = (e k false).rows) (ek : v.kn = max (e k false).kn heard) (et : v.tk = (e k false).tk) : Rel9 N (e.put k false v) cd D := by
  have oth : ∀ {k' s'}, ¬ (k' = k ∧ s' = false) → (e.put k false v) k' s' = e k' s' := fun q => E9.put_ne q
  have rw' : ∀ k' s', ((e.put k false v) k' s').rows = (e k' s').rows ∧ ((e.put k false v) k' s').tk = (e k' s').tk := fun k' s' => by
    by_cases q : k' = k ∧ s' = false
    · obtain ⟨rfl, rfl⟩ := q
      rw [E9.put_self]
      exact ⟨er, et⟩
    · rw [oth q]
      exact ⟨rfl, rfl⟩
  refine ⟨h.r0, by rw [(rw' _ _).1]; exact h.d0, fun j hj => by rw [(rw' _ _).1, (rw' _ _).2]; exact h.dk j hj, fun j hj => by rw [(rw' _ _).1]; exact h.r1 j hj, fun j hj => by rw [(rw' _ _).2]; exact h.cdk j hj, fun j hj s => ?_, fun j hj s => by rw [(rw' _ _).1, (rw' _ _).2]; exact h.tx j hj s, h.row⟩
  rw [(rw' _ _).2]
  by_cases q : j = k ∧ s = false
  · obtain ⟨rfl, rfl⟩ := q
    rw [E9.put_self, ek]
    have := h.kx j hj false
    show max (e j false).kn heard ≤ (e j true).tk
    exact Nat.max_le.mpr ⟨this, hh⟩
  · rw [oth q]
    exact h.kx j hj s
/-- a letter taken at the end of pair k, and what comes new put to the next one -/
theorem Rel9.on {N : Nat} {e e' : E9} {cd : Nat → List PyData} {D : List PyData} (h : Rel9 N e cd D) {k : Nat} (hk : k < N) {v u : S7} {first heard : Nat} {new : List PyData} (g : Good7 (e k false) first new heard)
    (er : v.rows = []) (ek : v.kn = max (e k true).kn heard) (et : v.tk = (e k true).tk + (new.drop ((e k true).tk - first)).length) (ur : u.rows = (e (k + 1) false).rows ++ new.drop ((e k true).tk - first)) (uk : u.kn = (e (k + 1) false).kn) (ut : u.tk = (e (k + 1) false).tk)
    (e1 : e' k true = v) (e2 : e' (k + 1) false = u) (e3 : ∀ k' s', ¬ (k' = k ∧ s' = true) → ¬ (k' = k + 1 ∧ s' = false) → e' k' s' = e k' s') : Rel9 N e' (updN cd k (cd k ++ new.drop ((e k true).tk - first))) D := by
  obtain ⟨n1, n2⟩ := h.new hk g
  obtain ⟨m, _, hm, hf, hh⟩ := g
  have tkE : ∀ k' s', ¬ (k' = k ∧ s' = true) → (e' k' s').tk = (e k' s').tk := fun k' s' q => by
    by_cases q2 : k' = k + 1 ∧ s' = false
    · obtain ⟨rfl, rfl⟩ := q2
      rw [e2, ut]
    · rw [e3 k' s' q q2]
  have rwE : ∀ k' s', ¬ (k' = k + 1 ∧ s' = false) → k' < N → (e' k' s').rows = (e k' s').rows := fun k' s' q hk' => by
    by_cases q2 : k' = k ∧ s' = true
    · obtain ⟨rfl, rfl⟩ := q2
      rw [e1, er, h.r1 k' hk']
    · rw [e3 k' s' q2 q]
  refine ⟨h.r0, by rw [rwE 0 false (by omega) h.r0]; exact h.d0, fun j hj => ?_, fun j hj => by rw [rwE j true (fun q => by cases q.2) hj]; exact h.r1 j hj, fun j hj => ?_, fun j hj s => ?_, fun j hj s => ?_, h.row⟩
  · by_cases q : j = k
    · subst q
      rw [e2, ur, e1, et, h.dk j hj, n1]
    · rw [rwE (j + 1) false (fun z => q (by omega)) hj, tkE j true (fun z => q z.1)]
      exact h.dk j hj
  · by_cases q : j = k
    · subst q
      rw [updN_self, e1, et, h.cdk j hj, n1]
    · rw [show updN cd k (cd k ++ new.drop ((e k true).tk - first)) j = cd j from if_neg q, tkE j true (fun z => q z.1)]
      exact h.cdk j hj
  · by_cases q : j = k ∧ s = true
    · obtain ⟨rfl, rfl⟩ := q
      rw [e1, ek]
      show max (e j true).kn heard ≤ (e' j false).tk
      rw [tkE j false (fun z => by cases z.2)]
      exact Nat.max_le.mpr ⟨h.kx j hj true, hh⟩
    · have kn : (e' j s).kn = (e j s).kn := by
        by_cases q2 : j = k + 1 ∧ s = false
        · obtain ⟨rfl, rfl⟩ := q2
          rw [e2, uk]
        · rw [e3 j s q q2]
      rw [kn]
      by_cases q3 : j = k ∧ (!s) = true
      · obtain ⟨rfl, q4⟩ := q3
        rw [q4, e1, et]
        have := h.kx j hj s
        rw [q4] at this
        exact Nat.le_add_right_of_le this
      · rw [tkE j _ q3]
        exact h.kx j hj s
  · by_cases q : j = k ∧ s = true
    · obtain ⟨rfl, rfl⟩ := q
      rw [e1, et, show (!true) = false from rfl, rwE j false (fun z => by omega) hj]
      exact n2
    · rw [tkE j s q]
      by_cases q2 : j = k + 1 ∧ (!s) = false
      · obtain ⟨rfl, q3⟩ := q2
        rw [q3, e2, ur, List.length_append]
        have := h.tx (k + 1) hj s
        rw [q3] at this
        exact Nat.le_add_right_of_le this
      · rw [rwE j _ q2 hj]
        exact h.tx j hj s
end K3
namespace K3
open PySem L2 GG
/-! ### a letter taken at one end, and what comes put to the next pair -/
structure Step9 (e e' : E9) (k : Nat) (s : Bool) (first heard : Nat) (new : List PyData) : Prop where
  me : (e' k s).rows = (e k s).rows ∧ (e' k s).kn = max (e k s).kn heard ∧ (e' k s).tk = (e k s).tk + (new.drop ((e k s).tk - first)).length
  nx : s = true → (e' (k + 1) false).rows = (e (k + 1) false).rows ++ new.drop ((e k s).tk - first) ∧ (e' (k + 1) false).kn = (e (k + 1) false).kn ∧ (e' (k + 1) false).tk = (e (k + 1) false).tk
  ot : ∀ k' s', ¬ (k' = k ∧ s' = s) → ¬ (s = true ∧ k' = k + 1 ∧ s' = false) → (e' k' s').rows = (e k' s').rows ∧ (e' k' s').kn = (e k' s').kn ∧ (e' k' s').tk = (e k' s').tk
theorem Step9.le {e e' : E9} {k : Nat} {s : Bool} {first heard : Nat} {new : List PyData} (h : Step9 e e' k s first heard new) (k' : Nat) (s' : Bool) : Le7 (e k' s') (e' k' s') := by
  by_cases q : k' = k ∧ s' = s
  · obtain ⟨rfl, rfl⟩ := q
    obtain ⟨a, b, c⟩ := h.me
    exact ⟨⟨[], by rw [List.append_nil, a]⟩, by rw [b]; exact Nat.le_max_left _ _, by rw [c]; exact Nat.le_add_right _ _⟩
  · by_cases q2 : s = true ∧ k' = k + 1 ∧ s' = false
    · obtain ⟨q3, rfl, rfl⟩ := q2
      obtain ⟨a, b, c⟩ := h.nx q3
      exact ⟨⟨_, a.symm⟩, by rw [b]; exact Nat.le_refl _, by rw [c]; exact Nat.le_refl _⟩
    · obtain ⟨a, b, c⟩ := h.ot k' s' q q2
      exact ⟨⟨[], by rw [List.append_nil, a]⟩, by rw [b]; exact Nat.le_refl _, by rw [c]; exact Nat.le_refl _⟩
theorem atR {f : Nat → V} {N k : Nat} (h : k < N) : atI ((List.range N).map f) (k : Int) = some (f k) :=
  atI_int (Int.natCast_nonneg _) (by rw [Int.toNat_natCast, List.getElem?_map, List.getElem?_range h]; rfl)
theorem atS {e : E9} {k : Nat} (s : Bool) : atI [V.ref (e k false).w, V.ref (e k true).w] ((s.toNat : Nat) : Int) = some (V.ref (e k s).w) := by
  cases s
  · exact atI_int (by decide) rfl
  · exact atI_int (by decide) rfl
theorem B9.ext {W : WK} {H : Hp} {ρ : Addr → Nat} {p c : Addr} {ns : List Int} {n N : Nat} {A : Nat → Addr} {e e' : E9} (h : B9 W H ρ p c ns n N A e) (q : ∀ k, k < N → ∀ s, e' k s = e k s) : B9 W H ρ p c ns n N A e' :=
  ⟨h.pen, h.live, h.rp, h.rc, h.rA, fun k hk s => by rw [q k hk s]; exact h.rW k hk s, fun k hk => by rw [q k hk, q k hk]; exact h.hA k hk, fun k hk s => by rw [q k hk s]; exact h.hW k hk s⟩
theorem Rel9.kn {N : Nat} {e : E9} {cd : Nat → List PyData} {D : List PyData} (h : Rel9 N e cd D) {k : Nat} (hk : k < N) (s : Bool) : (e k s).kn ≤ (e k s).rows.length := by
  have a := h.kx k hk s
  have b := h.tx k hk !s
  rw [not_not'] at b
  exact Nat.le_trans a b
theorem drop_max9 {rows : List PyData} {kn heard : Nat} (h : kn ≤ rows.length) : (rows.drop kn).drop (heard - (rows.length - (rows.drop kn).length)) = rows.drop (max kn heard) := by
  rw [List.drop_drop, List.length_drop]
  congr 1
  omega
theorem E9.put_put {e : E9} {k : Nat} {s : Bool} {a b : S7} : (e.put k s a).put k s b = e.put k s b := by
  funext k' s'
  by_cases q : k' = k ∧ s' = s
  · rw [show E9.put (E9.put e k s a) k s b k' s' = b from if_pos q, show E9.put e k s b k' s' = b from if_pos q]
  · rw [E9.put_ne q, E9.put_ne q, E9.put_ne q]
theorem atR1 {f : Nat → V} {N k : Nat} (h : k + 1 < N) : atI ((List.range N).map f) ((k : Int) + 1) = some (f (k + 1)) := atR (f := f) h
def spOn (W : WK) : Sp := fun vs H Q _ => ∃ (Pl Cl Hd Nt : Addr) (ρ : Addr → Nat) (p c : Addr) (ns : List Int) (n N : Nat) (A cm : Nat → Addr) (e : E9) (cd : Nat → List PyData) (D nd : List PyData) (k : Nat) (s : Bool) (t : Addr) (first heard : Nat) (new : List PyData),
  vs = [.ref Pl, .ref Cl, .int (k : Nat), .int (s.toNat : Nat), .ref t] ∧ k < N ∧ D.length ≤ 100 ∧ B9 W H ρ p c ns n N A e ∧ L9 H ρ Pl Cl Hd Nt N A cm cd D nd ∧ Rel9 N e cd D ∧ Dt H (.ref t) (LetD first new heard) ∧ Good7 (e k !s) first new heard ∧
  ∀ (ρ' : Addr → Nat) (e' : E9) (cd' : Nat → List PyData) (H' : Hp), B9 W H' ρ' p c ns n N A e' → L9 H' ρ' Pl Cl Hd Nt N A cm cd' D nd → Rel9 N e' cd' D → Step9 e e' k s first heard new → Tups H H' → Q (.bl true) H'
abbrev sOn : Stmt := top 15
theorem scOn : FnScope ["_law_pairs", "_law_came", "_law_k", "_law_side", "_law_letter", "_law_found", "_law_row"] ["_law_pairs", "_law_came", "_law_k", "_law_side", "_law_letter"] (defScope sOn) := ⟨rfl, rfl, rfl, by decide +kernel, rfl, by decide +kernel, by decide +kernel⟩
section
variable {P : Program} {w : World} {K : PySem.W.Frag} {mg : Str → Option Value} {base : Heap} {W : WK}
theorem ok_on {f : Addr} {fd : FuncData} (F : Fun K "_law_brought_on" "_law_brought_on" sOn f fd) (T : Txt mg) (CW : Wires W P w K mg base 9) :
    FnOk P w K mg base CX0 10 f fd ["_law_pairs", "_law_came", "_law_k", "_law_side", "_law_letter"] (spOn W) := by
  obtain ⟨f8, fd8, ps8, m8, b8, G8⟩ := CW.put
  obtain ⟨fa, fda, psa, ma, ba, Ga⟩ := CW.take
  refine F.ok scOn (fun vs H Q E h => ?_) (fun cdv A0 outer s0 H vs Q E hr h => ?_)
  · obtain ⟨Pl, Cl, Hd, Nt, ρ, p, c, ns, n, N, A, cm, e, cd, D, nd, k, s, t, first, heard, new, rfl, _⟩ := h
    rfl
  · obtain ⟨Pl, Cl, Hd, Nt, ρ, p, c, ns, n, N, A, cm, e, cd, D, nd, k, s, t, first, heard, new, rfl, hk, hD, hB, hL, hR, hdt, hg, kq⟩ := h
    have nd0 := scOn.nd
    refine ⟨_, pss_cons (ps_set (i := 5) nd0 rfl (.inl rfl) (pe_meth (pe_ix ix_list (pe_ix ix_list (pv 0) (pv 2) (fun _ _ => rfl)) (pv 3) (fun _ _ => rfl)) CW.cls ma Ga hr ba .nil pass0 (pa_cons (pv 4) pa_nil)))
      (C8.pss_cut (ps_if (pt_cmpR op_eq (pv 3) pe_int (nomark _))
          (pss_cons (ps_expr (pe_bm PySem.F.plainAttrs_list PySem.F.slot_list_extend PySem.F.type_list_extend mt_extend (pe_ix ix_list (pv 1) (pv 2) (fun _ _ => rfl)) (pa_cons (pv 5) pa_nil)))
          (pss_one (ps_if (pt_cmpR op_lt (pe_op op_add (pv 2) pe_int) (pe_callB call_len_seq (by rfl) T.len PySem.boot_len (pa_cons (pv 0) pa_nil)) (nomark _))
            (pss_one (ps_for PassesOwn.never rfl (pi_list (pv 5)) (pg_name (i := 6) nd0 rfl (Or.inl rfl))
              (pss_one (ps_expr (pe_meth (pe_ix ix_list (pe_ix ix_list (pv 0) (pe_op op_add (pv 2) pe_int) (fun _ _ => rfl)) pe_int (fun _ _ => rfl)) CW.cls m8 G8 hr b8 .nil pass0 (pa_cons (pv 6) pa_nil)))))) pss_nil))) pss_nil)
      (pss_one (ps_ret (pe_or (pe_cmpR op_eq (pv 3) pe_int (nomark _)) (pe_one (pe_cmpR (op_eqD hr.units) (pv 5) (pe_lst pa_nil) (nomark _))))))), ?_⟩
    have hW := hB.hW k hk s
    obtain ⟨dx, fs, hins, hno⟩ := W.ins hW
    obtain ⟨m, enew, hm1, hm2, hm3⟩ := id hg
    have kx := hR.kx k hk s
    have kx' := hR.kx k hk !s
    have tx := hR.tx k hk s
    have tx' := hR.tx k hk !s
    rw [not_not'] at kx' tx'
    have kn := hR.kn hk s
    obtain ⟨rl, rr⟩ := hR.rows hk s
    obtain ⟨rl', rr'⟩ := hR.rows hk !s
    have tl := hR.tk hk s
    have nR : ∀ d ∈ new, RowD d := fun d q => by
      rw [enew] at q
      exact rr' d (List.mem_of_mem_take (List.mem_of_mem_drop q))
    have nL : new.length ≤ 100 := by
      rw [enew, List.length_drop, List.length_take]
      omega
    refine ⟨_, rfl, _, rfl, Pl, _, _, _, rfl, rfl, SqL.of hL.lP, atR hk, _, rfl, A k, _, _, _, rfl, rfl, SqL.of (hB.hA k hk), atS s, (e k s).w, dx, fs, rfl, hins, hno _ (by simp), _, rfl, (e k s).w, t, (e k s).fp, _, new, _, _, first, heard, rfl, hW, hdt, by omega, by omega, nR, by omega, by omega, by omega, fun l xs fp' H8 hl nlf hX hXD hW8 hf8 b8' => ?_⟩
    rw [drop_max9 kn] at hW8
    have t8 := WK.tups hW b8'
    obtain ⟨hB8, keepρ⟩ := hB.wire (v := { e k s with fp := fp', kn := max (e k s).kn heard, tk := (e k s).tk + (new.drop ((e k s).tk - first)).length }) hk b8' hW8 hf8 rfl
    have hL8 : L9 H8 (rhoW ρ (e k s).fp fp' (12 + 4 * k + s.toNat)) Pl Cl Hd Nt N A cm cd D nd :=
      (hL.keep b8' t8 (fun a ha => hB.rW k hk s a ha) (.inr ⟨k, s, rfl⟩)).rho fun a m q z z0 => keepρ a m q z (.inl z0)
    have l0 : rhoW ρ (e k s).fp fp' (12 + 4 * k + s.toNat) l = 0 := by
      unfold rhoW
      rw [if_neg nlf, if_neg (WK.ne hW hl)]
      exact hB.zero hl
    generalize rhoW ρ (e k s).fp fp' (12 + 4 * k + s.toNat) = ρ8 at hB8 hL8 l0
    clear keepρ
    have xl := hXD.length
    refine ⟨fun σ' H' => ∃ (v6 : Option V) (ρ' : Addr → Nat) (e' : E9) (cd' : Nat → List PyData), σ' = [some (.ref Pl), some (.ref Cl), some (.int (k : Nat)), some (.int (s.toNat : Nat)), some (.ref t), some (.ref l), v6] ∧ B9 W H' ρ' p c ns n N A e' ∧ L9 H' ρ' Pl Cl Hd Nt N A cm cd' D nd ∧ Rel9 N e' cd' D ∧ Step9 e e' k s first heard new ∧ H' l = some (.lst xs) ∧ (s = false → xs = []) ∧ Tups H H', ?_, ?_⟩
    · cases s with
      | false =>
        have en : new = [] := by
          rw [enew, show (e k !false).rows = [] from hR.r1 k hk]
          simp
        subst en
        have e0 : (([] : List PyData).drop ((e k false).tk - first)).length = 0 := by simp
        refine ⟨_, rfl, rfl, _, rfl, iteF ?_⟩
        refine ⟨_, ρ8, _, cd, rfl, hB8, hL8, hR.back (heard := heard) hk hm3 rfl rfl (by show (e k false).tk + _ = _; rw [e0]; rfl), ⟨?_, (fun z => Bool.noConfusion z), fun k' s' q _ => ?_⟩, hX, fun _ => ?_, t8⟩
        · rw [E9.put_self]
          exact ⟨rfl, rfl, rfl⟩
        · rw [E9.put_ne q]
          exact ⟨rfl, rfl, rfl⟩
        · rw [e0] at xl
          exact List.length_eq_zero_iff.mp xl
      | true =>
        obtain ⟨ks, hks, hkd⟩ := hL8.hK k hk
        have kl := hkd.length
        rw [hR.cdk k hk, List.length_take] at kl
        have fl : (new.drop ((e k true).tk - first)).length ≤ 100 := by
          rw [List.length_drop]
          omega
        refine ⟨_, rfl, rfl, _, rfl, iteT ?_⟩
        refine ⟨_, rfl, _, rfl, Cl, _, _, _, rfl, rfl, SqL.of hL8.lC, atR hk, .inl ⟨rfl, _, SqL.of hks⟩, _, rfl, cm k, l, ks, xs, rfl, rfl, hks, hX, Nat.le_trans (show ks.length + xs.length ≤ 1000 by omega) (by decide), ?_⟩
        obtain ⟨hL9, bb, tt⟩ := hL8.came hk hks hkd hXD
        have hM : ∀ a, a = cm k → ρ8 a = 11 + 4 * k := fun a z => by rw [z]; exact hL8.rK k hk
        have hB9 := hB8.chg (n' := n) bb tt hM (.inr (.inr (.inr ⟨k, rfl⟩))) (fun a z => ⟨.lst (ks ++ xs), by rw [show a = cm k from z]; exact upd_same⟩) (hB8.penK bb hM (by omega) (by omega))
        have hl9 := bb l _ (fun z => by
          have := hM l z
          rw [l0] at this
          omega) hX
        have hXD9 := hXD.mono tt
        have t9 := t8.trans tt
        generalize upd H8 (cm k) (.lst (ks ++ xs)) = H9 at hL9 hB9 hl9 hXD9 t9 ⊢
        clear bb tt
        have step : ∀ (e' : E9) (v u : S7), v.rows = (e k true).rows → v.kn = max (e k true).kn heard → v.tk = (e k true).tk + (new.drop ((e k true).tk - first)).length → u.rows = (e (k + 1) false).rows ++ new.drop ((e k true).tk - first) → u.kn = (e (k + 1) false).kn → u.tk = (e (k + 1) false).tk →
            e' = (e.put k true v).put (k + 1) false u → Rel9 N e' (updN cd k (cd k ++ new.drop ((e k true).tk - first))) D ∧ Step9 e e' k true first heard new := by
          rintro e' v u v1 v2 v3 u1 u2 u3 rfl
          have n1 : ¬ (k = k + 1 ∧ true = false) := fun z => by cases z.2
          have q1 : ((e.put k true v).put (k + 1) false u) k true = v := by rw [E9.put_ne n1, E9.put_self]
          have q2 : ((e.put k true v).put (k + 1) false u) (k + 1) false = u := E9.put_self
          have q3 : ∀ k' s', ¬ (k' = k ∧ s' = true) → ¬ (k' = k + 1 ∧ s' = false) → ((e.put k true v).put (k + 1) false u) k' s' = e k' s' := fun k' s' a b => by rw [E9.put_ne b, E9.put_ne a]
          refine ⟨hR.on hk hg (by rw [v1]; exact hR.r1 k hk) v2 v3 u1 u2 u3 q1 q2 q3, ⟨?_, fun _ => ?_, fun k' s' a b => ?_⟩⟩
          · rw [q1]
            exact ⟨v1, v2, v3⟩
          · rw [q2]
            exact ⟨u1, u2, u3⟩
          · rw [q3 k' s' a fun z => b ⟨rfl, z.1, z.2⟩]
            exact ⟨rfl, rfl, rfl⟩
        have lenN : ((List.range N).map fun k => V.ref (A k)).length = N := by rw [List.length_map, List.length_range]
        refine ⟨_, rfl, _, _, rfl, rfl, _, rfl, Pl, _, rfl, .inl (SqL.of hL9.lP), _, _, rfl, rfl, _, rfl, ite2 (fun hlt => ?_) (fun hge => ?_)⟩
        · have hk1 : k + 1 < N := by
            have := of_decide_eq_true hlt
            rw [lenN] at this
            omega
          obtain ⟨rk, rrk⟩ := hR.rows hk1 false
          have knk := hR.kn hk1 false
          refine ⟨_, rfl, l, rfl, ⟨_, SqL.of hl9⟩, for_list (K := K) (a := l) (xs := xs) (fun i σ' H' => ∃ (v6 : Option V) (ρ' : Addr → Nat) (u : S7), σ' = [some (.ref Pl), some (.ref Cl), some (.int (k : Nat)), some (.int ((true.toNat : Nat) : Int)), some (.ref t), some (.ref l), v6] ∧
              B9 W H' ρ' p c ns n N A ((e.put k true { e k true with fp := fp', kn := max (e k true).kn heard, tk := (e k true).tk + (new.drop ((e k true).tk - first)).length }).put (k + 1) false u) ∧ L9 H' ρ' Pl Cl Hd Nt N A cm (updN cd k (cd k ++ new.drop ((e k true).tk - first))) D nd ∧
              u.rows = (e (k + 1) false).rows ++ (new.drop ((e k true).tk - first)).take i ∧ u.kn = (e (k + 1) false).kn ∧ u.tk = (e (k + 1) false).tk ∧ H' l = some (.lst xs) ∧ DtAll H' xs (new.drop ((e k true).tk - first)) ∧ ρ' l = 0 ∧ Tups H H') ?_ ?_ ?_ ?_⟩
          · refine ⟨_, ρ8, e (k + 1) false, rfl, hB9.ext fun k' hk' s' => ?_, hL9, by simp, rfl, rfl, hl9, hXD9, l0, t9⟩
            by_cases q : k' = k + 1 ∧ s' = false
            · obtain ⟨rfl, rfl⟩ := q
              rw [E9.put_self, E9.put_ne (fun z => by cases z.2)]
            · rw [E9.put_ne q]
          · rintro i σ' H' _ ⟨v6, ρ', u, rfl, z1, z2, z3, z4, z5, z6, z7, z8, z9⟩
            exact SqL.of z6
          · rintro i x σ' H' hi ⟨v6, ρ', u, rfl, z1, z2, z3, z4, z5, z6, z7, z8, z9⟩
            obtain ⟨d, hdi, hdx⟩ := z7.get i x hi
            have hil := (List.getElem?_eq_some_iff.mp hdi).1
            have hrow := nR d (List.mem_of_mem_drop (List.mem_of_getElem? hdi))
            obtain ⟨r, rfl⟩ : ∃ r, x = .ref r := by
              obtain ⟨es, rfl, _⟩ := hrow
              exact hdx.ref_of
            have hWu := z1.hW (k + 1) hk1 false
            have hA1 := z1.hA (k + 1) hk1
            have rWu := z1.rW (k + 1) hk1 false
            have eu : ((e.put k true { e k true with fp := fp', kn := max (e k true).kn heard, tk := (e k true).tk + (new.drop ((e k true).tk - first)).length }).put (k + 1) false u) (k + 1) false = u := E9.put_self
            rw [eu] at hWu hA1 rWu
            obtain ⟨dx, fs, hins, hno⟩ := W.ins hWu
            have ul : u.rows.length ≤ 200 := by
              rw [z3, List.length_append, List.length_take]
              omega
            refine ⟨_, rfl, _, rfl, _, _, rfl, rfl, Pl, _, _, _, rfl, rfl, SqL.of z2.lP, atR1 hk1, A (k + 1), _, _, _, rfl, rfl, SqL.of hA1, atI_int (by decide) rfl, u.w, dx, fs, rfl, hins, hno _ (by simp), _, rfl, u.w, r, d, u.fp, _, _, _, rfl, hWu, hdx, hrow, by omega, fun fp3 H3 hW3 hf3 b3 => ?_⟩
            have t3 := WK.tups hWu b3
            have ukn : u.kn ≤ u.rows.length := by
              rw [z3, z4, List.length_append]
              omega
            have hB3k := z1.wire (v := { u with fp := fp3, rows := u.rows ++ [d] }) (s := false) (H' := H3) hk1 (by rw [eu]; exact b3) (by
              show W.At H3 fp3 u.w ((u.rows ++ [d]).drop u.kn) (u.rows ++ [d]).length u.tk
              rw [List.drop_append_of_le_length ukn, List.length_append]
              exact hW3) (by rw [eu]; exact hf3) (by rw [eu])
            rw [eu] at hB3k
            obtain ⟨hB3, keep3⟩ := hB3k
            have nlu : l ∉ u.fp := fun z => by
              have := rWu l z
              rw [z8] at this
              omega
            have nl3 : l ∉ fp3 := fun z => by
              rcases hf3 l z with z | z
              · exact nlu z
              · rw [z6] at z
                cases z
            refine ⟨_, _, { u with fp := fp3, rows := u.rows ++ [d] }, rfl, by rw [E9.put_put] at hB3; exact hB3, (z2.keep b3 t3 rWu (.inr ⟨k + 1, false, rfl⟩)).rho fun a m q z z0 => keep3 a m q z (.inl z0), ?_, z4, z5, b3 _ _ nlu z6, z7.mono t3, ?_, z9.trans t3⟩
            · show u.rows ++ [d] = _
              rw [z3, List.take_add_one, hdi, List.append_assoc]
              rfl
            · exact keep3 l 0 z8 (by omega) (.inr ⟨_, z6⟩)
          · rintro σ' H' ⟨v6, ρ', u, rfl, z1, z2, z3, z4, z5, z6, z7, z8, z9⟩
            rw [xl, List.take_length] at z3
            obtain ⟨r1, r2⟩ := step _ { e k true with fp := fp', kn := max (e k true).kn heard, tk := (e k true).tk + (new.drop ((e k true).tk - first)).length } u rfl rfl rfl z3 z4 z5 rfl
            exact ⟨_, ρ', _, _, rfl, z1, z2, r1, r2, z6, fun z => Bool.noConfusion z, z9⟩
        · have hk1 : ¬ k + 1 < N := fun z => hge (decide_eq_true (by rw [lenN]; omega))
          obtain ⟨r1, r2⟩ := step _ { e k true with fp := fp', kn := max (e k true).kn heard, tk := (e k true).tk + (new.drop ((e k true).tk - first)).length } { e (k + 1) false with rows := (e (k + 1) false).rows ++ new.drop ((e k true).tk - first) } rfl rfl rfl rfl rfl rfl rfl
          exact ⟨_, ρ8, _, _, rfl, hB9.ext fun k' hk' s' => E9.put_ne (fun z => hk1 (by omega)), hL9, r1, r2, hl9, fun z => Bool.noConfusion z, t9⟩
    · rintro σ' H' ⟨v6, ρ', e', cd', rfl, z1, z2, z3, z4, z5, z6, z7⟩
      have fin := kq ρ' e' cd' H' z1 z2 z3 z4 z7
      cases s with
      | true => exact ⟨_, rfl, rfl, _, rfl, iteT fin⟩
      | false =>
        cases z6 rfl
        refine ⟨_, rfl, rfl, _, rfl, iteF ⟨_, rfl, Nat.zero_le _, fun q hq => ?_⟩⟩
        have sq := same_new (Same.refl H') hq (o := .lst [])
        refine ⟨_, _, .lst (SqL.of (sq _ _ z5)) .nil, .lst (SqL.of upd_same) .nil, by decide +kernel, by decide +kernel, ?_⟩
        exact kq ρ' e' cd' _ (z1.same sq) (z2.same sq) z3 z4 (z7.trans (sameTups sq))
end
end K3
namespace K3
open PySem L2 GG
/-! ### the law's own lists begin, and change -/
/-- others change, by their part -/
theorem B9.chgv {W : WK} {H H' : Hp} {ρ : Addr → Nat} {p c : Addr} {ns : List Int} {n n' N : Nat} {A : Nat → Addr} {e : E9} {M : Addr → Prop} {v : Nat} (h : B9 W H ρ p c ns n N A e) (b : But M H H') (t : Tups H H') (hM : ∀ a, M a → ρ a = v) (v2 : ∀ k, v ≠ 10 + 4 * k ∧ v ≠ 12 + 4 * k ∧ v ≠ 13 + 4 * k) (lv : ∀ a, M a → ∃ u, H' a = some u) (pen : Pen H' p c ns n') : B9 W H' ρ p c ns n' N A e := by
  refine ⟨pen, fun a z => ?_, h.rp, h.rc, h.rA, h.rW, fun k hk => b _ _ (fun z => ?_) (h.hA k hk), fun k hk s => WK.but (h.hW k hk s) b (fun a m z => ?_) t⟩
  · by_cases q : M a
    · exact lv a q
    · obtain ⟨u, hu⟩ := h.live a z
      exact ⟨u, b a u q hu⟩
  · have := hM _ z
    rw [h.rA k hk] at this
    have := (v2 k).1
    omega
  · have q := hM _ z
    rw [h.rW k hk s a m] at q
    obtain ⟨_, q1, q2⟩ := v2 k
    cases s
    · exact q1 q.symm
    · exact q2 (q.symm.trans (by show 12 + 4 * k + 1 = 13 + 4 * k; omega))
/-- a list of the law's own changes -/
theorem B9.lset {W : WK} {H : Hp} {ρ : Addr → Nat} {p c : Addr} {ns : List Int} {n N : Nat} {A : Nat → Addr} {e : E9} (h : B9 W H ρ p c ns n N A e) {l : Addr} {xs ys : List V} (hl : H l = some (.lst xs)) {v : Nat} (hv : ρ l = v) (v2 : v < 5 ∨ ∃ k, v = 11 + 4 * k) : B9 W (upd H l (.lst ys)) ρ p c ns n N A e := by
  have b : But (· = l) H (upd H l (.lst ys)) := (But.refl _ _).mut rfl
  have hM : ∀ a, a = l → ρ a = v := fun a z => by rw [z]; exact hv
  have n5 : v ≠ 5 ∧ v ≠ 6 := by
    rcases v2 with q | ⟨k, q⟩
    · omega
    · omega
  refine h.chgv b ((Tups.refl _).mut hl (by intro _ z; cases z)) hM (fun k => ?_) (fun a z => ⟨.lst ys, by rw [show a = l from z]; exact upd_same⟩) (h.penK b hM n5.1 n5.2)
  rcases v2 with q | ⟨j, q⟩
  · omega
  · omega
/-- a new object gets its part -/
theorem B9.newRole {W : WK} {H H' : Hp} {ρ : Addr → Nat} {p c : Addr} {ns : List Int} {n N : Nat} {A : Nat → Addr} {e : E9} (h : B9 W H ρ p c ns n N A e) (sm : Same H H') {l : Addr} (hl : H l = none) {u : HO} (ex : H' l = some u) (v : Nat) : ∃ ρ', B9 W H' ρ' p c ns n N A e ∧ ρ' l = v ∧ ∀ b u, H b = some u → ρ' b = ρ b :=
  ⟨fun a => if a = l then v else ρ a, (h.same sm).role (h.zero hl) ⟨u, ex⟩ v, if_pos rfl, fun b u hb => if_neg (ne_of_none hb hl)⟩
theorem B9.start {W : WK} {H : Hp} {p c : Addr} {ns : List Int} {n : Nat} (h : Pen H p c ns n) (A : Nat → Addr) (e : E9) : ∃ ρ, B9 W H ρ p c ns n 0 A e := by
  obtain ⟨_, _, _, _, _, z1, z2, _⟩ := id h
  have npc : c ≠ p := ne_of z2 z1 (by intro z; cases z)
  refine ⟨fun a => if a = p then 5 else if a = c then 6 else 0, h, fun a z => ?_, if_pos rfl, ?_, fun k hk => absurd hk (by omega), fun k hk => absurd hk (by omega), fun k hk => absurd hk (by omega), fun k hk => absurd hk (by omega)⟩
  · by_cases q : a = p
    · rw [q]; exact ⟨_, z1⟩
    · by_cases q2 : a = c
      · rw [q2]; exact ⟨_, z2⟩
      · exact absurd (by rw [if_neg q, if_neg q2]) z
  · show (if c = p then 5 else if c = c then 6 else 0) = 6
    rw [if_neg npc, if_pos rfl]
/-- a row more at the head -/
theorem Rel9.put0 {N : Nat} {e : E9} {cd : Nat → List PyData} {D : List PyData} (h : Rel9 N e cd D) {v : S7} {d : PyData} (hd : RowD d) (er : v.rows = (e 0 false).rows ++ [d]) (ek : v.kn = (e 0 false).kn) (et : v.tk = (e 0 false).tk) : Rel9 N (e.put 0 false v) cd (D ++ [d]) := by
  have tkE : ∀ k' s', ((e.put 0 false v) k' s').tk = (e k' s').tk := fun k' s' => by
    by_cases q : k' = 0 ∧ s' = false
    · obtain ⟨rfl, rfl⟩ := q
      rw [E9.put_self, et]
    · rw [E9.put_ne q]
  have knE : ∀ k' s', ((e.put 0 false v) k' s').kn = (e k' s').kn := fun k' s' => by
    by_cases q : k' = 0 ∧ s' = false
    · obtain ⟨rfl, rfl⟩ := q
      rw [E9.put_self, ek]
    · rw [E9.put_ne q]
  have ap : ∀ k, k < N → D.take (e k true).tk = (D ++ [d]).take (e k true).tk := fun k hk => by
    rw [List.take_append_of_le_length (h.tk hk true)]
  refine ⟨h.r0, by rw [E9.put_self, er, h.d0], fun k hk => ?_, fun k hk => ?_, fun k hk => ?_, fun k hk s => by rw [knE, tkE]; exact h.kx k hk s, fun k hk s => ?_, fun x m => ?_⟩
  · rw [E9.put_ne (fun z => by omega), tkE, h.dk k hk]
    exact ap k (by omega)
  · rw [E9.put_ne (fun z => Bool.noConfusion z.2)]
    exact h.r1 k hk
  · rw [tkE, h.cdk k hk]
    exact ap k hk
  · rw [tkE]
    by_cases q : k = 0 ∧ (!s) = false
    · obtain ⟨rfl, q⟩ := q
      rw [q, E9.put_self, er, List.length_append]
      have := h.tx 0 hk s
      rw [q] at this
      omega
    · rw [E9.put_ne q]
      exact h.tx k hk s
  · rcases List.mem_append.mp m with m | m
    · exact h.row x m
    · rw [List.mem_singleton.mp m]; exact hd
/-- what lies on the net -/
def Net9 (N : Nat) (e : E9) (d : PyData) : Prop := ∃ (k : Nat) (s : Bool) (first heard : Nat) (new : List PyData), d = .tuple [.int (k : Nat), .int (s.toNat : Nat), LetD first new heard] ∧ k < N ∧ Good7 (e k !s) first new heard
theorem Net9.le {N : Nat} {e e' : E9} {d : PyData} (h : Net9 N e d) (l : ∀ k s, Le7 (e k s) (e' k s)) : Net9 N e' d := by
  obtain ⟨k, s, f, hh, nw, q, hk, g⟩ := h
  exact ⟨k, s, f, hh, nw, q, hk, g.le (l k _)⟩
theorem Net9.at {H : Hp} {N : Nat} {e : E9} {v : V} {d : PyData} (h : Net9 N e d) (hd : Dt H v d) : ∃ (a t : Addr) (k : Nat) (s : Bool) (first heard : Nat) (new : List PyData), v = .ref a ∧ H a = some (.tup [.int (k : Nat), .int (s.toNat : Nat), .ref t]) ∧ Dt H (.ref t) (LetD first new heard) ∧ k < N ∧ Good7 (e k !s) first new heard := by
  obtain ⟨k, s, f, hh, nw, rfl, hk, g⟩ := h
  obtain ⟨a, rfl⟩ := hd.ref_of
  obtain ⟨xs, ha, hx⟩ := hd.tupI
  cases hx with
  | cons z1 hx =>
  cases hx with
  | cons z2 hx =>
  cases hx with
  | cons z3 hx =>
  cases hx
  cases z1
  cases z2
  obtain ⟨t, rfl⟩ := z3.ref_of
  exact ⟨a, t, k, s, f, hh, nw, rfl, ha, z3, hk, g⟩
theorem rowAll_lay : ∀ {l : List PyData}, (∀ d ∈ l, RowD d) → PyData.canLayAll0 l = true ∧ PyData.depthAll l ≤ 10
  | [], _ => ⟨rfl, Nat.zero_le _⟩
  | b :: r, h => by
    obtain ⟨q1, q2⟩ := rowAll_lay (l := r) fun e he => h e (List.mem_cons_of_mem _ he)
    obtain ⟨q3, q4⟩ := (h b (List.mem_cons_self ..)).lay
    refine ⟨?_, ?_⟩
    · simp only [PyData.canLayAll0, q3, q1, Bool.and_self]
    · simp only [PyData.depthAll]; omega
theorem Net9.lay {N : Nat} {e : E9} {d : PyData} (h : Net9 N e d) (r : ∀ k, k < N → ∀ s, ∀ x ∈ (e k s).rows, RowD x) : d.canLay0 = true ∧ d.depth ≤ 20 := by
  obtain ⟨k, s, f, hh, nw, rfl, hk, m, rfl, _⟩ := h
  obtain ⟨q1, q2⟩ := rowAll_lay (l := ((e k !s).rows.take m).drop f) fun d z => r k hk _ d (List.mem_of_mem_take (List.mem_of_mem_drop z))
  have e0 : PyData.canLay0 (.str "rows") = true := by decide +kernel
  refine ⟨?_, ?_⟩
  · simp only [LetD, PyData.canLay0, PyData.canLayAll0, q1, Bool.and_true, Bool.true_and]
    simpa only [PyData.canLay0] using e0
  · simp only [LetD, PyData.depth, PyData.depthAll]
    omega
theorem net9_shaped {N : Nat} {e : E9} {ds : List PyData} (h : ∀ d ∈ ds, Net9 N e d) (r : ∀ k, k < N → ∀ s, ∀ x ∈ (e k s).rows, RowD x) : SeqAt.shaped (.list ds) = true := by
  have all : ∀ l : List PyData, (∀ d ∈ l, Net9 N e d) → PyData.canLayAll0 l = true ∧ PyData.depthAll l ≤ 20 := by
    intro l
    induction l with
    | nil => exact fun _ => ⟨rfl, Nat.zero_le _⟩
    | cons b rr ih =>
      intro h
      obtain ⟨q1, q2⟩ := ih fun e he => h e (List.mem_cons_of_mem _ he)
      obtain ⟨q3, q4⟩ := (h b (List.mem_cons_self ..)).lay r
      refine ⟨?_, ?_⟩
      · simp only [PyData.canLayAll0, q3, q1, Bool.and_self]
      · simp only [PyData.depthAll]; omega
  obtain ⟨q1, q2⟩ := all ds h
  unfold SeqAt.shaped
  simp only [PyData.canLay0, PyData.depth, q1, Bool.true_and]
  exact decide_eq_true (by omega)
end K3
namespace K3
open PySem L2 GG
abbrev sLaw : Stmt := top 16
abbrev lawN : List Str := ["_law_script", "_law_pen_here", "_law_bout", "_law_k", "_law_pairs", "_law_head", "_law_came", "_law_net", "_law_turn", "_law_lot", "_law_side", "_law_at", "_law_there", "_law_letter", "_law_wrong", "_law_pair", "_law_one"]
theorem scLaw : FnScope lawN ["_law_script"] (defScope sLaw) := ⟨rfl, rfl, rfl, by decide +kernel, rfl, by decide +kernel, by decide +kernel⟩
def spLaw (K : PySem.W.Frag) : Sp := fun vs H Q _ => ∃ (a : Addr) (ns : List Int), vs = [.ref a] ∧ SqL K H a (ns.map V.int) ∧ ns.length ≤ 63 ∧ ∀ H', Q (.bl true) H'
/-- what len asks of a list or a tuple -/
def rLenS (K : PySem.W.Frag) : List V → Hp → (V → Hp → Prop) → Prop := fun xs H Q => ∃ p ys, xs = [.ref p] ∧ (SqL K H p ys ∨ SqT K H p ys) ∧ Q (.int ys.length) H
def St9 (W : WK) (a p c : Addr) (ns : List Int) (m j : Nat) (F : Nat → E9 → List PyData → Prop) : St → Hp → Prop := fun σ H => ∃ (Pl Cl Hd Nt : Addr) (ρ : Addr → Nat) (N : Nat) (A cm : Nat → Addr) (e : E9) (cd : Nat → List PyData) (D nd : List PyData) (v2 v3 v8 v9 va vb vc vd ve vf vg : Option V),
  σ = [some (.ref a), some (.ref p), v2, v3, some (.ref Pl), some (.ref Hd), some (.ref Cl), some (.ref Nt), v8, v9, va, vb, vc, vd, ve, vf, vg] ∧ 2 ≤ N ∧ N ≤ 5 ∧ B9 W H ρ p c ns m N A e ∧ L9 H ρ Pl Cl Hd Nt N A cm cd D nd ∧ Rel9 N e cd D ∧ (∀ d ∈ nd, Net9 N e d) ∧ nd.length ≤ j ∧ D.length ≤ j ∧ F N e D
def All9 : Nat → E9 → List PyData → Prop := fun _ _ _ => True
/-- pairs below k that all came through -/
def Full9 (k : Nat) (e : E9) : Prop := ∀ j, j < k → (e j true).tk = (e j false).rows.length ∧ (e j false).kn = (e j false).rows.length
theorem L9.draw9 {W : WK} {H H' : Hp} {ρ : Addr → Nat} {p c : Addr} {ns : List Int} {n N : Nat} {e : E9} {Pl Cl Hd Nt : Addr} {A cm : Nat → Addr} {cd : Nat → List PyData} {D nd : List PyData} (h : L9 H ρ Pl Cl Hd Nt N A cm cd D nd) (hB : B9 W H ρ p c ns n N A e) (b : But (· = p) H H') : L9 H' ρ Pl Cl Hd Nt N A cm cd D nd :=
  h.keep (v := 5) b (hB.pen.tups b) (fun a z => by rw [show a = p from z]; exact hB.rp) (.inl rfl)
theorem full_all {N : Nat} {e : E9} {cd : Nat → List PyData} {D : List PyData} (h : Rel9 N e cd D) (f : Full9 N e) : ∀ k, k < N → (e k false).rows = D ∧ (e k true).tk = D.length ∧ (e k false).kn = D.length := by
  intro k
  induction k with
  | zero =>
    intro hk
    obtain ⟨a, b⟩ := f 0 hk
    rw [h.d0] at a b
    exact ⟨h.d0, a, b⟩
  | succ k ih =>
    intro hk
    obtain ⟨_, i2, _⟩ := ih (by omega)
    have d : (e (k + 1) false).rows = D := by rw [h.dk k hk, i2, List.take_length]
    obtain ⟨a, b⟩ := f (k + 1) hk
    rw [d] at a b
    exact ⟨d, a, b⟩
theorem mapU {A : Nat → Addr} {i : Nat} {a : Addr} : ((List.range i).map fun k => V.ref (A k)) ++ [V.ref a] = (List.range (i + 1)).map fun k => V.ref (updN A i a k) := by
  rw [List.range_succ, List.map_append]
  congr 1
  · refine List.map_congr_left fun k hk => ?_
    rw [updN_ne (List.mem_range.mp hk)]
  · show [V.ref a] = [V.ref (updN A i a i)]
    rw [updN_self]
section
variable {P : Program} {w : World} {K : PySem.W.Frag} {mg : Str → Option Value} {base : Heap} {W : WK}
theorem ok_law {f : Addr} {fd : FuncData} (F : Fun K "law" "law" sLaw f fd) (T : Txt mg) (CW : Wires W P w K mg base 9)
    (CPen : Cal P w K mg base "_law_pen" 1 ["_law_script"] (spPen K)) (CD : Cal P w K mg base "_law_draw" 1 ["_law_pen_here", "_law_many"] spDraw)
    (CR : Cal P w K mg base "_law_row_of" 4 ["_law_pen_here"] spRow)
    (CO : Cal P w K mg base "_law_brought_on" 10 ["_law_pairs", "_law_came", "_law_k", "_law_side", "_law_letter"] (spOn W)) :
    FnG P w K mg base CX0 12 f fd ["_law_script"] (spLaw K) := by
  obtain ⟨f1, fd1, m1, k1, b1, G1⟩ := CPen
  obtain ⟨f2, fd2, m2, k2, b2, G2⟩ := CD
  obtain ⟨f4, fd4, m4, k4, b4, G4⟩ := CR
  obtain ⟨f7, fd7, m7, k7, b7, G7⟩ := CO
  obtain ⟨f8, fd8, ps8, m8, b8, G8⟩ := CW.put
  obtain ⟨f9, fd9, ps9, m9, b9, G9⟩ := CW.letter
  obtain ⟨fh, fdh, psh, mh, bh, Gh⟩ := CW.heard
  obtain ⟨fb, fdb, psb, ib, nb, bb, Gb⟩ := CW.len
  obtain ⟨fc, fdc, psc, mc, bc, Gc⟩ := CW.new
  refine fun_okG F scLaw (fun vs H Q E h => ?_) (fun cdv A0 outer s0 H vs Q E hg hr h => ?_)
  · obtain ⟨a, ns, rfl, _⟩ := h
    rfl
  · obtain ⟨a, ns, rfl, hS, h63, k⟩ := h
    have hu := hu_of hr
    have nd := scLaw.nd
    have r1 : Room 1 _ := hr.mono (by decide)
    have r4 : Room 4 _ := hr.mono (by decide)
    have r9 : Room 9 _ := hr.mono (by decide)
    have r10 : Room 10 _ := hr.mono (by decide)
    refine ⟨_, pss_cons (ps_set (i := 1) nd rfl (.inl rfl) (pe_call G1 r1 (by rfl) m1 k1 b1 .nil pass0 (pa_cons (pv 0) pa_nil)))
      (C8.pss_cut (ps_for PassesOwn.never rfl (pi_range1 rfl T.range (pa_cons pe_int pa_nil)) (pg_name (i := 2) nd rfl (Or.inl rfl))
        (C8.pss_cut (ps_setLc (i := 4) (own := [("_law_k", 3)]) (g := gName 3) (tt := tYes) rfl nd rfl rfl (sw_true rfl rfl rfl (by decide +kernel)) (pi_range1 rfl T.range (pa_cons (pe_op op_add pe_int (pe_call G2 r1 (by rfl) m2 k2 b2 .nil pass0 (pa_cons (pv 1) (pa_cons pe_int pa_nil)))) pa_nil))
            (blkOk_by (N := lawN) (sc := defScope sLaw) (by decide +kernel)) (fun _ _ _ _ _ => pg_name (i := 3) nd rfl (Or.inl rfl)) (fun _ _ _ _ _ => pts_nil)
            (fun _ _ _ _ _ => pe_lst (pa_cons (pe_make0 mc Gc r10 rfl CW.glob bc .nil pass0) (pa_cons (pe_make0 mc Gc r10 rfl CW.glob bc .nil pass0) pa_nil))))
        (C8.pss_cut (ps_asg (pe_tup (pa_cons (pe_lst pa_nil) (pa_cons (pe_lc (own := [("_law_pair", 15)]) (g := gName 15) (tt := tYes) rfl nd (pi_list (pv 4))
              (blkOk_by (N := lawN) (sc := defScope sLaw) (by decide +kernel)) (fun _ _ _ _ _ => pg_name (i := 15) nd rfl (Or.inl rfl)) (fun _ _ _ _ _ => pts_nil)
              (fun _ _ _ _ _ => pe_lst pa_nil)) (pa_cons (pe_lst pa_nil) pa_nil))))
            (pg_tup rfl (pgs_cons (pg_name (i := 5) nd rfl (Or.inr rfl)) (pgs_cons (pg_name (i := 6) nd rfl (Or.inl rfl)) (pgs_cons (pg_name (i := 7) nd rfl (Or.inl rfl)) pgs_nil)))))
        (C8.pss_cut (ps_for PassesOwn.never rfl (pi_range1 rfl T.range (pa_cons (pe_op op_add pe_int (pe_call G2 r1 (by rfl) m2 k2 b2 .nil pass0 (pa_cons (pv 1) (pa_cons pe_int pa_nil)))) pa_nil)) (pg_name (i := 8) nd rfl (Or.inl rfl))
          (pss_cons (ps_par (i := 9) (j := 3) rfl nd rfl rfl (by decide) rfl rfl (pa_cons (pe_call G2 r1 (by rfl) m2 k2 b2 .nil pass0 (pa_cons (pv 1) (pa_cons pe_int pa_nil))) (pa_cons (pe_call G2 r1 (by rfl) m2 k2 b2 .nil pass0 (pa_cons (pv 1) (pa_cons (pe_callB call_len_seq (by rfl) T.len PySem.boot_len (pa_cons (pv 4) pa_nil)) pa_nil))) pa_nil)) (by rfl))
          (C8.pss_cut (ps_if (pt_cmpR op_lt (pv 9) pe_int (nomark _))
              (pss_cons (ps_expr (pe_bm PySem.F.plainAttrs_list PySem.F.slot_list_append PySem.F.type_list_append mt_append (pv 5) (pa_cons (pe_op op_catT (pe_tup (pa_cons (pv 8) pa_nil)) (pe_call G4 r4 (by rfl) m4 k4 b4 .nil pass0 (pa_cons (pv 1) pa_nil))) pa_nil)))
              (pss_one (ps_expr (pe_meth (pe_ix ix_list (pe_ix ix_list (pv 4) pe_int (fun _ _ => rfl)) pe_int (fun _ _ => rfl)) CW.cls m8 G8 r9 b8 .nil pass0 (pa_cons (pe_ix ix_list (pv 5) (pe_un un_neg pe_int) (fun _ _ => rfl)) pa_nil)))))
              (pss_one (ps_if (PW.pt (pw_or (pt_cmpR op_lt (pv 9) pe_int (nomark _)) (pw_or1 (pt_cmpR (op_eqD hr.units) (pv 7) (pe_lst pa_nil) (nomark _)))))
                (pss_cons (ps_set (i := 10) nd rfl (.inl rfl) (pe_call G2 r1 (by rfl) m2 k2 b2 .nil pass0 (pa_cons (pv 1) (pa_cons pe_int pa_nil))))
                (pss_one (ps_expr (pe_bm PySem.F.plainAttrs_list PySem.F.slot_list_append PySem.F.type_list_append mt_append (pv 7) (pa_cons (pe_tup (pa_cons (pv 3) (pa_cons (pe_op op_sub pe_int (pv 10)) (pa_cons (pe_meth0 (pe_ix ix_list (pe_ix ix_list (pv 4) (pv 3) (fun _ _ => rfl)) (pv 10) (fun _ _ => rfl)) CW.cls m9 G9 r9 b9 .nil pass0) pa_nil)))) pa_nil)))))
                (pss_cons (ps_set (i := 11) nd rfl (.inl rfl) (pe_call G2 r1 (by rfl) m2 k2 b2 .nil pass0 (pa_cons (pv 1) (pa_cons (pe_callB call_len_seq (by rfl) T.len PySem.boot_len (pa_cons (pv 7) pa_nil)) pa_nil))))
                (pss_cons (ps_asg (pe_ix ix_list (pv 7) (pv 11) (fun _ _ => rfl)) (pg_tup rfl (pgs_cons (pg_name (i := 12) nd rfl (Or.inl rfl)) (pgs_cons (pg_name (i := 10) nd rfl (Or.inl rfl)) (pgs_cons (pg_name (i := 13) nd rfl (Or.inl rfl)) pgs_nil)))))
                (C8.pss_cut (ps_if (PW.pt (pw_and (pt_cmpR op_lt (pv 9) pe_int (nomark _)) (pw_and1 (pt_not (pt_val (pe_call G7 r10 (by rfl) m7 k7 b7 .nil pass0 (pa_cons (pv 4) (pa_cons (pv 6) (pa_cons (pv 12) (pa_cons (pv 10) (pa_cons (pv 13) pa_nil)))))))))))
                  (pss_one (ps_ret pe_bl)) pss_nil)
                (pss_one (ps_set (i := 7) nd rfl (.inl rfl) (pe_op op_cat (pe_slice sl_list (pv 7) po_none (po_some (pv 11))) (pe_slice sl_list (pv 7) (po_some (pe_op op_add (pv 11) (pe_callTy call_int1 (by rfl) T.int (by decide +kernel) (pa_cons (pe_cmpR op_ne (pv 9) pe_int (nomark _)) pa_nil)))) po_none))))))))))
          (pss_cons (ps_setLc (i := 14) (own := [("_law_one", 16)]) (g := gName 16) rfl nd rfl rfl (sw_true rfl rfl rfl (by decide +kernel)) (pi_list (pv 6))
            (blkOk_by (N := lawN) (sc := defScope sLaw) (by decide +kernel)) (fun _ _ _ _ _ => pg_name (i := 16) nd rfl (Or.inl rfl))
            (fun _ _ _ _ _ => pts_one (pt_cmpR op_ne (pe_callB (id := "repr") (r := rRepr K) (call_repr hg hr.units) (by rfl) T.repr (by decide +kernel) (pa_cons (pv 16) pa_nil)) (pe_callB (id := "repr") (r := rRepr K) (call_repr hg hr.units) (by rfl) T.repr (by decide +kernel) (pa_cons (pe_slice (r := rSlL K) sl_list (pv 5) po_none (po_some (pe_callB (id := "len") (r := rLenS K) call_len_seq (by rfl) T.len PySem.boot_len (pa_cons (pv 16) pa_nil)))) pa_nil)) (nomark _)))
            (fun _ _ _ _ _ => pv 16))
          (pss_one (ps_if (pt_cmpR (op_neD hr.units) (pv 14) (pe_lst pa_nil) (nomark _)) (pss_one (ps_ret pe_bl)) pss_nil)))))) 
        (C8.pss_cut (ps_for PassesOwn.never rfl (pi_range1 rfl T.range (pa_cons (pe_callB call_len_seq (by rfl) T.len PySem.boot_len (pa_cons (pv 4) pa_nil)) pa_nil)) (pg_name (i := 3) nd rfl (Or.inl rfl))
          (pss_one (ps_for PassesOwn.never rfl (pi_tup (pe_tup (pa_cons pe_int (pa_cons pe_int (pa_cons pe_int (pa_cons pe_int pa_nil)))))) (pg_name (i := 10) nd rfl (Or.inl rfl))
            (pss_one (ps_if (pt_not (pt_val (pe_call G7 r10 (by rfl) m7 k7 b7 .nil pass0 (pa_cons (pv 4) (pa_cons (pv 6) (pa_cons (pv 3) (pa_cons (pv 10) (pa_cons (pe_meth0 (pe_ix ix_list (pe_ix ix_list (pv 4) (pv 3) (fun _ _ => rfl)) (pe_op op_sub pe_int (pv 10)) (fun _ _ => rfl)) CW.cls m9 G9 r9 b9 .nil pass0) pa_nil)))))))) (pss_one (ps_ret pe_bl)) pss_nil)))))
        (pss_cons (ps_if (pt_cmpR (op_neD hr.units) (pe_lc (own := [("_law_one", 16)]) (g := gName 16) rfl nd (pi_list (pv 6))
            (blkOk_by (N := lawN) (sc := defScope sLaw) (by decide +kernel)) (fun _ _ _ _ _ => pg_name (i := 16) nd rfl (Or.inl rfl))
            (fun _ _ _ _ _ => pts_one (pt_cmpR op_ne (pe_callB (id := "repr") (r := rRepr K) (call_repr hg hr.units) (by rfl) T.repr (by decide +kernel) (pa_cons (pv 16) pa_nil)) (pe_callB (id := "repr") (r := rRepr K) (call_repr hg hr.units) (by rfl) T.repr (by decide +kernel) (pa_cons (pv 5) pa_nil)) (nomark _)))
            (fun _ _ _ _ _ => pv 16)) (pe_lst pa_nil) (nomark _)) (pss_one (ps_ret pe_bl)) pss_nil)
        (pss_cons (ps_if (pt_cmpR (op_neD hr.units) (pe_lc (own := [("_law_pair", 15)]) (g := gName 15) rfl nd (pi_list (pv 4))
            (blkOk_by (N := lawN) (sc := defScope sLaw) (by decide +kernel)) (fun _ _ _ _ _ => pg_name (i := 15) nd rfl (Or.inl rfl))
            (fun _ _ _ _ _ => pts_one (pt_cmpR op_ne (pe_op op_add (pe_callB (call_lenO (C := W.C) Gb r10 bb ib nb) (by rfl) T.len PySem.boot_len (pa_cons (pe_ix (r := rIxL K) ix_list (pv 15) pe_int (fun _ _ => rfl)) pa_nil)) (pe_callB (call_lenO (C := W.C) Gb r10 bb ib nb) (by rfl) T.len PySem.boot_len (pa_cons (pe_ix (r := rIxL K) ix_list (pv 15) pe_int (fun _ _ => rfl)) pa_nil))) pe_int (nomark _)))
            (fun _ _ _ _ _ => pv 15)) (pe_lst pa_nil) (nomark _)) (pss_one (ps_ret pe_bl)) pss_nil)
        (pss_one (ps_if (pt_cmpR (op_neD hr.units) (pe_lc (own := [("_law_pair", 15)]) (g := gName 15) rfl nd (pi_list (pv 4))
            (blkOk_by (N := lawN) (sc := defScope sLaw) (by decide +kernel)) (fun _ _ _ _ _ => pg_name (i := 15) nd rfl (Or.inl rfl))
            (fun _ _ _ _ _ => pts_one (pt_cmpR op_ne (pe_meth0 (pe_ix (r := rIxL K) ix_list (pv 15) pe_int (fun _ _ => rfl)) CW.cls mh Gh r9 bh .nil pass0) (pe_callB (id := "len") (r := rLenS K) call_len_seq (by rfl) T.len PySem.boot_len (pa_cons (pv 5) pa_nil)) (nomark _)))
            (fun _ _ _ _ _ => pv 15)) (pe_lst pa_nil) (nomark _)) (pss_one (ps_ret pe_bl)) pss_nil)))))))))
      (pss_one (ps_ret pe_bl))), ?_⟩
    refine ⟨_, rfl, a, ns, rfl, hS, h63, fun p c H1 hp hc hP s1 => ?_⟩
    have mk : ∀ {H : Hp} {w dx : Addr}, H w = none → H dx = none → Same H (upd (upd H dx (.own w)) w (.ins W.C dx [])) := fun {H w dx} h1 h2 b o z => by
      rw [upd_ne (ne_of_none z h1), upd_ne (ne_of_none z h2)]
      exact z
    refine ⟨fun _ _ => True, ?_, fun _ H' _ => k H'⟩
    refine ⟨2, rfl, by decide, by decide, for_range (lo := 0) (n := 2) (fun i σ' H' => (∃ v2 v3 v4 v5 v6 v7 v8 v9 va vb vc vd ve vf vg : Option V, σ' = [some (.ref a), some (.ref p), v2, v3, v4, v5, v6, v7, v8, v9, va, vb, vc, vd, ve, vf, vg]) ∧ Pen H' p c ns (10000 * i)) ?_ ?_ fun _ _ _ => trivial⟩
    · exact ⟨⟨_, _, _, _, _, _, _, _, _, _, _, _, _, _, _, rfl⟩, hP⟩
    rintro i σ' H0 hi ⟨⟨v2, v3, v4, v5, v6, v7, v8, v9, va, vb, vc, vd, ve, vf, vg, rfl⟩, hP0⟩
    clear hP s1
    refine ⟨fun σ' H' => ∃ (Pl : Addr) (ρ : Addr → Nat) (N : Nat) (A : Nat → Addr) (e : E9) (v2 : Option V), σ' = [some (.ref a), some (.ref p), v2, v3, some (.ref Pl), v5, v6, v7, v8, v9, va, vb, vc, vd, ve, vf, vg] ∧ 2 ≤ N ∧ N ≤ 5 ∧ B9 W H' ρ p c ns (10000 * i + 1) N A e ∧ H' Pl = some (.lst ((List.range N).map fun k => V.ref (A k))) ∧ ρ Pl = 1 ∧ (∀ k, k < N → ∀ s, (e k s).rows = [] ∧ (e k s).kn = 0 ∧ (e k s).tk = 0), ?_, ?_⟩
    · -- pairs of wires
      refine ⟨_, rfl, p, c, ns, 10000 * i, 4, rfl, hP0, by omega, by decide, by decide, fun r H2 r0 r1 hP2 b2 => ⟨_, _, rfl, rfl, _, rfl, by omega, by omega, fun L hL => ?_⟩⟩
      obtain ⟨ρ0, hB0⟩ := B9.start (W := W) hP2 (fun _ => 0) (fun _ _ => ⟨0, 0, 0, [], [], 0, 0⟩)
      obtain ⟨ρ1, hB1, hρ1, _⟩ := hB0.newRole (same_new (Same.refl _) hL (o := .lst [])) hL upd_same 1
      refine lc_range (lo := 0) (n := (2 + r).toNat) (fun i2 H' => ∃ (ρ : Addr → Nat) (A : Nat → Addr) (e : E9), B9 W H' ρ p c ns (10000 * i + 1) i2 A e ∧ H' L = some (.lst ((List.range i2).map fun k => V.ref (A k))) ∧ ρ L = 1 ∧ (∀ k, k < i2 → ∀ s, (e k s).rows = [] ∧ (e k s).kn = 0 ∧ (e k s).tk = 0)) ?_ ?_ ?_
      · exact ⟨ρ1, _, _, hB1, upd_same, hρ1, fun k hk => absurd hk (by omega)⟩
      · rintro i2 H3 hi2 ⟨ρ, A, e, hB, hLl, hρ, hz⟩
        refine ⟨rfl, fun w1 d1 hw1 hd1 nd1 => ⟨H3, w1, d1, rfl, mk hw1 hd1, hw1, upd_same, fun fp1 H4 W1 n1 s4 => ⟨rfl, ?_⟩⟩⟩
        refine fun w2 d2 hw2 hd2 nd2 => ⟨H4, w2, d2, rfl, mk hw2 hd2, hw2, upd_same, fun fp2 H5 W2 n2 s5 => ⟨rfl, (by show 2 ≤ sizeLine; decide), fun q hq => ?_⟩⟩
        have s6 := same_new (Same.refl H5) hq (o := .lst [V.ref w1, V.ref w2])
        have a6 := upd_same (H := H5) (a := q) (o := .lst [V.ref w1, V.ref w2])
        have W15 := WK.same W1 s5
        have nq1 := WK.ne W15 hq
        have nq2 := WK.ne W2 hq
        generalize upd H5 q (.lst [V.ref w1, V.ref w2]) = H6 at s6 a6 ⊢
        have s36 := (s4.trans s5).trans s6
        obtain ⟨hB6, keep⟩ := hB.pair s36 ((s4.trans s5).free hq) a6 n1 (fun b m => s4.free (n2 b m)) nq1 nq2 (fun b m2 m1 => by
          obtain ⟨u, hu, _⟩ := W.there W1 b m1
          rw [n2 b m2] at hu
          cases hu) (WK.same W15 s6) (WK.same W2 s6)
        have hL6 := s36 _ _ hLl
        refine ⟨_, hL6, small1000 (by rw [List.length_map, List.length_range]; omega), _, updN A i2 q, _, hB6.lset hL6 (v := 1) ?_ (.inl (by decide)), ?_, ?_, fun k hk s => ?_⟩
        · rw [keep L _ hLl, hρ]
        · rw [upd_same, mapU]
        · rw [keep L _ hLl, hρ]
        · by_cases q3 : k = i2
          · subst q3
            rw [updN_self]
            cases s <;> exact ⟨rfl, rfl, rfl⟩
          · rw [updN_ne (by omega)]
            exact hz k (by omega) s
      · rintro H3 ⟨ρ, A, e, hB, hLl, hρ, hz⟩
        exact ⟨L, ρ, (2 + r).toNat, A, e, _, rfl, by omega, by omega, hB, hLl, hρ, hz⟩
    rintro σ1 H1 ⟨Pl, ρ, N, A, e, v2, rfl, N2, N5, hB, hPl, hρ, hz⟩
    refine ⟨St9 W a p c ns (10000 * i + 1) 0 All9, ?_, ?_⟩
    · -- head, came, net
      refine ⟨Nat.zero_le _, fun Hd hHd => ?_⟩
      have s2 := same_new (Same.refl H1) hHd (o := .lst [])
      have a2 := upd_same (H := H1) (a := Hd) (o := .lst [])
      generalize upd H1 Hd (.lst []) = H2 at s2 a2 ⊢
      obtain ⟨ρ2, hB2, rH, keep2⟩ := hB.newRole s2 hHd a2 3
      have hPl2 := s2 _ _ hPl
      have rP2 : ρ2 Pl = 1 := by rw [keep2 _ _ hPl, hρ]
      refine ⟨_, rfl, Pl, rfl, ⟨_, SqL.of hPl2⟩, fun Cl hCl => ?_⟩
      have s3 := same_new (Same.refl H2) hCl (o := .lst [])
      obtain ⟨ρ3, hB3, rC, keep3⟩ := hB2.newRole s3 hCl upd_same 2
      refine lc_list (K := K) (a := Pl) (xs := (List.range N).map fun k => V.ref (A k)) (fun i2 H' => ∃ (ρ : Addr → Nat) (cm : Nat → Addr), B9 W H' ρ p c ns (10000 * i + 1) N A e ∧ H' Pl = some (.lst ((List.range N).map fun k => V.ref (A k))) ∧ ρ Pl = 1 ∧ H' Hd = some (.lst []) ∧ ρ Hd = 3 ∧ H' Cl = some (.lst ((List.range i2).map fun k => V.ref (cm k))) ∧ ρ Cl = 2 ∧ ∀ k, k < i2 → ρ (cm k) = 11 + 4 * k ∧ H' (cm k) = some (.lst [])) ?_ ?_ ?_ ?_
      · exact ⟨ρ3, fun _ => 0, hB3, s3 _ _ hPl2, by rw [keep3 _ _ hPl2, rP2], s3 _ _ a2, by rw [keep3 _ _ a2, rH], upd_same, rC, fun k hk => absurd hk (by omega)⟩
      · rintro i2 H' _ ⟨ρ, cm, _, z, _⟩
        exact SqL.of z
      · rintro i2 x H4 hi2 ⟨ρ, cm, hB4, z1, z2, z3, z4, z5, z6, z7⟩
        have hi2' : i2 < N := by
          have := (List.getElem?_eq_some_iff.mp hi2).1
          rwa [List.length_map, List.length_range] at this
        refine ⟨rfl, Nat.zero_le _, fun q hq => ?_⟩
        have s5 := same_new (Same.refl H4) hq (o := .lst [])
        have a5 := upd_same (H := H4) (a := q) (o := .lst [])
        generalize upd H4 q (.lst []) = H5 at s5 a5 ⊢
        obtain ⟨ρ5, hB5, rq, keep5⟩ := hB4.newRole s5 hq a5 (11 + 4 * i2)
        have z5' := s5 _ _ z5
        have rC5 : ρ5 Cl = 2 := by rw [keep5 _ _ z5, z6]
        have rP5 : ρ5 Pl = 1 := by rw [keep5 _ _ z1, z2]
        have rH5 : ρ5 Hd = 3 := by rw [keep5 _ _ z3, z4]
        have nPC : Pl ≠ Cl := fun z => by rw [z, rC5] at rP5; omega
        have nHC : Hd ≠ Cl := fun z => by rw [z, rC5] at rH5; omega
        have nqC : q ≠ Cl := fun z => by rw [z, rC5] at rq; omega
        refine ⟨_, z5', small1000 (by rw [List.length_map, List.length_range]; omega), ρ5, updN cm i2 q, hB5.lset z5' rC5 (.inl (by decide)), ?_, rP5, ?_, rH5, ?_, rC5, fun k hk => ?_⟩
        · rw [upd_ne nPC]; exact s5 _ _ z1
        · rw [upd_ne nHC]; exact s5 _ _ z3
        · rw [upd_same, mapU]
        · by_cases q3 : k = i2
          · subst q3
            rw [updN_self]
            exact ⟨rq, by rw [upd_ne nqC]; exact a5⟩
          · obtain ⟨y1, y2⟩ := z7 k (by omega)
            have y3 : ρ5 (cm k) = 11 + 4 * k := by rw [keep5 _ _ y2, y1]
            have nk : cm k ≠ Cl := fun z => by rw [z, rC5] at y3; omega
            rw [updN_ne (by omega)]
            exact ⟨y3, by rw [upd_ne nk]; exact s5 _ _ y2⟩
      · rintro H4 ⟨ρ, cm, hB4, z1, z2, z3, z4, z5, z6, z7⟩
        rw [List.length_map, List.length_range] at z5 z7
        refine ⟨Nat.zero_le _, fun Nt hNt => ⟨(by show 3 ≤ sizeLine; decide), fun tp htp => ?_⟩⟩
        have s5 := same_new (Same.refl H4) hNt (o := .lst [])
        have a5 := upd_same (H := H4) (a := Nt) (o := .lst [])
        generalize upd H4 Nt (.lst []) = H5 at s5 a5 htp ⊢
        obtain ⟨ρ5, hB5, rN, keep5⟩ := hB4.newRole s5 hNt a5 4
        have s6 := same_new (Same.refl H5) htp (o := .tup [.ref Hd, .ref Cl, .ref Nt])
        have a6 := upd_same (H := H5) (a := tp) (o := .tup [.ref Hd, .ref Cl, .ref Nt])
        generalize upd H5 tp (.tup [.ref Hd, .ref Cl, .ref Nt]) = H6 at s6 a6 ⊢
        have s46 := s5.trans s6
        refine ⟨tp, _, rfl, SqT.of a6, rfl, _, _, rfl, _, _, rfl, _, _, rfl, rfl, ?_⟩
        refine ⟨Pl, Cl, Hd, Nt, ρ5, N, A, cm, e, fun _ => [], [], [], _, _, _, _, _, _, _, _, _, _, _, rfl, N2, N5, hB5.same s6, ⟨?_, ?_, ?_, rN, fun k hk => ?_, s46 _ _ z1, s46 _ _ z5, fun k hk => ?_, ⟨[], s46 _ _ z3, .nil⟩, ⟨[], s6 _ _ a5, .nil⟩⟩, ⟨by omega, (hz 0 (by omega) false).1, fun k hk => ?_, fun k hk => (hz k hk true).1, fun k hk => ?_, fun k hk s => ?_, fun k hk s => ?_, fun d m => absurd m (by simp)⟩, fun d m => absurd m (by simp), Nat.le_refl _, Nat.le_refl _, trivial⟩
        · rw [keep5 _ _ z1, z2]
        · rw [keep5 _ _ z5, z6]
        · rw [keep5 _ _ z3, z4]
        · obtain ⟨y1, y2⟩ := z7 k hk
          rw [keep5 _ _ y2, y1]
        · exact ⟨[], s46 _ _ (z7 k hk).2, .nil⟩
        · rw [(hz (k + 1) hk false).1, List.take_nil]
        · rw [List.take_nil]
        · rw [(hz k hk s).2.1]; exact Nat.zero_le _
        · rw [(hz k hk s).2.2]; exact Nat.zero_le _
    clear hB hPl hρ hz
    rintro σ2 H2 ⟨Pl, Cl, Hd, Nt, ρ, N, A, cm, e, cd, D, nd', v2, v3, v8, v9, va, vb, vc, vd, ve, vf, vg, rfl, N2, N5, hB, hL, hR, hN, hnl, hDl, _⟩
    refine ⟨St9 W a p c ns (10000 * i + 4000) 100 All9, ?_, ?_⟩
    · -- the turns
      refine ⟨_, rfl, p, c, ns, 10000 * i + 1, 80, rfl, hB.pen, by omega, by decide, by decide, fun r H3 r0 r1 hP3 b3 => ⟨_, _, rfl, rfl, _, rfl, by omega, by omega, ?_⟩⟩
      refine for_range (lo := 0) (n := (20 + r).toNat) (fun j σ' H' => St9 W a p c ns (10000 * i + 2 + 30 * j) j All9 σ' H') ?_ ?_ ?_
      · exact ⟨Pl, Cl, Hd, Nt, ρ, N, A, cm, e, cd, D, nd', _, _, _, _, _, _, _, _, _, _, _, rfl, N2, N5, hB.draw b3 hP3, hL.draw9 hB b3, hR, hN, hnl, hDl, trivial⟩
      · clear hB hL hR hN hnl hDl hP3 b3
        rintro j σ' H4 hj ⟨Pl, Cl, Hd, Nt, ρ, N, A, cm, e, cd, D, nd', v2, v3, v8, v9, va, vb, vc, vd, ve, vf, vg, rfl, N2, N5, hB, hL, hR, hN, hnl, hDl, _⟩
        have jb : j ≤ 98 := by omega
        refine ⟨_, rfl, p, c, ns, 10000 * i + 2 + 30 * j, 7, rfl, hB.pen, by omega, by decide, by decide, fun lot H5 l0 l1 hP5 b5 => ?_⟩
        have B5 := hB.draw b5 hP5
        have L5 := hL.draw9 hB b5
        have lenN : ((List.range N).map fun k => V.ref (A k)).length = N := by rw [List.length_map, List.length_range]
        refine ⟨_, rfl, _, rfl, Pl, _, rfl, .inl (SqL.of L5.lP), p, c, ns, 10000 * i + 2 + 30 * j + 1, _, rfl, hP5, by omega, by rw [lenN]; omega, by rw [lenN]; omega, fun kk H6 k0 k1 hP6 b6 => ⟨_, _, rfl, ?_⟩⟩
        rw [lenN] at k1
        obtain ⟨k, rfl⟩ : ∃ k : Nat, kk = (k : Int) := ⟨kk.toNat, (Int.toNat_of_nonneg k0).symm⟩
        have kN : k < N := by omega
        have B6 := B5.draw b6 hP6
        have L6 := L5.draw9 B5 b6
        clear hB hL B5 L5 b5 b6 hP5
        refine ⟨St9 W a p c ns (10000 * i + 2 + 30 * j + 29) (j + 1) All9, ?_, ?_⟩
        · refine ⟨_, rfl, _, _, rfl, rfl, _, rfl, ite2 (fun _ => ?_) (fun _ => ?_)⟩
          · -- a row put at the head
            obtain ⟨hx, hh, hhd⟩ := L6.hH
            have hhl := hhd.length
            refine ⟨_, rfl, .inl ⟨rfl, _, SqL.of hh⟩, _, rfl, (by show 1 ≤ sizeLine; decide), fun t1 ht1 => ?_⟩
            have g1 := same_new (Same.refl H6) ht1 (o := .tup [.int (0 + (j : Int))])
            have a1 := upd_same (H := H6) (a := t1) (o := .tup [.int (0 + (j : Int))])
            generalize upd H6 t1 (.tup [.int (0 + (j : Int))]) = H7 at g1 a1 ⊢
            have B7 := B6.same g1
            have L7 := L6.same g1
            refine ⟨_, rfl, p, c, ns, 10000 * i + 2 + 30 * j + 1 + 1, rfl, B7.pen, by omega, fun t2 xs ds H8 ht2 hT hD hlen hpl hP8 b8 => ?_⟩
            have t8 := B7.pen.tups b8
            have a1' := t8 _ _ a1
            have B8 := B7.draw b8 hP8
            have L8 := L7.draw9 B7 b8
            refine cat_row a1' hT hD hlen fun t H9 hdt s9 => ?_
            have B9' := B8.same s9
            have L9' := L8.same s9
            obtain ⟨hx, hh, hhd⟩ := L9'.hH
            have hhl := hhd.length
            have hrow : RowD (.tuple (.int (0 + (j : Int)) :: ds)) := ⟨_, rfl, by simp only [List.length_cons]; omega, fun e he => by
              rcases List.mem_cons.mp he with rfl | he
              · exact .inr (.inl ⟨_, by omega, by omega, rfl⟩)
              · exact hpl e he⟩
            refine ⟨Hd, _, _, rfl, rfl, hh, small1000 (by omega), ?_⟩
            obtain ⟨L10, bb, tt⟩ := L9'.head hh hhd (.cons hdt .nil)
            have B10 := B9'.lset hh L9'.rH (ys := hx ++ [V.ref t]) (.inl (by decide))
            have a10 := upd_same (H := H9) (a := Hd) (o := .lst (hx ++ [V.ref t]))
            have hdt10 := hdt.mono tt
            generalize upd H9 Hd (.lst (hx ++ [V.ref t])) = H10 at L10 B10 a10 hdt10 ⊢
            have h0N : 0 < N := by omega
            have hW := B10.hW 0 h0N false
            obtain ⟨dx, fs, hins, hno⟩ := W.ins hW
            have rl := (hR.rows h0N false).1
            have kno := hR.kn h0N false
            refine ⟨_, rfl, Pl, _, _, _, rfl, rfl, SqL.of L10.lP, (by exact atR (f := fun k => V.ref (A k)) (k := 0) h0N), A 0, _, _, _, rfl, rfl, SqL.of (B10.hA 0 h0N), atI_int (by decide) rfl, (e 0 false).w, dx, fs, rfl, hins, hno _ (by simp), _, rfl, _, rfl, Hd, _, _, _, rfl, rfl, SqL.of a10, atI_last _ _, (e 0 false).w, t, _, (e 0 false).fp, _, _, _, rfl, hW, hdt10, hrow, by omega, fun fp' H11 hW11 hf11 b11 => ?_⟩
            have t11 := WK.tups hW b11
            obtain ⟨B11, keepρ⟩ := B10.wire (v := { e 0 false with fp := fp', rows := (e 0 false).rows ++ [.tuple (.int (0 + (j : Int)) :: ds)] }) h0N b11 (by
              show W.At H11 fp' (e 0 false).w (((e 0 false).rows ++ [PyData.tuple (.int (0 + (j : Int)) :: ds)]).drop (e 0 false).kn) ((e 0 false).rows ++ [PyData.tuple (.int (0 + (j : Int)) :: ds)]).length (e 0 false).tk
              rw [List.drop_append_of_le_length kno, List.length_append]
              exact hW11) hf11 rfl
            have L11 := (L10.keep b11 t11 (fun a ha => B10.rW 0 h0N false a ha) (.inr ⟨0, false, rfl⟩)).rho fun a m q z z0 => keepρ a m q z (.inl z0)
            refine ⟨Pl, Cl, Hd, Nt, _, N, A, cm, _, cd, _, nd', _, _, _, _, _, _, _, _, _, _, _, rfl, N2, N5, B11.more (by omega), L11, hR.put0 hrow rfl rfl rfl, fun d m => (hN d m).le fun k' s' => ?_, Nat.le_succ_of_le hnl, ?_, trivial⟩
            · by_cases q : k' = 0 ∧ s' = false
              · obtain ⟨rfl, rfl⟩ := q
                rw [E9.put_self]
                exact ⟨⟨_, rfl⟩, Nat.le_refl _, Nat.le_refl _⟩
              · rw [E9.put_ne q]
                exact Le7.refl _
            · rw [List.length_append, List.length_singleton]
              omega
          · refine ⟨_, rfl, _, _, rfl, rfl, _, rfl, ite2 (fun _ => ?_) (fun _ => ?_)⟩
            · have BB := B6
              have LL := L6
              · refine ⟨_, rfl, p, c, ns, 10000 * i + 2 + 30 * j + 1 + 1, 2, rfl, BB.pen, by omega, by decide, by decide, fun sd H8 t0 t1 hP8 b8 => ?_⟩
                obtain ⟨s, rfl⟩ : ∃ s : Bool, sd = ((s.toNat : Nat) : Int) := by
                  rcases (show sd = 0 ∨ sd = 1 by omega) with rfl | rfl
                  · exact ⟨false, rfl⟩
                  · exact ⟨true, rfl⟩
                have B8 := BB.draw b8 hP8
                have L8 := LL.draw9 BB b8
                obtain ⟨n8, hn8, hnd8⟩ := L8.hN
                have hW := B8.hW k kN s
                obtain ⟨dx, fs, hins, hno⟩ := W.ins hW
                have rl := (hR.rows kN s).1
                have kno := hR.kn kN s
                have nl8 := hnd8.length
                refine ⟨_, rfl, .inl ⟨rfl, _, SqL.of hn8⟩, _, rfl, _, rfl, _, _, rfl, rfl, _, rfl, _, rfl, Pl, _, _, _, rfl, rfl, SqL.of L8.lP, atR kN, _, rfl, A k, _, _, _, rfl, rfl, SqL.of (B8.hA k kN), atS s, (e k s).w, dx, fs, rfl, hins, hno _ (by simp), (e k s).w, (e k s).fp, _, _, _, rfl, hW, by omega, fun t H9 ht hd s9 => ⟨(by show 3 ≤ sizeLine; decide), fun t2 ht2 => ?_⟩⟩
                rw [show (e k s).rows.length - ((e k s).rows.drop (e k s).kn).length = (e k s).kn by rw [List.length_drop]; omega] at hd
                have e1s : (1 : Int) - ((s.toNat : Nat) : Int) = (((!s).toNat : Nat) : Int) := by cases s <;> rfl
                have g9 := same_new (Same.refl H9) ht2 (o := .tup [.int (k : Nat), .int (1 - ((s.toNat : Nat) : Int)), .ref t])
                have a9 := upd_same (H := H9) (a := t2) (o := .tup [.int (k : Nat), .int (1 - ((s.toNat : Nat) : Int)), .ref t])
                generalize upd H9 t2 (.tup [.int (k : Nat), .int (1 - ((s.toNat : Nat) : Int)), .ref t]) = H10 at g9 a9 ⊢
                rw [e1s] at a9
                have s10 := s9.trans g9
                have B10 := B8.same s10
                have L10 := L8.same s10
                have hn10 := s10 _ _ hn8
                refine ⟨Nt, _, _, rfl, rfl, hn10, small1000 (by omega), ?_⟩
                have hdt10 : Dt H10 (.ref t2) (.tuple [.int (k : Nat), .int ((!s).toNat : Nat), LetD (e k s).kn ((e k s).rows.drop (e k s).kn) (e k s).tk]) := .tup a9 (.cons (.int _) (.cons (.int _) (.cons (hd.mono (sameTups g9)) .nil)))
                obtain ⟨L11, _, _⟩ := L10.net hn10 ((hnd8.mono (sameTups s10)).app (.cons hdt10 .nil))
                refine ⟨Pl, Cl, Hd, Nt, ρ, N, A, cm, e, cd, D, _, _, _, _, _, _, _, _, _, _, _, _, rfl, N2, N5, (B10.lset hn10 L10.rN (.inl (by decide))).more (by omega), L11, hR, fun d m => ?_, ?_, Nat.le_succ_of_le hDl, trivial⟩
                · rcases List.mem_append.mp m with m | m
                  · exact hN d m
                  · rw [List.mem_singleton.mp m]
                    refine ⟨k, !s, _, _, _, rfl, kN, ?_⟩
                    rw [not_not']
                    exact good7_now _
                · rw [List.length_append, List.length_singleton]
                  omega
            · obtain ⟨n6, hn6, hnd6⟩ := L6.hN
              refine ⟨_, rfl, Nat.zero_le _, fun l0' hl0 => ?_⟩
              have g7 := same_new (Same.refl H6) hl0 (o := .lst [])
              have a7 := upd_same (H := H6) (a := l0') (o := .lst [])
              generalize upd H6 l0' (.lst []) = H7 at g7 a7 ⊢
              have BB := B6.same g7
              have LL := L6.same g7
              have hn7 := g7 _ _ hn6
              have hnd7 := hnd6.mono (sameTups g7)
              refine ⟨_, _, .lst (SqL.of hn7) hnd7.dp, .lst (SqL.of a7) .nil, net9_shaped hN (fun k hk s => (hR.rows hk s).2), by decide +kernel, _, rfl, ?_⟩
              cases nd' with
              | nil =>
                refine iteT ?_
                refine ⟨_, rfl, p, c, ns, 10000 * i + 2 + 30 * j + 1 + 1, 2, rfl, BB.pen, by omega, by decide, by decide, fun sd H8 t0 t1 hP8 b8 => ?_⟩
                obtain ⟨s, rfl⟩ : ∃ s : Bool, sd = ((s.toNat : Nat) : Int) := by
                  rcases (show sd = 0 ∨ sd = 1 by omega) with rfl | rfl
                  · exact ⟨false, rfl⟩
                  · exact ⟨true, rfl⟩
                have B8 := BB.draw b8 hP8
                have L8 := LL.draw9 BB b8
                obtain ⟨n8, hn8, hnd8⟩ := L8.hN
                have hW := B8.hW k kN s
                obtain ⟨dx, fs, hins, hno⟩ := W.ins hW
                have rl := (hR.rows kN s).1
                have kno := hR.kn kN s
                have nl8 := hnd8.length
                refine ⟨_, rfl, .inl ⟨rfl, _, SqL.of hn8⟩, _, rfl, _, rfl, _, _, rfl, rfl, _, rfl, _, rfl, Pl, _, _, _, rfl, rfl, SqL.of L8.lP, atR kN, _, rfl, A k, _, _, _, rfl, rfl, SqL.of (B8.hA k kN), atS s, (e k s).w, dx, fs, rfl, hins, hno _ (by simp), (e k s).w, (e k s).fp, _, _, _, rfl, hW, by omega, fun t H9 ht hd s9 => ⟨(by show 3 ≤ sizeLine; decide), fun t2 ht2 => ?_⟩⟩
                rw [show (e k s).rows.length - ((e k s).rows.drop (e k s).kn).length = (e k s).kn by rw [List.length_drop]; omega] at hd
                have e1s : (1 : Int) - ((s.toNat : Nat) : Int) = (((!s).toNat : Nat) : Int) := by cases s <;> rfl
                have g9 := same_new (Same.refl H9) ht2 (o := .tup [.int (k : Nat), .int (1 - ((s.toNat : Nat) : Int)), .ref t])
                have a9 := upd_same (H := H9) (a := t2) (o := .tup [.int (k : Nat), .int (1 - ((s.toNat : Nat) : Int)), .ref t])
                generalize upd H9 t2 (.tup [.int (k : Nat), .int (1 - ((s.toNat : Nat) : Int)), .ref t]) = H10 at g9 a9 ⊢
                rw [e1s] at a9
                have s10 := s9.trans g9
                have B10 := B8.same s10
                have L10 := L8.same s10
                have hn10 := s10 _ _ hn8
                refine ⟨Nt, _, _, rfl, rfl, hn10, small1000 (by omega), ?_⟩
                have hdt10 : Dt H10 (.ref t2) (.tuple [.int (k : Nat), .int ((!s).toNat : Nat), LetD (e k s).kn ((e k s).rows.drop (e k s).kn) (e k s).tk]) := .tup a9 (.cons (.int _) (.cons (.int _) (.cons (hd.mono (sameTups g9)) .nil)))
                obtain ⟨L11, _, _⟩ := L10.net hn10 ((hnd8.mono (sameTups s10)).app (.cons hdt10 .nil))
                refine ⟨Pl, Cl, Hd, Nt, ρ, N, A, cm, e, cd, D, _, _, _, _, _, _, _, _, _, _, _, _, rfl, N2, N5, (B10.lset hn10 L10.rN (.inl (by decide))).more (by omega), L11, hR, fun d m => ?_, ?_, Nat.le_succ_of_le hDl, trivial⟩
                · rcases List.mem_append.mp m with m | m
                  · exact hN d m
                  · rw [List.mem_singleton.mp m]
                    refine ⟨k, !s, _, _, _, rfl, kN, ?_⟩
                    rw [not_not']
                    exact good7_now _
                · rw [List.length_append, List.length_singleton]
                  omega
              | cons nd1 ndr =>
                refine iteF ?_
                have nl7 := hnd7.length
                simp only [List.length_cons] at hnl nl7
                refine ⟨_, rfl, _, rfl, Nt, _, rfl, .inl (SqL.of hn7), p, c, ns, 10000 * i + 2 + 30 * j + 1 + 1, _, rfl, BB.pen, by omega, by omega, by omega, fun aa H8 a0 a1 hP8 b8 => ?_⟩
                have B8 := BB.draw b8 hP8
                have L8 := LL.draw9 BB b8
                have t8 := BB.pen.tups b8
                obtain ⟨n8, hn8, hnd8⟩ := L8.hN
                have nl8 := hnd8.length
                simp only [List.length_cons] at nl8
                have aN : aa.toNat < n8.length := by omega
                obtain ⟨d, hd, hdt⟩ := hnd8.get _ _ (List.getElem?_eq_getElem aN)
                obtain ⟨la, t, k2, s, first, heard, new, ev, hla, hlt, hk2, hgood⟩ := (hN d (List.mem_of_getElem? hd)).at hdt
                refine ⟨_, rfl, _, rfl, Nt, _, _, _, rfl, rfl, SqL.of hn8, atI_int a0 (List.getElem?_eq_getElem aN), la, _, ev, SqT.of hla, rfl, _, _, rfl, _, _, rfl, _, _, rfl, rfl, ?_⟩
                refine ⟨fun σ' H' => ∃ (ρ : Addr → Nat) (e : E9) (cd : Nat → List PyData), σ' = [some (.ref a), some (.ref p), v2, some (.int (k : Nat)), some (.ref Pl), some (.ref Hd), some (.ref Cl), some (.ref Nt), some (.int (0 + (j : Int))), some (.int lot), some (.int (s.toNat : Nat)), some (.int aa), some (.int (k2 : Nat)), some (.ref t), ve, vf, vg] ∧ B9 W H' ρ p c ns (10000 * i + 2 + 30 * j + 3) N A e ∧ L9 H' ρ Pl Cl Hd Nt N A cm cd D (nd1 :: ndr) ∧ Rel9 N e cd D ∧ (∀ d ∈ nd1 :: ndr, Net9 N e d), ?_, ?_⟩
                · refine ⟨_, rfl, _, _, rfl, rfl, _, rfl, ite2 (fun _ => ?_) (fun _ => ?_)⟩
                  · refine ⟨_, rfl, _, rfl, _, rfl, _, rfl, _, rfl, Pl, Cl, Hd, Nt, ρ, p, c, ns, _, N, A, cm, e, cd, D, nd1 :: ndr, k2, s, t, first, heard, new, rfl, hk2, by omega, B8, L8, hR, hlt, hgood, fun ρ' e' cd' H' z1 z2 z3 z4 _ => ⟨true, rfl, iteF ?_⟩⟩
                    exact ⟨ρ', e', cd', rfl, z1.more (by omega), z2, z3, fun d m => (hN d m).le z4.le⟩
                  · exact ⟨ρ, e, cd, rfl, B8.more (by omega), L8, hR, hN⟩
                · clear B8 L8 t8 hnd8 hn8 hd hdt ev hla hlt hgood BB LL hN hR hn7 hnd7 B6 L6 hn6 hnd6 g7 a7 b8 hP8
                  rintro σ' H9 ⟨ρ, e, cd, rfl, hB9, hL9, hR, hN⟩
                  obtain ⟨n9, hn9, hnd9⟩ := hL9.hN
                  have nl9 := hnd9.length
                  simp only [List.length_cons] at nl9
                  refine ⟨_, rfl, _, rfl, _, rfl, Nt, n9, rfl, SqL.of hn9, fun l1' hl1 => ?_⟩
                  rw [cutV_toI a0]
                  have ga := same_new (Same.refl H9) hl1 (o := .lst (n9.take aa.toNat))
                  have ab := upd_same (H := H9) (a := l1') (o := .lst (n9.take aa.toNat))
                  generalize upd H9 l1' (.lst (n9.take aa.toNat)) = Ha at ga ab ⊢
                  refine ⟨_, rfl, _, rfl, _, rfl, rfl, .inr ⟨_, rfl, _, _, rfl, rfl, _, rfl, Nt, n9, rfl, SqL.of (ga _ _ hn9), fun l2' hl2 => ?_⟩⟩
                  rw [cutV_dropI (by split <;> omega)]
                  have kle : aa.toNat ≤ (aa + (if (!decide (V.int lot = V.int 5)) = true then 1 else 0)).toNat := by split <;> omega
                  generalize (aa + (if (!decide (V.int lot = V.int 5)) = true then 1 else 0)).toNat = k3 at kle ⊢
                  have gb := same_new (Same.refl Ha) hl2 (o := .lst (n9.drop k3))
                  have ac := upd_same (H := Ha) (a := l2') (o := .lst (n9.drop k3))
                  generalize upd Ha l2' (.lst (n9.drop k3)) = Hb at gb ac ⊢
                  have s9b := ga.trans gb
                  refine ⟨l1', l2', _, _, rfl, rfl, gb _ _ ab, ac, ?_, fun N' hN' => ?_⟩
                  · simp only [List.length_take, List.length_drop]
                    exact Nat.le_trans (show min aa.toNat n9.length + (n9.length - k3) ≤ 1000 by omega) (by decide)
                  have sc := same_new (Same.refl Hb) hN' (o := .lst (n9.take aa.toNat ++ n9.drop k3))
                  have ad := upd_same (H := Hb) (a := N') (o := .lst (n9.take aa.toNat ++ n9.drop k3))
                  generalize upd Hb N' (.lst (n9.take aa.toNat ++ n9.drop k3)) = Hc at sc ad ⊢
                  have s9c := s9b.trans sc
                  have Bb := (hB9.same s9b).drop hL9.rN
                  have Lb := hL9.same s9b
                  obtain ⟨ρc, Bc, rN', keepc⟩ := Bb.newRole sc hN' ad 4
                  have old : ∀ b v, b ≠ Nt → (∃ u, Hb b = some u) → ρ b = v → ρc b = v := fun b v nb ⟨u, hu⟩ hv => by
                    rw [keepc b u hu, if_neg nb, hv]
                  obtain ⟨hx, hh, hhd⟩ := Lb.hH
                  have hndc := hnd9.mono (sameTups s9c)
                  refine ⟨Pl, Cl, Hd, N', ρc, N, A, cm, e, cd, D, (nd1 :: ndr).take aa.toNat ++ (nd1 :: ndr).drop k3, _, _, _, _, _, _, _, _, _, _, _, rfl, N2, N5, Bc.more (by omega), ⟨?_, ?_, ?_, rN', fun q hq => ?_, sc _ _ Lb.lP, sc _ _ Lb.lC, fun q hq => ?_, ⟨hx, sc _ _ hh, hhd.mono (sameTups sc)⟩, ⟨_, ad, (hndc.take _).app (hndc.drop _)⟩⟩, hR, fun d m => ?_, ?_, Nat.le_succ_of_le hDl, trivial⟩
                  · exact old _ _ (Lb.ne Lb.rP Lb.rN (by omega)) ⟨_, Lb.lP⟩ Lb.rP
                  · exact old _ _ (Lb.ne Lb.rC Lb.rN (by omega)) ⟨_, Lb.lC⟩ Lb.rC
                  · exact old _ _ (Lb.ne Lb.rH Lb.rN (by omega)) ⟨_, hh⟩ Lb.rH
                  · obtain ⟨ks, hk, hkd⟩ := Lb.hK q hq
                    exact old _ _ (Lb.ne (Lb.rK q hq) Lb.rN (by omega)) ⟨_, hk⟩ (Lb.rK q hq)
                  · obtain ⟨ks, hk, hkd⟩ := Lb.hK q hq
                    exact ⟨ks, sc _ _ hk, hkd.mono (sameTups sc)⟩
                  · rcases List.mem_append.mp m with m | m
                    · exact hN d (List.mem_of_mem_take m)
                    · exact hN d (List.mem_of_mem_drop m)
                  · simp only [List.length_append, List.length_take, List.length_drop, List.length_cons]
                    omega
        · rintro σ' H7 ⟨Pl, Cl, Hd, Nt, ρ, N, A, cm, e, cd, D, nd', v2, v3, v8, v9, va, vb, vc, vd, ve, vf, vg, rfl, N2, N5, hB, hL, hR, hN, hnl, hDl, _⟩
          refine ⟨_, rfl, Cl, rfl, ⟨_, SqL.of hL.lC⟩, fun Dw hDw => ?_⟩
          refine lc_list (K := K) (a := Cl) (xs := (List.range N).map fun k => V.ref (cm k)) (fun _ H' => H' Dw = some (.lst []) ∧ Same H7 H') ?_ ?_ ?_ ?_
          · exact ⟨upd_same, same_new (Same.refl _) hDw⟩
          · rintro i2 H' _ ⟨_, s⟩
            exact SqL.of (s _ _ hL.lC)
          · rintro i2 x H8 hi2 ⟨z1, s8⟩
            have hi2' : i2 < N := by
              have := (List.getElem?_eq_some_iff.mp hi2).1
              rwa [List.length_map, List.length_range] at this
            obtain rfl : x = V.ref (cm i2) := by
              rw [List.getElem?_map, List.getElem?_range hi2'] at hi2
              exact (Option.some.inj hi2).symm
            have L8 := hL.same s8
            obtain ⟨ks, hk, hkd⟩ := L8.hK i2 hi2'
            obtain ⟨hx, hh, hhd⟩ := L8.hH
            have kl := hkd.length
            have tkl := hR.tk hi2' true
            have ecd := hR.cdk i2 hi2'
            rw [ecd] at hkd
            rw [ecd, List.length_take] at kl
            have kl' : ks.length = (e i2 true).tk := by omega
            have ok1 := ((rows_sh (ds := D.take (e i2 true).tk) (fun d m => hR.row d (List.mem_of_mem_take m)) (by rw [List.length_take]; omega)).mono (by decide : 300000 ≤ 1300000) (Nat.le_refl 4)).okL (by decide)
            refine ⟨rfl, _, rfl, _, _, rfl, .lst (SqL.of hk) hkd.dp, ok1, ?_⟩
            refine ⟨_, rfl, _, rfl, cm i2, _, rfl, .inl (SqL.of hk), _, rfl, Hd, hx, rfl, SqL.of hh, fun l' hl' => ?_⟩
            rw [cutV_to, kl']
            have s9 := same_new (Same.refl H8) hl' (o := .lst (hx.take (e i2 true).tk))
            refine ⟨_, _, rfl, .lst (SqL.of upd_same) ((hhd.take (e i2 true).tk).mono (sameTups s9)).dp, ok1, rfl, _, rfl, iteNS rfl ?_⟩
            exact ⟨s9 _ _ z1, s8.trans s9⟩
          · rintro H8 ⟨z1, s8⟩
            refine ⟨_, rfl, Nat.zero_le _, fun q hq => ?_⟩
            have s9 := same_new (Same.refl H8) hq (o := .lst [])
            refine ⟨_, _, .lst (SqL.of (s9 _ _ z1)) .nil, .lst (SqL.of upd_same) .nil, by decide +kernel, by decide +kernel, _, rfl, iteF ?_⟩
            have s79 := s8.trans s9
            exact ⟨Pl, Cl, Hd, Nt, ρ, N, A, cm, e, cd, D, nd', _, _, _, _, _, _, _, _, _, _, _, rfl, N2, N5, (hB.same s79).more (by omega), hL.same s79, hR, hN, hnl, hDl, trivial⟩
      · rintro σ' H' ⟨Pl, Cl, Hd, Nt, ρ, N, A, cm, e, cd, D, nd', v2, v3, v8, v9, va, vb, vc, vd, ve, vf, vg, rfl, N2, N5, hB, hL, hR, hN, hnl, hDl, _⟩
        exact ⟨Pl, Cl, Hd, Nt, ρ, N, A, cm, e, cd, D, nd', _, _, _, _, _, _, _, _, _, _, _, rfl, N2, N5, hB.more (by omega), hL, hR, hN, by omega, by omega, trivial⟩
    clear hB hL hR hN hnl hDl
    rintro σ3 H3 ⟨Pl, Cl, Hd, Nt, ρ, N, A, cm, e, cd, D, nd', v2, v3, v8, v9, va, vb, vc, vd, ve, vf, vg, rfl, N2, N5, hB, hL, hR, hN, hnl, hDl, _⟩
    have lenN : ((List.range N).map fun k => V.ref (A k)).length = N := by rw [List.length_map, List.length_range]
    refine ⟨fun σ' H' => ∃ (ρ : Addr → Nat) (e : E9) (cd : Nat → List PyData) (v3 va : Option V), σ' = [some (.ref a), some (.ref p), v2, v3, some (.ref Pl), some (.ref Hd), some (.ref Cl), some (.ref Nt), v8, v9, va, vb, vc, vd, ve, vf, vg] ∧ B9 W H' ρ p c ns (10000 * i + 4000) N A e ∧ L9 H' ρ Pl Cl Hd Nt N A cm cd D nd' ∧ Rel9 N e cd D ∧ Full9 N e, ?_, ?_⟩
    · -- the last letters
      refine ⟨_, rfl, Pl, _, rfl, .inl (SqL.of hL.lP), _, rfl, by rw [lenN]; omega, by rw [lenN]; omega, ?_⟩
      rw [lenN]
      refine for_range (lo := 0) (n := N) (fun k σ' H' => ∃ (ρ : Addr → Nat) (e : E9) (cd : Nat → List PyData) (v3 va : Option V), σ' = [some (.ref a), some (.ref p), v2, v3, some (.ref Pl), some (.ref Hd), some (.ref Cl), some (.ref Nt), v8, v9, va, vb, vc, vd, ve, vf, vg] ∧ B9 W H' ρ p c ns (10000 * i + 4000) N A e ∧ L9 H' ρ Pl Cl Hd Nt N A cm cd D nd' ∧ Rel9 N e cd D ∧ Full9 k e) ?_ ?_ fun _ _ z => z
      · exact ⟨ρ, e, cd, _, _, rfl, hB, hL, hR, fun j hj => absurd hj (by omega)⟩
      · clear hB hL hR hN
        rintro k σ' H4 hk ⟨ρ, e, cd, v3, va, rfl, hB, hL, hR, hF⟩
        rw [show (0 : Int) + ((k : Nat) : Int) = ((k : Nat) : Int) from Int.zero_add _]
        refine ⟨(by show 4 ≤ sizeLine; decide), fun tp htp => ?_⟩
        have s0 := same_new (Same.refl H4) htp (o := .tup [.int 1, .int 0, .int 1, .int 0])
        have a0 := upd_same (H := H4) (a := tp) (o := .tup [.int 1, .int 0, .int 1, .int 0])
        generalize upd H4 tp (.tup [.int 1, .int 0, .int 1, .int 0]) = H5 at s0 a0 ⊢
        refine ⟨tp, rfl, ⟨_, SqT.of a0⟩, for_tup (K := K) (a := tp) (xs := [.int 1, .int 0, .int 1, .int 0]) (fun m σ' H' => ∃ (ρ : Addr → Nat) (e : E9) (cd : Nat → List PyData) (va : Option V), σ' = [some (.ref a), some (.ref p), v2, some (.int (k : Nat)), some (.ref Pl), some (.ref Hd), some (.ref Cl), some (.ref Nt), v8, v9, va, vb, vc, vd, ve, vf, vg] ∧ B9 W H' ρ p c ns (10000 * i + 4000) N A e ∧ L9 H' ρ Pl Cl Hd Nt N A cm cd D nd' ∧ Rel9 N e cd D ∧ Full9 k e ∧
            (1 ≤ m → (e k true).tk = (e k false).rows.length) ∧ (2 ≤ m → (e k false).kn = (e k false).rows.length) ∧ Tups H5 H') ?_ ?_ ?_ ?_⟩
        · exact ⟨ρ, e, cd, _, rfl, hB.same s0, hL.same s0, hR, hF, fun z => absurd z (by omega), fun z => absurd z (by omega), Tups.refl _⟩
        · rintro m σ' H' _ ⟨ρ, e, cd, va, rfl, z1, z2, z3, z4, z5, z6, z7⟩
          exact SqT.of (z7 _ _ a0)
        · clear hB hL hR hF s0
          rintro m v σ' H6 hm ⟨ρ, e, cd, va, rfl, hB, hL, hR, hF, q1, q2, q3⟩
          obtain ⟨s, rfl, hms⟩ : ∃ s : Bool, v = .int ((s.toNat : Nat) : Int) ∧ ((s = true ∧ (m = 0 ∨ m = 2)) ∨ (s = false ∧ (m = 1 ∨ m = 3))) := by
            match m, hm with
            | 0, hm => cases hm; exact ⟨true, rfl, .inl ⟨rfl, .inl rfl⟩⟩
            | 1, hm => cases hm; exact ⟨false, rfl, .inr ⟨rfl, .inl rfl⟩⟩
            | 2, hm => cases hm; exact ⟨true, rfl, .inl ⟨rfl, .inr rfl⟩⟩
            | 3, hm => cases hm; exact ⟨false, rfl, .inr ⟨rfl, .inr rfl⟩⟩
          have hW := hB.hW k hk !s
          obtain ⟨dx, fs, hins, hno⟩ := W.ins hW
          have rl := (hR.rows hk !s).1
          have kno := hR.kn hk !s
          have e1s : (1 : Int) - ((s.toNat : Nat) : Int) = (((!s).toNat : Nat) : Int) := by cases s <;> rfl
          refine ⟨_, rfl, _, rfl, _, rfl, _, rfl, _, rfl, _, rfl, Pl, _, _, _, rfl, rfl, SqL.of hL.lP, atR hk, _, rfl, _, _, rfl, rfl, A k, _, _, _, rfl, rfl, SqL.of (hB.hA k hk), (by rw [e1s]; exact atS !s), (e k !s).w, dx, fs, rfl, hins, hno _ (by simp), (e k !s).w, (e k !s).fp, _, _, _, rfl, hW, by omega, fun t H7 ht hd s7 => ?_⟩
          rw [show (e k !s).rows.length - ((e k !s).rows.drop (e k !s).kn).length = (e k !s).kn by rw [List.length_drop]; omega] at hd
          refine ⟨Pl, Cl, Hd, Nt, ρ, p, c, ns, _, N, A, cm, e, cd, D, nd', k, s, t, _, _, _, rfl, hk, hDl, hB.same s7, hL.same s7, hR, hd, good7_now _, fun ρ' e' cd' H' z1 z2 z3 z4 z5 => ⟨true, rfl, iteF ?_⟩⟩
          refine ⟨ρ', e', cd', _, rfl, z1, z2, z3, fun j hj => ?_, fun hm1 => ?_, fun hm2 => ?_, (q3.trans (sameTups s7)).trans z5⟩
          · obtain ⟨_, _, o1⟩ := z4.ot j true (fun z => by omega) (fun z => Bool.noConfusion z.2.2)
            obtain ⟨o2, o3, _⟩ := z4.ot j false (fun z => by omega) (fun z => by omega)
            rw [o1, o2, o3]
            exact hF j hj
          · rcases hms with ⟨rfl, hm⟩ | ⟨rfl, hm⟩
            · obtain ⟨_, _, o1⟩ := z4.me
              obtain ⟨o2, _, _⟩ := z4.ot k false (fun z => Bool.noConfusion z.2) (fun z => by omega)
              rw [o1, o2]
              show (e k true).tk + (((e k false).rows.drop (e k false).kn).drop ((e k true).tk - (e k false).kn)).length = (e k false).rows.length
              have y1 := hR.kx k hk false
              have y2 := hR.tx k hk true
              have y1' : (e k false).kn ≤ (e k true).tk := y1
              have y2' : (e k true).tk ≤ (e k false).rows.length := y2
              rw [List.length_drop, List.length_drop]
              omega
            · obtain ⟨o2, _, _⟩ := z4.me
              obtain ⟨_, _, o1⟩ := z4.ot k true (fun z => Bool.noConfusion z.2) (fun z => Bool.noConfusion z.1)
              rw [o1, o2]
              exact q1 (by omega)
          · rcases hms with ⟨rfl, hm⟩ | ⟨rfl, hm⟩
            · obtain ⟨o2, o3, _⟩ := z4.ot k false (fun z => Bool.noConfusion z.2) (fun z => by omega)
              rw [o2, o3]
              exact q2 (by omega)
            · obtain ⟨o2, o3, _⟩ := z4.me
              rw [o2, o3]
              show max (e k false).kn (e k true).tk = (e k false).rows.length
              have y3 := hR.kn hk false
              rw [q1 (by omega)]
              omega
        · rintro σ' H' ⟨ρ, e, cd, va, rfl, z1, z2, z3, z4, z5, z6, z7⟩
          refine ⟨ρ, e, cd, _, _, rfl, z1, z2, z3, fun j hj => ?_⟩
          by_cases q : j = k
          · subst q
            exact ⟨z5 (by show 1 ≤ 4; decide), z6 (by show 2 ≤ 4; decide)⟩
          · exact z4 j (by omega)
    clear hB hL hR hN
    rintro σ4 H4 ⟨ρ, e, cd, v3, va, rfl, hB, hL, hR, hF⟩
    have hA := full_all hR hF
    have hD1 : D.length ≤ 1000 := by omega
    have okD := ((rows_sh (ds := D) (fun d m => hR.row d m) hD1).mono (by decide : 300000 ≤ 1300000) (Nat.le_refl 4)).okL (by decide)
    refine ⟨_, rfl, Cl, rfl, ⟨_, SqL.of hL.lC⟩, fun Dw hDw => ?_⟩
    refine lc_list (K := K) (a := Cl) (xs := (List.range N).map fun k => V.ref (cm k)) (fun _ H' => H' Dw = some (.lst []) ∧ Same H4 H') ?_ ?_ ?_ ?_
    · exact ⟨upd_same, same_new (Same.refl _) hDw⟩
    · rintro i2 H' _ ⟨_, s⟩
      exact SqL.of (s _ _ hL.lC)
    · rintro i2 x H8 hi2 ⟨z1, s8⟩
      have hi2' : i2 < N := by
        have := (List.getElem?_eq_some_iff.mp hi2).1
        rwa [List.length_map, List.length_range] at this
      obtain rfl : x = V.ref (cm i2) := by
        rw [List.getElem?_map, List.getElem?_range hi2'] at hi2
        exact (Option.some.inj hi2).symm
      have L8 := hL.same s8
      obtain ⟨ks, hk, hkd⟩ := L8.hK i2 hi2'
      obtain ⟨hx, hh, hhd⟩ := L8.hH
      have ecd := hR.cdk i2 hi2'
      rw [(hA i2 hi2').2.1, List.take_length] at ecd
      rw [ecd] at hkd
      refine ⟨rfl, _, rfl, _, _, rfl, .lst (SqL.of hk) hkd.dp, okD, ?_⟩
      refine ⟨_, rfl, _, _, rfl, .lst (SqL.of hh) hhd.dp, okD, rfl, _, rfl, iteNS rfl ?_⟩
      exact ⟨z1, s8⟩
    rintro H5 ⟨z1, s5⟩
    refine ⟨Nat.zero_le _, fun q hq => ?_⟩
    have s6 := same_new (Same.refl H5) hq (o := .lst [])
    refine ⟨_, _, .lst (SqL.of (s6 _ _ z1)) .nil, .lst (SqL.of upd_same) .nil, by decide +kernel, by decide +kernel, _, rfl, iteF ?_⟩
    have hB6 := hB.same (s5.trans s6)
    have hL6 := hL.same (s5.trans s6)
    clear hB hL z1 s5
    generalize upd H5 q (.lst []) = H6 at hB6 hL6 s6 ⊢
    clear s6
    refine ⟨_, rfl, Pl, rfl, ⟨_, SqL.of hL6.lP⟩, fun Dw hDw => ?_⟩
    refine lc_list (K := K) (a := Pl) (xs := (List.range N).map fun k => V.ref (A k)) (fun _ H' => H' Dw = some (.lst []) ∧ Same H6 H') ?_ ?_ ?_ ?_
    · exact ⟨upd_same, same_new (Same.refl _) hDw⟩
    · rintro i2 H' _ ⟨_, s⟩
      exact SqL.of (s _ _ hL6.lP)
    · rintro i2 x H8 hi2 ⟨z1, s8⟩
      have hi2' : i2 < N := by
        have := (List.getElem?_eq_some_iff.mp hi2).1
        rwa [List.length_map, List.length_range] at this
      obtain rfl : x = V.ref (A i2) := by
        rw [List.getElem?_map, List.getElem?_range hi2'] at hi2
        exact (Option.some.inj hi2).symm
      have B8 := hB6.same s8
      have hW0 := B8.hW i2 hi2' false
      obtain ⟨dx0, fs0, ins0, _⟩ := W.ins hW0
      obtain ⟨y1, y2, y3⟩ := hA i2 hi2'
      have z0 : ((e i2 false).rows.drop (e i2 false).kn) = [] := by rw [y1, y3]; exact List.drop_length
      refine ⟨rfl, _, rfl, A i2, _, _, _, rfl, rfl, SqL.of (B8.hA i2 hi2'), atI_int (by decide) rfl, (e i2 false).w, dx0, fs0, rfl, ins0, (e i2 false).w, _, _, _, _, rfl, hW0, (by rw [y1]; exact hD1), fun H9 s9 => ⟨_, rfl, Int.natCast_nonneg _, ?_, ?_⟩⟩
      · rw [z0]
        show (0 : Int) < 2 ^ 63
        decide
      have B9' := B8.same s9
      have hW1 := B9'.hW i2 hi2' true
      obtain ⟨dx1, fs1, ins1, _⟩ := W.ins hW1
      have z2 : ((e i2 true).rows.drop (e i2 true).kn) = [] := by rw [hR.r1 i2 hi2']; exact List.drop_nil
      refine ⟨_, rfl, A i2, _, _, _, rfl, rfl, SqL.of (B9'.hA i2 hi2'), atI_int (by decide) rfl, (e i2 true).w, dx1, fs1, rfl, ins1, (e i2 true).w, _, _, _, _, rfl, hW1, (by rw [hR.r1 i2 hi2']; show 0 ≤ 1000; decide), fun H10 s10 => ⟨_, rfl, Int.natCast_nonneg _, ?_, ?_⟩⟩
      · rw [z2]
        show (0 : Int) < 2 ^ 63
        decide
      rw [z0, z2]
      refine ⟨_, _, rfl, rfl, rfl, _, rfl, iteNS rfl ?_⟩
      exact ⟨s10 _ _ (s9 _ _ z1), (s8.trans s9).trans s10⟩
    rintro H7 ⟨z1, s7⟩
    refine ⟨Nat.zero_le _, fun q hq => ?_⟩
    have s6 := same_new (Same.refl H7) hq (o := .lst [])
    refine ⟨_, _, .lst (SqL.of (s6 _ _ z1)) .nil, .lst (SqL.of upd_same) .nil, by decide +kernel, by decide +kernel, _, rfl, iteF ?_⟩
    have hB7 := hB6.same (s7.trans s6)
    have hL7 := hL6.same (s7.trans s6)
    clear hB6 hL6 z1 s7
    generalize upd H7 q (.lst []) = H8 at hB7 hL7 s6 ⊢
    clear s6
    refine ⟨_, rfl, Pl, rfl, ⟨_, SqL.of hL7.lP⟩, fun Dw hDw => ?_⟩
    refine lc_list (K := K) (a := Pl) (xs := (List.range N).map fun k => V.ref (A k)) (fun _ H' => H' Dw = some (.lst []) ∧ Same H8 H') ?_ ?_ ?_ ?_
    · exact ⟨upd_same, same_new (Same.refl _) hDw⟩
    · rintro i2 H' _ ⟨_, s⟩
      exact SqL.of (s _ _ hL7.lP)
    · rintro i2 x H9 hi2 ⟨z1, s9⟩
      have hi2' : i2 < N := by
        have := (List.getElem?_eq_some_iff.mp hi2).1
        rwa [List.length_map, List.length_range] at this
      obtain rfl : x = V.ref (A i2) := by
        rw [List.getElem?_map, List.getElem?_range hi2'] at hi2
        exact (Option.some.inj hi2).symm
      have B9' := hB7.same s9
      have hW1 := B9'.hW i2 hi2' true
      obtain ⟨dx1, fs1, ins1, no1⟩ := W.ins hW1
      obtain ⟨y1, y2, y3⟩ := hA i2 hi2'
      refine ⟨rfl, _, rfl, A i2, _, _, _, rfl, rfl, SqL.of (B9'.hA i2 hi2'), atI_int (by decide) rfl, (e i2 true).w, dx1, fs1, rfl, ins1, no1 _ (by simp), (e i2 true).w, _, _, _, _, rfl, hW1, fun H10 s10 => ?_⟩
      obtain ⟨hx, hh, hhd⟩ := (hL7.same (s9.trans s10)).hH
      have el := hhd.length
      refine ⟨_, rfl, Hd, hx, rfl, .inl (SqL.of hh), ?_⟩
      rw [y2, el]
      refine ⟨rfl, _, rfl, iteNS (by simp) ?_⟩
      exact ⟨s10 _ _ z1, s9.trans s10⟩
    rintro H9 ⟨z1, s9⟩
    refine ⟨Nat.zero_le _, fun q hq => ?_⟩
    have s6 := same_new (Same.refl H9) hq (o := .lst [])
    refine ⟨_, _, .lst (SqL.of (s6 _ _ z1)) .nil, .lst (SqL.of upd_same) .nil, by decide +kernel, by decide +kernel, _, rfl, iteF ?_⟩
    have hB10 := hB7.same (s9.trans s6)
    exact ⟨⟨_, _, _, _, _, _, _, _, _, _, _, _, _, _, _, rfl⟩, hB10.pen.mono (by omega)⟩
end
end K3namespace K3
open PySem L2 GG
/-! ### farcalls.worths: copied; farcalls.wires: is_number, is_fixed -/
abbrev sNumber : Stmt := top 7
abbrev sFixed : Stmt := top 8
abbrev sCopied : Stmt := top 3
theorem scNu : FnScope ["thing"] ["thing"] (defScope sNumber) := ⟨rfl, rfl, rfl, by decide +kernel, rfl, by decide +kernel, by decide +kernel⟩
theorem scFi : FnScope ["thing", "part"] ["thing"] (defScope sFixed) := ⟨rfl, rfl, rfl, by decide +kernel, rfl, by decide +kernel, by decide +kernel⟩
theorem scCo : FnScope ["thing", "rows", "key", "part", "parts"] ["thing"] (defScope sCopied) := ⟨rfl, rfl, rfl, by decide +kernel, rfl, by decide +kernel, by decide +kernel⟩
def spNumber : Sp := fun vs H Q _ => ∃ i : Int, vs = [.int i] ∧ 0 ≤ i ∧ Q (.bl true) H
/-- the data of a copy are those of what is copied -/
def Few : Nat → PyData → Prop
  | 0, _ => True
  | n + 1, d => ∀ ds, d = .tuple ds → ds.length ≤ 1000 ∧ ∀ e ∈ ds, Few n e
theorem depthAll_mem : ∀ {ds : List PyData} {d : PyData}, d ∈ ds → d.depth ≤ PyData.depthAll ds
  | a :: r, d, h => by
    simp only [PyData.depthAll]
    rcases List.mem_cons.mp h with rfl | h
    · omega
    · have := depthAll_mem h
      omega
def spCopied (n : Nat) : Sp := fun vs H Q _ => ∃ (v : V) (d : PyData), vs = [v] ∧ Dt H v d ∧ d.depth ≤ n ∧ Few n d ∧ ∀ (v' : V) (H' : Hp), Dt H' v' d → Same H H' → Q v' H'
theorem Dt.type {K : PySem.W.Frag} {H : Hp} {v : V} {d : PyData} (h : Dt H v d) : ∃ T : String, TyX K H v (.type T) ∧ ((T = "tuple" ∧ ∃ ds, d = .tuple ds) ∨ (T ∈ ["NoneType", "int", "str"] ∧ ∀ ds, d ≠ .tuple ds)) := by
  cases h with
  | non => exact ⟨"NoneType", .base .non, .inr ⟨by simp, fun _ z => nomatch z⟩⟩
  | int i => exact ⟨"int", .base (.int i), .inr ⟨by simp, fun _ z => nomatch z⟩⟩
  | str z => exact ⟨"str", .base (.str z), .inr ⟨by simp, fun _ z => nomatch z⟩⟩
  | tup e a => exact ⟨"tuple", .base (.tup e), .inl ⟨rfl, _, rfl⟩⟩
section
variable {P : Program} {w : World} {K : PySem.W.Frag} {mg : Str → Option Value} {base : Heap}
theorem ok_number {f : Addr} {fd : FuncData} (F : Fun K "is_number" "is_number" sNumber f fd) (T : Txt mg) (zb : mg "bool" = none) : FnOk P w K mg base CX0 1 f fd ["thing"] spNumber := by
  refine F.ok scNu (fun vs H Q E h => ?_) (fun cdv A outer s H vs Q E hr h => ?_)
  · obtain ⟨i, rfl, _⟩ := h
    rfl
  · obtain ⟨i, rfl, h1, k⟩ := h
    refine ⟨_, pss_one (ps_ret (pe_and (pe_callB call_isi (by rfl) T.isinstance (by decide +kernel) (pa_cons (pv 0) (pa_cons (pe_bltn (v := V.ty "int") (by rfl) T.int (by decide +kernel) rfl) pa_nil)))
      (pe_and (pe_not (pe_callB call_isi (by rfl) T.isinstance (by decide +kernel) (pa_cons (pv 0) (pa_cons (pe_bltn (v := V.ty "bool") (by rfl) zb (by decide +kernel) rfl) pa_nil))))
      (pe_one (pe_cmpR op_ge (pv 0) pe_int (nomark _)))))), ?_⟩
    refine ⟨_, rfl, .int i, .ty "int", .type "int", .type "int", true, rfl, .ty _, .base (.int i), kit_ty (by decide +kernel), true, rfl, iteT ?_⟩
    refine ⟨_, rfl, .int i, .ty "bool", .type "int", .type "bool", false, rfl, .ty _, .base (.int i), kit_ty (by decide +kernel), false, rfl, true, rfl, iteT ?_⟩
    refine ⟨_, rfl, _, _, rfl, rfl, ?_⟩
    show Q (V.bl (decide (i ≥ 0))) H
    rw [decide_eq_true h1]
    exact k
def spBelow : Nat → Sp
  | 0 => fun _ _ _ _ => False
  | n + 1 => spCopied n
theorem kit_any {t a b : Value} {x y : Bool} (h1 : PySem.W.kitOne K t a = some x) (h2 : PySem.W.kitOne K t b = some y) : PySem.W.kitAny K t [a, b] = some (x || y) := by
  cases x <;> cases y <;> simp [PySem.W.kitAny, h1, h2]
theorem ok_copied {f : Addr} {fd : FuncData} (F : Fun K "copied" "copied" sCopied f fd) (T : Txt mg) (m : mg "copied" = some (.ref f)) (b : Binds K fd ["thing"] []) : ∀ n : Nat, FnOk P w K mg base CX0 (n + 1) f fd ["thing"] (spCopied n) := by
  have main : ∀ n : Nat, FnOk P w K mg base CX0 n f fd ["thing"] (spBelow n) → FnOk P w K mg base CX0 (n + 1) f fd ["thing"] (spCopied n) := by
    intro n G
    refine F.ok scCo (fun vs H Q E h => ?_) (fun cdv A outer s H vs Q E hr h => ?_)
    · obtain ⟨v, d, rfl, _⟩ := h
      rfl
    · obtain ⟨v, d, rfl, hd, hn, hfew, k⟩ := h
      refine ⟨_, pss_cons (ps_if (pt_val (pe_callB call_isi (by rfl) T.isinstance (by decide +kernel) (pa_cons (pv 0) (pa_cons (pe_bltn (v := V.ty "dict") (by rfl) T.dict (by decide +kernel) rfl) pa_nil)))) (pss_cons ps_never (pss_cons ps_never (pss_one ps_never))) pss_nil)
        (pss_cons (ps_if (pt_not (pt_val (pe_callB call_isiT (by rfl) T.isinstance (by decide +kernel) (pa_cons (pv 0) (pa_cons (pe_tup (pa_cons (pe_bltn (v := V.ty "list") (by rfl) T.list (by decide +kernel) rfl) (pa_cons (pe_bltn (v := V.ty "tuple") (by rfl) T.tuple (by decide +kernel) rfl) pa_nil))) pa_nil))))) (pss_one (ps_ret (pv 0))) pss_nil)
        (pss_cons (ps_set (i := 4) scCo.nd rfl (.inl rfl) (pe_lst pa_nil))
        (pss_cons (ps_for PassesOwn.never rfl (pi_tup (pv 0)) (pg_name (i := 3) scCo.nd rfl (Or.inl rfl))
          (pss_one (ps_expr (pe_bm PySem.F.plainAttrs_list PySem.F.slot_list_append PySem.F.type_list_append mt_append (pv 4) (pa_cons (pe_call G hr (by rfl) m F.kp b .nil pass0 (pa_cons (pv 3) pa_nil)) pa_nil)))))
        (pss_one (ps_ret (pe_ifExp (pt_val (pe_callB call_isi (by rfl) T.isinstance (by decide +kernel) (pa_cons (pv 0) (pa_cons (pe_bltn (v := V.ty "list") (by rfl) T.list (by decide +kernel) rfl) pa_nil)))) (pv 4)
          (pe_callTy call_tuple_of (by rfl) T.tuple (by decide +kernel) (pa_cons (pv 4) pa_nil)))))))), ?_⟩
      obtain ⟨Ty, hT, hTy⟩ := hd.type (K := K)
      have nodict : PySem.W.kitOne K (.type Ty) (.type "dict") = some false := by
        rcases hTy with ⟨rfl, _⟩ | ⟨h, _⟩
        · exact kit_ty (by decide +kernel)
        · simp only [List.mem_cons, List.not_mem_nil, or_false] at h
          rcases h with rfl | rfl | rfl <;> exact kit_ty (by decide +kernel)
      refine ⟨_, rfl, v, .ty "dict", .type Ty, .type "dict", false, rfl, .ty _, hT, nodict, false, rfl, iteF ?_⟩
      refine ⟨_, rfl, (by show 2 ≤ sizeLine; decide), fun tp htp => ?_⟩
      have s1 : Same H (upd H tp (.tup [.ty "list", .ty "tuple"])) := same_new (Same.refl _) htp
      have a1 : upd H tp (.tup [.ty "list", .ty "tuple"]) tp = some (.tup [.ty "list", .ty "tuple"]) := upd_same
      generalize upd H tp (.tup [.ty "list", .ty "tuple"]) = H1 at s1 a1 ⊢
      have hd1 := hd.mono (sameTups s1)
      obtain ⟨Ty, hT, hTy⟩ := hd1.type (K := K)
      rcases hTy with ⟨rfl, ds, rfl⟩ | ⟨h, hno⟩
      · refine ⟨v, tp, _, .type "tuple", [.type "list", .type "tuple"], true, rfl, a1, .cons (.ty _) (.cons (.ty _) .nil), hT, kit_any (x := false) (y := true) (kit_ty (by decide +kernel)) (kit_ty (by decide +kernel)), true, rfl, iteF ?_⟩
        obtain ⟨a, rfl⟩ := hd1.ref_of
        obtain ⟨xs, hX, hXD⟩ := hd1.tupI
        obtain ⟨m', rfl⟩ : ∃ m', n = m' + 1 := by
          cases n with
          | zero => simp [PyData.depth] at hn
          | succ m' => exact ⟨m', rfl⟩
        obtain ⟨hlen, hfe⟩ := hfew ds rfl
        have hdep : PyData.depthAll ds ≤ m' := by
          simp only [PyData.depth] at hn
          omega
        refine ⟨Nat.zero_le _, fun l hl => ?_⟩
        refine ⟨_, rfl, a, rfl, ⟨xs, SqT.of (by rw [upd_ne (ne_of_none hX hl)]; exact hX)⟩, for_tup (K := K) (a := a) (xs := xs) (fun i σ' H' => ∃ (pw : Option V) (ys : List V), σ' = [some (.ref a), none, none, pw, some (.ref l)] ∧ H' l = some (.lst ys) ∧ DtAll H' ys (ds.take i) ∧ Same H1 H') ?_ ?_ ?_ ?_⟩
        · exact ⟨none, [], rfl, upd_same, .nil, same_new (Same.refl _) hl⟩
        · rintro i σ' H' _ ⟨pw, ys, rfl, hL, hy, s⟩
          exact SqT.of (s _ _ hX)
        · rintro i x σ' H' hi ⟨pw, ys, rfl, hL, hy, s⟩
          obtain ⟨d, hdi, hdx⟩ := hXD.get i x hi
          have hdm := List.mem_of_getElem? hdi
          have hil : i < ds.length := (List.getElem?_eq_some_iff.mp hdi).1
          refine ⟨_, rfl, .inl ⟨rfl, _, SqL.of hL⟩, _, rfl, x, d, rfl, hdx.mono (sameTups s), Nat.le_trans (depthAll_mem hdm) hdep, hfe d hdm, fun v' H2 hv s2 => ?_⟩
          refine ⟨l, _, _, rfl, rfl, s2 _ _ hL, small1000 (by rw [hy.length, List.length_take]; omega), ?_⟩
          have tt : Tups H2 (upd H2 l (.lst (ys ++ [v']))) := (Tups.refl _).mut (s2 _ _ hL) (by intro _ z; cases z)
          refine ⟨_, _, rfl, upd_same, ?_, same_mut (s.trans s2) hl⟩
          rw [List.take_add_one, hdi]
          exact ((hy.mono (sameTups s2)).app (.cons hv .nil)).mono tt
        · rintro σ' H' ⟨pw, ys, rfl, hL, hy, s⟩
          rw [hXD.length, List.take_length] at hy
          refine ⟨_, rfl, .ref a, .ty "list", .type "tuple", .type "list", false, rfl, .ty _, .base (.tup (s _ _ hX)), kit_ty (by decide +kernel), false, rfl, iteF ?_⟩
          refine ⟨_, rfl, l, _, rfl, .inl ⟨SqL.of hL, fun t ht => ?_⟩⟩
          exact k _ _ (.tup upd_same (hy.mono ((Tups.refl _).new ht))) (same_new (s1.trans s) ht)
      · have none2 : PySem.W.kitAny K (.type Ty) [.type "list", .type "tuple"] = some false := by
          simp only [List.mem_cons, List.not_mem_nil, or_false] at h
          rcases h with rfl | rfl | rfl <;> exact kit_any (x := false) (y := false) (kit_ty (by decide +kernel)) (kit_ty (by decide +kernel))
        refine ⟨v, tp, _, .type Ty, [.type "list", .type "tuple"], false, rfl, a1, .cons (.ty _) (.cons (.ty _) .nil), hT, none2, false, rfl, iteT ?_⟩
        exact ⟨_, rfl, k v H1 hd1 s1⟩
  intro n
  induction n with
  | zero => exact main 0 ⟨fun vs H Q E h => h.elim, fun A outer s H args us vs Q E _ _ _ _ h => h.elim⟩
  | succ n ih => exact main (n + 1) ih
def spFixed (n : Nat) : Sp := fun vs H Q _ => ∃ (v : V) (d : PyData), vs = [v] ∧ Dt H v d ∧ d.depth ≤ n ∧ Few n d ∧ ∀ (H' : Hp), Same H H' → Q (.bl true) H'
def spFixBelow : Nat → Sp
  | 0 => fun _ _ _ _ => False
  | n + 1 => spFixed n
theorem ok_fixed {f : Addr} {fd : FuncData} (F : Fun K "is_fixed" "is_fixed" sFixed f fd) (T : Txt mg) (za : mg "all" = none) (m : mg "is_fixed" = some (.ref f)) (b : Binds K fd ["thing"] []) : ∀ n : Nat, FnOk P w K mg base CX0 (n + 1) f fd ["thing"] (spFixed n) := by
  have main : ∀ n : Nat, FnOk P w K mg base CX0 n f fd ["thing"] (spFixBelow n) → FnOk P w K mg base CX0 (n + 1) f fd ["thing"] (spFixed n) := by
    intro n G
    refine F.ok scFi (fun vs H Q E h => ?_) (fun cdv A outer s H vs Q E hr h => ?_)
    · obtain ⟨v, d, rfl, _⟩ := h
      rfl
    · obtain ⟨v, d, rfl, hd, hn, hfew, k⟩ := h
      refine ⟨_, pss_cons (ps_if (pt_val (pe_callB call_isi (by rfl) T.isinstance (by decide +kernel) (pa_cons (pv 0) (pa_cons (pe_bltn (v := V.ty "tuple") (by rfl) T.tuple (by decide +kernel) rfl) pa_nil))))
          (pss_one (ps_ret (pe_callB (cr_all rfl) (by rfl) za (by decide +kernel) (pa_cons (pe_lc (own := [("part", 1)]) (g := gName 1) (tt := tYes) rfl scFi.nd (pi_tup (pv 0))
            (blkOk_by (N := ["thing", "part"]) (sc := defScope sFixed) (by decide +kernel)) (fun _ _ _ _ _ => pg_name (i := 1) scFi.nd rfl (Or.inl rfl)) (fun _ _ _ _ _ => pts_nil)
            (fun _ _ _ _ _ => pe_call G hr (by rfl) m F.kp b .nil pass0 (pa_cons (pv 1) pa_nil))) pa_nil)))) pss_nil)
        (pss_one (ps_ret (pe_not (pe_callB call_isiT (by rfl) T.isinstance (by decide +kernel) (pa_cons (pv 0) (pa_cons (pe_tup (pa_cons (pe_bltn (v := V.ty "list") (by rfl) T.list (by decide +kernel) rfl) (pa_cons (pe_bltn (v := V.ty "dict") (by rfl) T.dict (by decide +kernel) rfl) pa_nil))) pa_nil)))))), ?_⟩
      obtain ⟨Ty, hT, hTy⟩ := hd.type (K := K)
      rcases hTy with ⟨rfl, ds, rfl⟩ | ⟨h, hno⟩
      · refine ⟨_, rfl, v, .ty "tuple", .type "tuple", .type "tuple", true, rfl, .ty _, hT, kit_ty (by decide +kernel), true, rfl, iteT ?_⟩
        obtain ⟨a, rfl⟩ := hd.ref_of
        obtain ⟨xs, hX, hXD⟩ := hd.tupI
        obtain ⟨m', rfl⟩ : ∃ m', n = m' + 1 := by
          cases n with
          | zero => simp [PyData.depth] at hn
          | succ m' => exact ⟨m', rfl⟩
        obtain ⟨hlen, hfe⟩ := hfew ds rfl
        have hdep : PyData.depthAll ds ≤ m' := by
          simp only [PyData.depth] at hn
          omega
        refine ⟨_, rfl, a, rfl, ⟨xs, SqT.of hX⟩, fun D hD => ?_⟩
        refine lc_tup (K := K) (a := a) (xs := xs) (fun i H' => ∃ n : Nat, n = i ∧ H' D = some (.lst ((List.replicate n true).map V.bl)) ∧ Same H H') ?_ ?_ ?_ ?_
        · exact ⟨0, rfl, upd_same, same_new (Same.refl _) hD⟩
        · rintro i H' _ ⟨n, rfl, hDl, s⟩
          exact SqT.of (s _ _ hX)
        · rintro i x H' hi ⟨n, rfl, hDl, s⟩
          obtain ⟨d, hdi, hdx⟩ := hXD.get n x hi
          have hdm := List.mem_of_getElem? hdi
          have hil : n < ds.length := (List.getElem?_eq_some_iff.mp hdi).1
          refine ⟨rfl, _, rfl, x, d, rfl, hdx.mono (sameTups s), Nat.le_trans (depthAll_mem hdm) hdep, hfe d hdm, fun H2 s2 => ⟨_, s2 _ _ hDl, ?_, n + 1, rfl, ?_, same_mut (s.trans s2) hD⟩⟩
          · rw [List.length_map, List.length_replicate]
            exact small1000 (by omega)
          · rw [upd_same, List.replicate_succ', List.map_append]
            rfl
        · rintro H' ⟨n, rfl, hDl, s⟩
          refine ⟨D, _, rfl, SqL.of hDl, ?_⟩
          have e : (List.replicate xs.length true).all id = true := by simp
          rw [e]
          exact k H' s
      · have notup : PySem.W.kitOne K (.type Ty) (.type "tuple") = some false := by
          simp only [List.mem_cons, List.not_mem_nil, or_false] at h
          rcases h with rfl | rfl | rfl <;> exact kit_ty (by decide +kernel)
        have none2 : PySem.W.kitAny K (.type Ty) [.type "list", .type "dict"] = some false := by
          simp only [List.mem_cons, List.not_mem_nil, or_false] at h
          rcases h with rfl | rfl | rfl <;> exact kit_any (x := false) (y := false) (kit_ty (by decide +kernel)) (kit_ty (by decide +kernel))
        refine ⟨_, rfl, v, .ty "tuple", .type Ty, .type "tuple", false, rfl, .ty _, hT, notup, false, rfl, iteF ?_⟩
        refine ⟨_, rfl, (by show 2 ≤ sizeLine; decide), fun tp htp => ?_⟩
        have s1 : Same H (upd H tp (.tup [.ty "list", .ty "dict"])) := same_new (Same.refl _) htp
        have a1 : upd H tp (.tup [.ty "list", .ty "dict"]) tp = some (.tup [.ty "list", .ty "dict"]) := upd_same
        generalize upd H tp (.tup [.ty "list", .ty "dict"]) = H1 at s1 a1 ⊢
        obtain ⟨Ty', hT', hTy'⟩ := (hd.mono (sameTups s1)).type (K := K)
        have none3 : PySem.W.kitAny K (.type Ty') [.type "list", .type "dict"] = some false := by
          rcases hTy' with ⟨rfl, ds, e⟩ | ⟨h', _⟩
          · exact absurd e (hno ds)
          · simp only [List.mem_cons, List.not_mem_nil, or_false] at h'
            rcases h' with rfl | rfl | rfl <;> exact kit_any (x := false) (y := false) (kit_ty (by decide +kernel)) (kit_ty (by decide +kernel))
        refine ⟨v, tp, _, .type Ty', [.type "list", .type "dict"], false, rfl, a1, .cons (.ty _) (.cons (.ty _) .nil), hT', none3, false, rfl, k H1 s1⟩
  intro n
  induction n with
  | zero => exact main 0 ⟨fun vs H Q E h => h.elim, fun A outer s H args us vs Q E _ _ _ _ h => h.elim⟩
  | succ n ih => exact main (n + 1) ih
end
end K3
namespace K3
open PySem L2 GG
/-! ### a wire of rows: its fields -/
abbrev sWInit : Stmt := inClass (top 6) 0
abbrev sWLen : Stmt := inClass (top 6) 1
abbrev sWEq : Stmt := inClass (top 6) 2
abbrev sWPut : Stmt := inClass (top 6) 3
abbrev sWLetter : Stmt := inClass (top 6) 4
abbrev sWTake : Stmt := inClass (top 6) 5
abbrev sWHeard : Stmt := inClass (top 6) 6
abbrev sWUnheard : Stmt := inClass (top 6) 7
abbrev sWCan : Stmt := inClass (top 6) 9
def wf (l : Addr) (k t : Int) : List (Str × V) := [("_rows", .ref l), ("_many", .int k), ("_taken", .int t)]
theorem wf_r (l : Addr) (k t : Int) : (wf l k t).lookup ("_rows" : Str) = some (.ref l) := rfl
theorem wf_k (l : Addr) (k t : Int) : (wf l k t).lookup ("_many" : Str) = some (.int k) := rfl
theorem wf_t (l : Addr) (k t : Int) : (wf l k t).lookup ("_taken" : Str) = some (.int t) := rfl
theorem wf_pr (l m : Addr) (k t : Int) : putF "_rows" (.ref m) (wf l k t) = wf m k t := rfl
theorem wf_pk (l : Addr) (k t j : Int) : putF "_many" (.int j) (wf l k t) = wf l j t := rfl
theorem wf_pt (l : Addr) (k t j : Int) : putF "_taken" (.int j) (wf l k t) = wf l k j := rfl
theorem wf_no (l : Addr) (k t : Int) : ∀ m ∈ ([("put" : Str), "letter", "take", "heard", "unheard", "_can_take"] : List Str), (wf l k t).lookup m = none := by
  intro m h
  simp only [List.mem_cons, List.not_mem_nil, or_false] at h
  rcases h with rfl | rfl | rfl | rfl | rfl | rfl <;> rfl
/-- the rows of a wire, each with the word that it never changes -/
inductive Ent (H : Hp) : List V → List PyData → Prop
  | nil : Ent H [] []
  | cons {p : Addr} {v : V} {vs : List V} {d : PyData} {ds : List PyData} : H p = some (.tup [v, .bl true]) → Dt H v d → Ent H vs ds → Ent H (.ref p :: vs) (d :: ds)
theorem Ent.mono {H H' : Hp} (t : Tups H H') : ∀ {vs : List V} {ds : List PyData}, Ent H vs ds → Ent H' vs ds
  | _, _, .nil => .nil
  | _, _, .cons h a r => .cons (t _ _ h) (a.mono t) (Ent.mono t r)
theorem Ent.length {H : Hp} : ∀ {vs : List V} {ds : List PyData}, Ent H vs ds → vs.length = ds.length
  | _, _, .nil => rfl
  | _, _, .cons _ _ r => by rw [List.length_cons, List.length_cons, Ent.length r]
theorem Ent.app {H : Hp} : ∀ {vs ws : List V} {ds es : List PyData}, Ent H vs ds → Ent H ws es → Ent H (vs ++ ws) (ds ++ es)
  | _, _, _, _, .nil, b => b
  | _, _, _, _, .cons h a r, b => .cons h a (Ent.app r b)
theorem Ent.drop {H : Hp} : ∀ (n : Nat) {vs : List V} {ds : List PyData}, Ent H vs ds → Ent H (vs.drop n) (ds.drop n)
  | 0, _, _, h => h
  | _ + 1, _, _, .nil => .nil
  | n + 1, _, _, .cons _ _ r => Ent.drop n r
theorem Ent.get {H : Hp} : ∀ {vs : List V} {ds : List PyData}, Ent H vs ds → ∀ (i : Nat) (x : V), vs[i]? = some x → ∃ p v d, x = .ref p ∧ ds[i]? = some d ∧ H p = some (.tup [v, .bl true]) ∧ Dt H v d
  | _, _, .nil, i, x, e => by simp at e
  | _, _, .cons h a r, 0, x, e => by
    cases e
    exact ⟨_, _, _, rfl, rfl, h, a⟩
  | _, _, .cons h a r, i + 1, x, e => Ent.get r i x e
def WAtS (C : Addr) (H : Hp) (fp : List Addr) (w : Addr) (rows : List PyData) (put tk : Nat) : Prop :=
  ∃ (dx l : Addr) (xs : List V), fp = [w, l] ∧ H w = some (.ins C dx (wf l put tk)) ∧ H l = some (.lst xs) ∧ Ent H xs rows ∧ (∀ d ∈ rows, RowD d) ∧ rows.length ≤ put
def wk (C : Addr) : WK where
  C := C
  At := WAtS C
  ins := by
    rintro H fp w rows put tk ⟨dx, l, xs, rfl, hw, hl, hx, hr, hp⟩
    exact ⟨dx, _, hw, fun m h => wf_no _ _ _ m (by
      simp only [List.mem_cons, List.not_mem_nil, or_false] at h ⊢
      rcases h with h | h | h | h | h <;> simp [h])⟩
  mem := by
    rintro H fp w rows put tk ⟨dx, l, xs, rfl, _⟩
    exact List.mem_cons_self ..
  there := by
    rintro H fp w rows put tk ⟨dx, l, xs, rfl, hw, hl, hx, hr, hp⟩ a m
    simp only [List.mem_cons, List.not_mem_nil, or_false] at m
    rcases m with rfl | rfl
    · exact ⟨_, hw, fun _ z => nomatch z⟩
    · exact ⟨_, hl, fun _ z => nomatch z⟩
  keep := by
    rintro H H' fp w rows put tk ⟨dx, l, xs, rfl, hw, hl, hx, hr, hp⟩ h t
    exact ⟨dx, l, xs, rfl, by rw [h w (by simp)]; exact hw, by rw [h l (by simp)]; exact hl, hx.mono t, hr, hp⟩
  le := by
    rintro H fp w rows put tk ⟨dx, l, xs, rfl, hw, hl, hx, hr, hp⟩
    exact hp
  rowD := by
    rintro H fp w rows put tk ⟨dx, l, xs, rfl, hw, hl, hx, hr, hp⟩
    exact hr
theorem few_plain {d : PyData} (h : PlainD d) : Few 3 d := by
  have two : ∀ a b : PyData, (∀ ds, a ≠ .tuple ds) → (∀ ds, b ≠ .tuple ds) → Few 3 (.tuple [a, b]) := by
    intro a b ha hb ds e
    cases e
    refine ⟨by simp, fun e he => ?_⟩
    simp only [List.mem_cons, List.not_mem_nil, or_false] at he
    rcases he with rfl | rfl
    · exact fun ds z => absurd z (ha ds)
    · exact fun ds z => absurd z (hb ds)
  rcases h with rfl | ⟨i, _, _, rfl⟩ | ⟨z, _, rfl⟩ | rfl | rfl | rfl
  · exact fun ds z => nomatch z
  · exact fun ds z => nomatch z
  · exact fun ds z => nomatch z
  · exact two _ _ (fun ds z => nomatch z) (fun ds z => nomatch z)
  · exact two _ _ (fun ds z => nomatch z) (fun ds z => nomatch z)
  · intro ds e
    cases e
    exact ⟨by simp, fun e he => absurd he (by simp)⟩
theorem few_row {d : PyData} (h : RowD d) : Few 4 d := by
  obtain ⟨ds, rfl, h4, hp⟩ := h
  intro ds' e
  cases e
  exact ⟨by omega, fun e he => few_plain (hp e he)⟩
structure WTxt (K : PySem.W.Frag) (mg : Str → Option Value) (C : Addr) : Prop where
  cl : Cls K C
  nR : NoAttr K C "_rows"
  nK : NoAttr K C "_many"
  nT : NoAttr K C "_taken"
section
variable {P : Program} {w : World} {K : PySem.W.Frag} {mg : Str → Option Value} {base : Heap} {C : Addr}
theorem scW1 : FnScope ["self"] ["self"] (defScope sWInit) := ⟨rfl, rfl, rfl, by decide +kernel, rfl, by decide +kernel, by decide +kernel⟩
theorem scW2 : FnScope ["self"] ["self"] (defScope sWLen) := ⟨rfl, rfl, rfl, by decide +kernel, rfl, by decide +kernel, by decide +kernel⟩
theorem scW3 : FnScope ["self", "row"] ["self", "row"] (defScope sWPut) := ⟨rfl, rfl, rfl, by decide +kernel, rfl, by decide +kernel, by decide +kernel⟩
theorem scW4 : FnScope ["self"] ["self"] (defScope sWLetter) := ⟨rfl, rfl, rfl, by decide +kernel, rfl, by decide +kernel, by decide +kernel⟩
theorem scW6 : FnScope ["self"] ["self"] (defScope sWHeard) := ⟨rfl, rfl, rfl, by decide +kernel, rfl, by decide +kernel, by decide +kernel⟩
theorem scW7 : FnScope ["self", "row", "fixed"] ["self"] (defScope sWUnheard) := ⟨rfl, rfl, rfl, by decide +kernel, rfl, by decide +kernel, by decide +kernel⟩
theorem ok_winit {f : Addr} {fd : FuncData} (F : Fun K "__init__" "Wire.__init__" sWInit f fd) (T : WTxt K mg C) : FnOk P w K mg base CX0 1 f fd ["self"] (spWInit (wk C)) := by
  refine F.ok scW1 (fun vs H Q E h => ?_) (fun cdv A outer s H vs Q E hr h => ?_)
  · obtain ⟨H0, w, dx, rfl, _⟩ := h
    rfl
  · obtain ⟨H0, w, dx, rfl, s0, w0, hw, k⟩ := h
    have hw' : H w = some (.ins C dx []) := hw
    refine ⟨_, pss_cons (ps_fld (pv 0) (pe_lst pa_nil) rfl) (pss_cons (ps_fld (pv 0) pe_int rfl) (pss_one (ps_fld (pv 0) pe_int rfl))), ?_⟩
    refine ⟨Nat.zero_le _, fun l hl => ?_⟩
    have nwl : w ≠ l := ne_of_none hw' hl
    have l0 : H0 l = none := s0.free hl
    have a1 : upd H l (.lst []) w = some (.ins C dx []) := by rw [upd_ne nwl]; exact hw'
    refine ⟨_, rfl, w, C, dx, [], rfl, a1, T.cl, T.nR, (by show 0 < 1000; decide), ?_⟩
    refine ⟨_, rfl, w, C, dx, _, rfl, upd_same, T.cl, T.nK, (by show 1 < 1000; decide), ?_⟩
    refine ⟨_, rfl, w, C, dx, _, rfl, upd_same, T.cl, T.nT, (by show 2 < 1000; decide), ?_⟩
    refine k [w, l] _ ⟨dx, l, [], rfl, upd_same, by rw [upd_ne nwl.symm, upd_ne nwl.symm, upd_ne nwl.symm, upd_same], .nil, fun d z => absurd z (by simp), Nat.le_refl _⟩ (fun a m => ?_) (fun b o z => ?_)
    · simp only [List.mem_cons, List.not_mem_nil, or_false] at m
      rcases m with rfl | rfl
      · exact w0
      · exact l0
    · have nbw : b ≠ w := ne_of_none z w0
      rw [upd_ne nbw, upd_ne nbw, upd_ne nbw, upd_ne (ne_of_none z l0)]
      exact s0 _ _ z
theorem ok_wlen {f : Addr} {fd : FuncData} (F : Fun K "__len__" "Wire.__len__" sWLen f fd) (T : WTxt K mg C) (G : Txt mg) : FnOk P w K mg base CX0 1 f fd ["self"] (spWLen (wk C)) := by
  refine F.ok scW2 (fun vs H Q E h => ?_) (fun cdv A outer s H vs Q E hr h => ?_)
  · obtain ⟨w, fp, rows, put, tk, rfl, _⟩ := h
    rfl
  · obtain ⟨w, fp, rows, put, tk, rfl, ⟨dx, l, xs, rfl, hw, hl, hx, hR, hp⟩, hput, k⟩ := h
    refine ⟨_, pss_one (ps_ret (pe_callB call_len_seq (by rfl) G.len PySem.boot_len (pa_cons (pe_fld (pv 0) rfl) pa_nil))), ?_⟩
    refine ⟨_, rfl, w, C, dx, _, _, rfl, hw, T.cl, T.nR, wf_r _ _ _, l, _, rfl, .inl (SqL.of hl), ?_⟩
    have e := hx.length
    rw [e]
    exact k H (Same.refl _)
theorem ok_wheard {f : Addr} {fd : FuncData} (F : Fun K "heard" "Wire.heard" sWHeard f fd) (T : WTxt K mg C) : FnOk P w K mg base CX0 1 f fd ["self"] (spWHeard (wk C)) := by
  refine F.ok scW6 (fun vs H Q E h => ?_) (fun cdv A outer s H vs Q E hr h => ?_)
  · obtain ⟨w, fp, rows, put, tk, rfl, _⟩ := h
    rfl
  · obtain ⟨w, fp, rows, put, tk, rfl, ⟨dx, l, xs, rfl, hw, hl, hx, hR, hp⟩, k⟩ := h
    refine ⟨_, pss_one (ps_ret (pe_fld (pv 0) rfl)), ?_⟩
    exact ⟨_, rfl, w, C, dx, _, _, rfl, hw, T.cl, T.nT, wf_t _ _ _, k H (Same.refl _)⟩
theorem ok_wunheard {f fc : Addr} {fd fdc : FuncData} (F : Fun K "unheard" "Wire.unheard" sWUnheard f fd) (T : WTxt K mg C) (m : mg "copied" = some (.ref fc)) (kc : PySem.W.keepIn K (.ref fc) = true) (bc : Binds K fdc ["thing"] []) (Gc : FnOk P w K mg base CX0 5 fc fdc ["thing"] (spCopied 4)) :
    FnOk P w K mg base CX0 6 f fd ["self"] (spWUnheard (wk C)) := by
  refine F.ok scW7 (fun vs H Q E h => ?_) (fun cdv A outer s H vs Q E hr h => ?_)
  · obtain ⟨w, fp, rows, put, tk, rfl, _⟩ := h
    rfl
  · obtain ⟨w, fp, rows, put, tk, rfl, ⟨dx, l, xs, rfl, hw, hl, hx, hR, hp⟩, hput, k⟩ := h
    refine ⟨_, pss_one (ps_ret (pe_lc (own := [("row", 1), ("fixed", 2)]) (g := gTup K 2 (gCons (gName 1) (gCons (gName 2) gNil))) (tt := tYes) rfl scW7.nd (pi_list (pe_fld (pv 0) rfl))
      (blkOk_by (N := ["self", "row", "fixed"]) (sc := defScope sWUnheard) (by decide +kernel)) (fun _ _ _ _ _ => by exact pg_tup rfl (pgs_cons (pg_name (i := 1) scW7.nd rfl (Or.inl rfl)) (pgs_cons (pg_name (i := 2) scW7.nd rfl (Or.inl rfl)) pgs_nil))) (fun _ _ _ _ _ => pts_nil)
      (fun _ _ _ _ _ => pe_ifExp (pt_val (pv 2)) (pv 1) (pe_call Gc hr (by rfl) m kc bc .nil pass0 (pa_cons (pv 1) pa_nil))))), ?_⟩
    refine ⟨_, rfl, w, C, dx, _, _, rfl, hw, T.cl, T.nR, wf_r _ _ _, l, rfl, ⟨xs, SqL.of hl⟩, fun D hD => ?_⟩
    refine lc_list (K := K) (a := l) (xs := xs) (fun i H' => ∃ ys : List V, H' D = some (.lst ys) ∧ DtAll H' ys (rows.take i) ∧ Same H H') ?_ ?_ ?_ ?_
    · exact ⟨[], upd_same, .nil, same_new (Same.refl _) hD⟩
    · rintro i H' _ ⟨ys, hy, hyd, s⟩
      exact SqL.of (s _ _ hl)
    · rintro i x H' hi ⟨ys, hy, hyd, s⟩
      obtain ⟨p, v, d, rfl, hdi, hpt, hvd⟩ := hx.get i x hi
      have hil : i < rows.length := (List.getElem?_eq_some_iff.mp hdi).1
      refine ⟨p, _, rfl, SqT.of (s _ _ hpt), rfl, _, _, rfl, _, _, rfl, rfl, rfl, _, rfl, true, rfl, iteT ⟨_, rfl, ?_⟩⟩
      have tt : Tups H' (upd H' D (.lst (ys ++ [v]))) := (Tups.refl _).mut hy (by intro _ z; cases z)
      refine ⟨_, hy, small1000 (by rw [hyd.length, List.length_take]; omega), _, upd_same, ?_, same_mut s hD⟩
      rw [List.take_add_one, hdi]
      exact (hyd.app (.cons (hvd.mono (sameTups s)) .nil)).mono tt
    · rintro H' ⟨ys, hy, hyd, s⟩
      rw [hx.length, List.take_length] at hyd
      exact k D ys H' hD hy hyd s
theorem ok_wletter {f fu : Addr} {fd fdu : FuncData} (F : Fun K "letter" "Wire.letter" sWLetter f fd) (T : WTxt K mg C) (G : Txt mg) (mW : ∃ t, mg "WORD" = some (.str "rows" t)) (mu : Meth K C "unheard" fu) (bu : Binds K fdu ["self"] []) (Gu : FnOk P w K mg base CX0 6 fu fdu ["self"] (spWUnheard (wk C))) :
    FnOk P w K mg base CX0 7 f fd ["self"] (spWLetter (wk C)) := by
  obtain ⟨tW, mW⟩ := mW
  refine F.ok scW4 (fun vs H Q E h => ?_) (fun cdv A outer s H vs Q E hr h => ?_)
  · obtain ⟨w, fp, rows, put, tk, rfl, _⟩ := h
    rfl
  · obtain ⟨w, fp, rows, put, tk, rfl, hW, hput, k⟩ := h
    obtain ⟨dx, l, xs, rfl, hw, hl, hx, hR, hp⟩ := id hW
    refine ⟨_, pss_one (ps_ret (pe_tup (pa_cons (pe_glob (v := V.str "rows") rfl mW ⟨_, rfl⟩) (pa_cons (pe_op op_sub (pe_fld (pv 0) rfl) (pe_callB call_len_seq (by rfl) G.len PySem.boot_len (pa_cons (pe_fld (pv 0) rfl) pa_nil))) (pa_cons (pe_callTy call_tuple_of (by rfl) G.tuple (by decide +kernel) (pa_cons (pe_meth0 (pv 0) T.cl mu Gu hr bu .nil pass0) pa_nil)) (pa_cons (pe_fld (pv 0) rfl) pa_nil)))))), ?_⟩
    refine ⟨_, rfl, w, C, dx, _, _, rfl, hw, T.cl, T.nK, wf_k _ _ _, _, rfl, w, C, dx, _, _, rfl, hw, T.cl, T.nR, wf_r _ _ _, l, _, rfl, .inl (SqL.of hl), _, _, rfl, rfl, ?_⟩
    refine ⟨_, rfl, w, dx, _, rfl, hw, wf_no _ _ _ _ (by simp), w, [w, l], rows, put, tk, rfl, hW, hput, fun m ys H1 hm0 hm hy s1 => ?_⟩
    refine ⟨m, _, rfl, .inl ⟨SqL.of hm, fun t ht => ?_⟩⟩
    have s2 := same_new s1 ht (o := .tup ys)
    have t2 : Tups H1 (upd H1 t (.tup ys)) := (Tups.refl _).new ht
    have a2 : upd H1 t (.tup ys) t = some (.tup ys) := upd_same
    have t0 : H t = none := s1.free ht
    generalize upd H1 t (.tup ys) = H2 at s2 a2 t2 ⊢
    refine ⟨_, rfl, w, C, dx, _, _, rfl, s2 _ _ hw, T.cl, T.nT, wf_t _ _ _, (by show 4 ≤ sizeLine; decide), fun u hu => ?_⟩
    have e : (put : Int) - (xs.length : Nat) = ((put - rows.length : Nat) : Int) := by
      rw [hx.length]
      omega
    have s3 := same_new s2 hu (o := .tup [.str "rows", .int ((put : Int) - (xs.length : Nat)), .ref t, .int (tk : Nat)])
    have t3 : Tups H2 (upd H2 u (.tup [.str "rows", .int ((put : Int) - (xs.length : Nat)), .ref t, .int (tk : Nat)])) := (Tups.refl _).new hu
    have a3 : upd H2 u (.tup [.str "rows", .int ((put : Int) - (xs.length : Nat)), .ref t, .int (tk : Nat)]) u = some (.tup [.str "rows", .int ((put - rows.length : Nat) : Int), .ref t, .int (tk : Nat)]) := by rw [upd_same, e]
    refine k u _ (s2.free hu) ?_ s3
    exact .tup a3 (.cons (.str _) (.cons (.int _) (.cons (.tup (t3 _ _ a2) ((hy.mono t2).mono t3)) (.cons (.int _) .nil))))
theorem ok_wput {f fc fx : Addr} {fd fdc fdx : FuncData} (F : Fun K "put" "Wire.put" sWPut f fd) (T : WTxt K mg C) (m : mg "copied" = some (.ref fc)) (kc : PySem.W.keepIn K (.ref fc) = true) (bc : Binds K fdc ["thing"] []) (Gc : FnOk P w K mg base CX0 5 fc fdc ["thing"] (spCopied 4))
    (mx : mg "is_fixed" = some (.ref fx)) (kx : PySem.W.keepIn K (.ref fx) = true) (bx : Binds K fdx ["thing"] []) (Gx : FnOk P w K mg base CX0 5 fx fdx ["thing"] (spFixed 4)) :
    FnOk P w K mg base CX0 6 f fd ["self", "row"] (spWPut (wk C)) := by
  refine F.ok scW3 (fun vs H Q E h => ?_) (fun cdv A outer s H vs Q E hr h => ?_)
  · obtain ⟨w, r, d, fp, rows, put, tk, rfl, _⟩ := h
    rfl
  · obtain ⟨w, r, d, fp, rows, put, tk, rfl, ⟨dx, l, xs, rfl, hw, hl, hx, hR, hp⟩, hd, hrow, hput, k⟩ := h
    refine ⟨_, pss_cons (ps_expr (pe_bm PySem.F.plainAttrs_list PySem.F.slot_list_append PySem.F.type_list_append mt_append (pe_fld (pv 0) rfl) (pa_cons (pe_tup (pa_cons (pe_call Gc hr (by rfl) m kc bc .nil pass0 (pa_cons (pv 1) pa_nil)) (pa_cons (pe_call Gx hr (by rfl) mx kx bx .nil pass0 (pa_cons (pv 1) pa_nil)) pa_nil))) pa_nil)))
      (pss_cons (ps_fldaug (pv 0) pe_int in_add) (pss_one (ps_ret (pe_op op_sub (pe_fld (pv 0) rfl) pe_int)))), ?_⟩
    refine ⟨_, rfl, w, C, dx, _, _, rfl, hw, T.cl, T.nR, wf_r _ _ _, .inl ⟨rfl, _, SqL.of hl⟩, _, rfl, .ref r, d, rfl, hd, hrow.lay.2, few_row hrow, fun v H1 hv s1 => ?_⟩
    refine ⟨_, rfl, .ref r, d, rfl, hd.mono (sameTups s1), hrow.lay.2, few_row hrow, fun H2 s2 => ?_⟩
    refine ⟨(by show 2 ≤ sizeLine; decide), fun p hp0 => ?_⟩
    have hv2 := hv.mono (sameTups s2)
    have s3 : Same H (upd H2 p (.tup [v, .bl true])) := same_new (s1.trans s2) hp0
    have t3 : Tups H2 (upd H2 p (.tup [v, .bl true])) := (Tups.refl _).new hp0
    have a3 : upd H2 p (.tup [v, .bl true]) p = some (.tup [v, .bl true]) := upd_same
    generalize upd H2 p (.tup [v, .bl true]) = H3 at s3 t3 a3 ⊢
    have nlw : l ≠ w := ne_of hl hw (by intro z; cases z)
    refine ⟨l, _, _, rfl, rfl, s3 _ _ hl, small1000 (by rw [hx.length]; omega), ?_⟩
    have hx4 : Ent (upd H3 l (.lst (xs ++ [.ref p]))) (xs ++ [.ref p]) (rows ++ [d]) :=
      ((hx.mono (sameTups s3)).app (.cons a3 (hv2.mono t3) .nil)).mono ((Tups.refl _).mut (s3 _ _ hl) (by intro _ z; cases z))
    have hw4 : upd H3 l (.lst (xs ++ [.ref p])) w = some (.ins C dx (wf l put tk)) := by rw [upd_ne nlw.symm]; exact s3 _ _ hw
    have hl4 : upd H3 l (.lst (xs ++ [.ref p])) l = some (.lst (xs ++ [.ref p])) := upd_same
    have b4 : But (· ∈ [w, l]) H (upd H3 l (.lst (xs ++ [.ref p]))) := (sameBut s3 _).mut (by simp)
    generalize upd H3 l (.lst (xs ++ [.ref p])) = H4 at hx4 hw4 hl4 b4 ⊢
    refine ⟨_, rfl, w, C, dx, _, _, rfl, hw4, T.cl, T.nK, wf_k _ _ _, _, _, rfl, rfl, dx, _, hw4, (by show 3 < 1000; decide), ?_⟩
    have e5 : upd H4 w (.ins C dx (putF "_many" (.int ((put : Int) + 1)) (wf l put tk))) w = some (.ins C dx (wf l ((put + 1 : Nat) : Int) tk)) := upd_same
    have l5 : upd H4 w (.ins C dx (putF "_many" (.int ((put : Int) + 1)) (wf l put tk))) l = some (.lst (xs ++ [.ref p])) := by rw [upd_ne nlw]; exact hl4
    have x5 := hx4.mono ((Tups.refl H4).mut (o := .ins C dx (putF "_many" (.int ((put : Int) + 1)) (wf l put tk))) hw4 (by intro _ z; cases z))
    have b5 : But (· ∈ [w, l]) H (upd H4 w (.ins C dx (putF "_many" (.int ((put : Int) + 1)) (wf l put tk)))) := b4.mut (by simp)
    refine ⟨_, rfl, w, C, dx, _, _, rfl, e5, T.cl, T.nK, wf_k _ _ _, _, _, rfl, rfl, ?_⟩
    have e : ((put + 1 : Nat) : Int) - 1 = (put : Nat) := by omega
    show Q (V.int (((put + 1 : Nat) : Int) - 1)) _
    rw [e]
    refine k [w, l] _ ⟨dx, l, _, rfl, e5, l5, x5, fun e he => ?_, by rw [List.length_append, List.length_singleton]; omega⟩ (fun a m => .inl m) b5
    rcases List.mem_append.mp he with z | z
    · exact hR e z
    · rw [List.mem_singleton.mp z]; exact hrow
end
end K3
namespace K3
open PySem L2 GG
theorem LetD.inv {H : Hp} {t : Addr} {first heard : Nat} {new : List PyData} (h : Dt H (.ref t) (LetD first new heard)) : ∃ (r : Addr) (ys : List V), H t = some (.tup [.str "rows", .int first, .ref r, .int heard]) ∧ H r = some (.tup ys) ∧ DtAll H ys new := by
  obtain ⟨ls, ht, hls⟩ := h.tupI
  cases hls with
  | cons h0 hls =>
  cases hls with
  | cons h1 hls =>
  cases hls with
  | cons h2 hls =>
  cases hls with
  | cons h3 hls =>
  cases hls
  cases h0
  cases h1
  cases h3
  obtain ⟨r, rfl⟩ := h2.ref_of
  obtain ⟨ys, hR, hy⟩ := h2.tupI
  exact ⟨r, ys, ht, hR, hy⟩
section
variable {P : Program} {w : World} {K : PySem.W.Frag} {mg : Str → Option Value} {base : Heap} {C : Addr}
theorem scW8 : FnScope ["self", "letter", "word", "first", "rows", "heard", "row"] ["self", "letter"] (defScope sWCan) := ⟨rfl, rfl, rfl, by decide +kernel, rfl, by decide +kernel, by decide +kernel⟩
theorem scW5 : FnScope ["self", "letter", "_", "first", "rows", "heard", "known", "told", "row"] ["self", "letter"] (defScope sWTake) := ⟨rfl, rfl, rfl, by decide +kernel, rfl, by decide +kernel, by decide +kernel⟩
def spWCan (C : Addr) : Sp := fun vs H Q _ => ∃ (w t : Addr) (fp : List Addr) (rows new : List PyData) (put tk first heard : Nat), vs = [.ref w, .ref t] ∧ WAtS C H fp w rows put tk ∧ Dt H (.ref t) (LetD first new heard) ∧ first ≤ tk ∧ heard ≤ put ∧ (∀ d ∈ new, RowD d) ∧ new.length ≤ 1000 ∧
  ∀ H', Same H H' → Q (.bl true) H'
theorem ok_wcan {f fn : Addr} {fd fdn : FuncData} (F : Fun K "_can_take" "Wire._can_take" sWCan f fd) (T : WTxt K mg C) (G : Txt mg) (za : mg "all" = none) (mW : ∃ t, mg "WORD" = some (.str "rows" t)) (m : mg "is_number" = some (.ref fn)) (kn : PySem.W.keepIn K (.ref fn) = true) (bn : Binds K fdn ["thing"] []) (Gn : FnOk P w K mg base CX0 1 fn fdn ["thing"] spNumber) :
    FnOk P w K mg base CX0 2 f fd ["self", "letter"] (spWCan C) := by
  obtain ⟨tW, mW⟩ := mW
  refine F.ok scW8 (fun vs H Q E h => ?_) (fun cdv A outer s H vs Q E hr h => ?_)
  · obtain ⟨w, t, fp, rows, new, put, tk, first, heard, rfl, _⟩ := h
    rfl
  · obtain ⟨w, t, fp, rows, new, put, tk, first, heard, rfl, ⟨dx, l, xs, rfl, hw, hl, hx, hR, hp⟩, hd, h1, h2, hnew, hn, k⟩ := h
    obtain ⟨r, ys, ht, hr', hy⟩ := LetD.inv hd
    have tyT := fun (v : Addr) (zs : List V) (e : H v = some (.tup zs)) => TyX.base (K := K) (TyOf.tup e)
    have nd := scW8.nd
    refine ⟨_, pss_cons (ps_if (PW.pt (pw_or (pt_not (pt_val (pe_callB call_isi (by rfl) G.isinstance (by decide +kernel) (pa_cons (pv 1) (pa_cons (pe_bltn (v := V.ty "tuple") (by rfl) G.tuple (by decide +kernel) rfl) pa_nil)))))
          (pw_or1 (pt_cmpR op_ne (pe_callB call_len_seq (by rfl) G.len PySem.boot_len (pa_cons (pv 1) pa_nil)) pe_int (nomark _))))) (pss_one (ps_ret pe_bl)) pss_nil)
      (pss_cons (ps_asg (pv 1) (pg_tup rfl (pgs_cons (pg_name (i := 2) nd rfl (Or.inl rfl)) (pgs_cons (pg_name (i := 3) nd rfl (Or.inl rfl)) (pgs_cons (pg_name (i := 4) nd rfl (Or.inl rfl)) (pgs_cons (pg_name (i := 5) nd rfl (Or.inl rfl)) pgs_nil))))))
      (pss_cons (ps_if (PW.pt (pw_or (pt_cmpR op_ne (pv 2) (pe_glob (v := V.str "rows") rfl mW ⟨_, rfl⟩) (nomark _))
          (pw_or (pt_not (pt_val (pe_call Gn hr (by rfl) m kn bn .nil pass0 (pa_cons (pv 3) pa_nil))))
          (pw_or1 (pt_not (pt_val (pe_call Gn hr (by rfl) m kn bn .nil pass0 (pa_cons (pv 5) pa_nil)))))))) (pss_one (ps_ret pe_bl)) pss_nil)
      (pss_cons (ps_if (PW.pt (pw_or (pt_not (pt_val (pe_callB call_isi (by rfl) G.isinstance (by decide +kernel) (pa_cons (pv 4) (pa_cons (pe_bltn (v := V.ty "tuple") (by rfl) G.tuple (by decide +kernel) rfl) pa_nil)))))
          (pw_or1 (pt_not (pt_val (pe_callB (cr_all rfl) (by rfl) za (by decide +kernel) (pa_cons (pe_lc (own := [("row", 6)]) (g := gName 6) (tt := tYes) rfl nd (pi_tup (pv 4))
          (blkOk_by (N := ["self", "letter", "word", "first", "rows", "heard", "row"]) (sc := defScope sWCan) (by decide +kernel)) (fun _ _ _ _ _ => pg_name (i := 6) nd rfl (Or.inl rfl)) (fun _ _ _ _ _ => pts_nil)
          (fun _ _ _ _ _ => pe_callB (id := "isinstance") (r := rIsi K) call_isi (by rfl) G.isinstance (by decide +kernel) (pa_cons (pv 6) (pa_cons (pe_bltn (v := V.ty "tuple") (by rfl) G.tuple (by decide +kernel) rfl) pa_nil)))) pa_nil))))))) (pss_one (ps_ret pe_bl)) pss_nil)
      (pss_one (ps_ret (pe_and (pe_cmpR op_le (pv 3) (pe_fld (pv 0) rfl) (nomark _)) (pe_one (pe_cmpR op_le (pv 5) (pe_fld (pv 0) rfl) (nomark _))))))))), ?_⟩
    refine ⟨_, rfl, .ref t, .ty "tuple", .type "tuple", .type "tuple", true, rfl, .ty _, tyT _ _ ht, kit_ty (by decide +kernel), true, rfl, iteF ?_⟩
    refine ⟨_, rfl, t, _, rfl, .inr (SqT.of ht), rfl, _, rfl, iteNS rfl ?_⟩
    refine ⟨_, rfl, t, _, rfl, SqT.of ht, rfl, _, _, rfl, _, _, rfl, _, _, rfl, _, _, rfl, rfl, ?_⟩
    refine ⟨_, rfl, rfl, _, rfl, iteNS rfl ?_⟩
    refine ⟨_, rfl, _, rfl, Int.natCast_nonneg _, true, rfl, iteF ?_⟩
    refine ⟨_, rfl, _, rfl, Int.natCast_nonneg _, true, rfl, iteF ?_⟩
    refine ⟨_, rfl, .ref r, .ty "tuple", .type "tuple", .type "tuple", true, rfl, .ty _, tyT _ _ hr', kit_ty (by decide +kernel), true, rfl, iteF ?_⟩
    refine ⟨_, rfl, r, rfl, ⟨ys, SqT.of hr'⟩, fun D hD => ?_⟩
    refine lc_tup (K := K) (a := r) (xs := ys) (fun i H' => ∃ n : Nat, n = i ∧ H' D = some (.lst ((List.replicate n true).map V.bl)) ∧ Same H H') ?_ ?_ ?_ ?_
    · exact ⟨0, rfl, upd_same, same_new (Same.refl _) hD⟩
    · rintro i H' _ ⟨n, rfl, hDl, s⟩
      exact SqT.of (s _ _ hr')
    · rintro i x H' hi ⟨n, rfl, hDl, s⟩
      obtain ⟨d, hdi, hdx⟩ := hy.get n x hi
      have hil : n < new.length := (List.getElem?_eq_some_iff.mp hdi).1
      obtain ⟨es, rfl, _⟩ := hnew d (List.mem_of_getElem? hdi)
      obtain ⟨a, rfl⟩ := hdx.ref_of
      obtain ⟨zs, hz, _⟩ := hdx.tupI
      refine ⟨rfl, _, rfl, .ref a, .ty "tuple", .type "tuple", .type "tuple", true, rfl, .ty _, .base (.tup (s _ _ hz)), kit_ty (by decide +kernel), _, hDl, ?_, n + 1, rfl, ?_, same_mut s hD⟩
      · rw [List.length_map, List.length_replicate]
        exact small1000 (by omega)
      · rw [upd_same, List.replicate_succ', List.map_append]
        rfl
    · rintro H' ⟨n, rfl, hDl, s⟩
      refine ⟨D, _, rfl, SqL.of hDl, ?_⟩
      have e : (List.replicate ys.length true).all id = true := by simp
      rw [e]
      refine ⟨true, rfl, iteF ?_⟩
      refine ⟨_, rfl, _, rfl, w, C, dx, _, _, rfl, s _ _ hw, T.cl, T.nT, wf_t _ _ _, _, _, rfl, rfl, _, rfl, iteYes (Int.ofNat_le.mpr h1) ⟨_, rfl, _, rfl, w, C, dx, _, _, rfl, s _ _ hw, T.cl, T.nK, wf_k _ _ _, _, _, rfl, rfl, ?_⟩⟩
      show Q (V.bl (decide ((heard : Int) ≤ (put : Int)))) H'
      rw [decide_eq_true (Int.ofNat_le.mpr h2)]
      exact k H' s
theorem ok_wtake {f fi fc : Addr} {fd fdi fdc : FuncData} (F : Fun K "take" "Wire.take" sWTake f fd) (T : WTxt K mg C) (G : Txt mg) (mi : Meth K C "_can_take" fi) (bi : Binds K fdi ["self", "letter"] []) (Gi : FnOk P w K mg base CX0 2 fi fdi ["self", "letter"] (spWCan C))
    (m : mg "copied" = some (.ref fc)) (kc : PySem.W.keepIn K (.ref fc) = true) (bc : Binds K fdc ["thing"] []) (Gc : FnOk P w K mg base CX0 5 fc fdc ["thing"] (spCopied 4)) :
    FnOk P w K mg base CX0 6 f fd ["self", "letter"] (spWTake (wk C)) := by
  refine F.ok scW5 (fun vs H Q E h => ?_) (fun cdv A outer s H vs Q E hr h => ?_)
  · obtain ⟨w, t, fp, rows, new, put, tk, first, heard, rfl, _⟩ := h
    rfl
  · obtain ⟨w, t, fp, rows, new, put, tk, first, heard, rfl, hW, hd, h1, h2, hnew, hn, hput, htk, k⟩ := h
    have hr2 : Room 2 _ := hr.mono (by decide)
    have nd := scW5.nd
    refine ⟨_, pss_cons (ps_if (pt_not (pt_val (pe_meth (pv 0) T.cl mi Gi hr2 bi .nil pass0 (pa_cons (pv 1) pa_nil)))) (pss_one ps_never) pss_nil)
      (pss_cons (ps_asg (pv 1) (pg_tup rfl (pgs_cons (pg_name (i := 2) nd rfl (Or.inl rfl)) (pgs_cons (pg_name (i := 3) nd rfl (Or.inl rfl)) (pgs_cons (pg_name (i := 4) nd rfl (Or.inl rfl)) (pgs_cons (pg_name (i := 5) nd rfl (Or.inl rfl)) pgs_nil))))))
      (pss_cons (ps_set (i := 6) nd rfl (.inl rfl) (pe_op op_sub (pe_fld (pv 0) rfl) (pe_callB call_len_seq (by rfl) G.len PySem.boot_len (pa_cons (pe_fld (pv 0) rfl) pa_nil))))
      (C8.pss_cut (ps_if (pt_cmpR op_gt (pv 5) (pv 6) (nomark _))
          (pss_one (ps_fld (pv 0) (pe_slice sl_list (pe_fld (pv 0) rfl) (po_some (pe_op op_sub (pv 5) (pv 6))) po_none) rfl)) pss_nil)
      (C8.pss_cut (ps_setLc (i := 7) (own := [("row", 8)]) (g := gName 8) (tt := tYes) rfl nd rfl rfl (sw_true rfl rfl rfl (by decide +kernel)) (pi_tup (pe_slice sl_tupA (pv 4) (po_some (pe_op op_sub (pe_fld (pv 0) rfl) (pv 3))) po_none))
          (blkOk_by (N := ["self", "letter", "_", "first", "rows", "heard", "known", "told", "row"]) (sc := defScope sWTake) (by decide +kernel)) (fun _ _ _ _ _ => pg_name (i := 8) nd rfl (Or.inl rfl)) (fun _ _ _ _ _ => pts_nil)
          (fun _ _ _ _ _ => pe_call Gc hr (by rfl) m kc bc .nil pass0 (pa_cons (pv 8) pa_nil)))
      (pss_cons (ps_fldaug (pv 0) (pe_callB call_len_seq (by rfl) G.len PySem.boot_len (pa_cons (pv 7) pa_nil)) in_add)
      (pss_one (ps_ret (pv 7)))))))), ?_⟩
    obtain ⟨dx, l, xs, rfl, hw, hl, hx, hR, hp⟩ := id hW
    refine ⟨_, rfl, w, dx, _, rfl, hw, wf_no _ _ _ _ (by simp), _, rfl, w, t, [w, l], rows, new, put, tk, first, heard, rfl, hW, hd, h1, h2, hnew, hn, fun H1 s1 => ⟨true, rfl, iteF ?_⟩⟩
    obtain ⟨r, ys, ht, hr', hy⟩ := LetD.inv (hd.mono (sameTups s1))
    refine ⟨_, rfl, t, _, rfl, SqT.of ht, rfl, _, _, rfl, _, _, rfl, _, _, rfl, _, _, rfl, rfl, ?_⟩
    refine ⟨_, rfl, w, C, dx, _, _, rfl, s1 _ _ hw, T.cl, T.nK, wf_k _ _ _, _, rfl, w, C, dx, _, _, rfl, s1 _ _ hw, T.cl, T.nR, wf_r _ _ _, l, _, rfl, .inl (SqL.of (s1 _ _ hl)), _, _, rfl, rfl, ?_⟩
    have ekn : (put : Int) - (xs.length : Nat) = ((put - rows.length : Nat) : Int) := by
      rw [hx.length]
      omega
    have nlw : l ≠ w := ne_of hl hw (by intro z; cases z)
    have hx1 := hx.mono (sameTups s1)
    refine ⟨fun σ' H' => σ' = [some (.ref w), some (.ref t), some (.str "rows"), some (.int first), some (.ref r), some (.int heard), some (.int ((put : Int) - (xs.length : Nat))), none, none] ∧ ∃ (l2 : Addr) (zs : List V), H' w = some (.ins C dx (wf l2 put tk)) ∧ H' l2 = some (.lst zs) ∧ Ent H' zs (rows.drop (heard - (put - rows.length))) ∧ (l2 = l ∨ H l2 = none) ∧ l2 ≠ w ∧ H' l = some (.lst xs) ∧ But (· ∈ [w, l]) H H' ∧ Tups H1 H', ?_, ?_⟩
    · refine ⟨_, rfl, _, rfl, _, _, rfl, rfl, _, rfl, ite2 (fun hg => ?_) (fun hg => ?_)⟩
      · have hg' : (put : Int) - (xs.length : Nat) < (heard : Int) := of_decide_eq_true hg
        have ej : (heard : Int) - ((put : Int) - (xs.length : Nat)) = ((heard - (put - rows.length) : Nat) : Int) := by omega
        refine ⟨_, rfl, w, C, dx, _, _, rfl, s1 _ _ hw, T.cl, T.nR, wf_r _ _ _, _, rfl, _, rfl, _, _, rfl, rfl, _, rfl, ?_⟩
        rw [ej]
        refine ⟨l, xs, rfl, SqL.of (s1 _ _ hl), fun l2 hl2 => ?_⟩
        rw [cutV_drop]
        have nl2w : l2 ≠ w := fun q => by
          rw [q, s1 _ _ hw] at hl2
          cases hl2
        have hw4 : upd H1 l2 (.lst (xs.drop (heard - (put - rows.length)))) w = some (.ins C dx (wf l put tk)) := by rw [upd_ne nl2w.symm]; exact s1 _ _ hw
        refine ⟨_, rfl, w, C, dx, _, rfl, hw4, T.cl, T.nR, (by show 3 < 1000; decide), ?_⟩
        have tt : Tups H1 (upd (upd H1 l2 (.lst (xs.drop (heard - (put - rows.length))))) w (.ins C dx (putF "_rows" (.ref l2) (wf l put tk)))) :=
          ((Tups.refl _).new hl2).mut hw4 (by intro _ z; cases z)
        refine ⟨rfl, l2, xs.drop (heard - (put - rows.length)), ?_, ?_, (hx1.drop _).mono tt, .inr (s1.free hl2), nl2w, ?_, ((sameBut s1 _).new hl2).mut (by simp), tt⟩
        · rw [upd_same]
          rfl
        · rw [upd_ne nl2w, upd_same]
        · rw [upd_ne nlw, upd_ne (ne_of_none (s1 _ _ hl) hl2)]
          exact s1 _ _ hl
      · have hg' : ¬ (put : Int) - (xs.length : Nat) < (heard : Int) := fun z => hg (decide_eq_true z)
        have e0 : heard - (put - rows.length) = 0 := by omega
        refine ⟨rfl, l, xs, s1 _ _ hw, s1 _ _ hl, ?_, .inl rfl, nlw, s1 _ _ hl, sameBut s1 _, Tups.refl _⟩
        rw [e0]
        exact hx1
    · rintro σ2 H2 ⟨rfl, l2, zs, hw2, hl2, hz2, hl20, nl2w, hll, b2, t2⟩
      have hr2' := t2 _ _ hr'
      have hy2 := hy.mono t2
      refine ⟨fun σ' H' => ∃ (m : Addr) (us : List V), H m = none ∧ m ≠ w ∧ m ≠ l2 ∧ σ' = [some (.ref w), some (.ref t), some (.str "rows"), some (.int first), some (.ref r), some (.int heard), some (.int ((put : Int) - (xs.length : Nat))), some (.ref m), none] ∧ H' m = some (.lst us) ∧ DtAll H' us (new.drop (tk - first)) ∧ Same H2 H', ?_, ?_⟩
      · have ek : (tk : Int) - (first : Int) = ((tk - first : Nat) : Int) := by omega
        have fresh : ∀ m, H2 m = none → H m = none ∧ m ≠ w ∧ m ≠ l2 := fun m hm => by
          have n1 : m ≠ w := fun q => by
            rw [q, hw2] at hm
            cases hm
          have n2 : m ≠ l2 := fun q => by
            rw [q, hl2] at hm
            cases hm
          have n3 : m ≠ l := fun q => by
            rw [q, hll] at hm
            cases hm
          refine ⟨b2.free hm (fun z => ?_), n1, n2⟩
          simp only [List.mem_cons, List.not_mem_nil, or_false] at z
          rcases z with z | z
          · exact n1 z
          · exact n3 z
        refine ⟨_, rfl, _, rfl, w, C, dx, _, _, rfl, hw2, T.cl, T.nT, wf_t _ _ _, _, rfl, _, _, rfl, rfl, _, rfl, ?_⟩
        rw [ek]
        refine ⟨r, ys, rfl, SqT.of hr2', fun hwh => ?_, fun hpt q hq => ?_⟩
        · have ew : ys.drop (tk - first) = ys := by
            have z := hwh.1
            rw [HT.sIx_nat] at z
            by_cases h0 : tk - first = 0
            · rw [h0]; rfl
            · have : ys.length = 0 := by omega
              rw [List.length_eq_zero_iff.mp this]
              exact List.drop_nil
          have hr3 : H2 r = some (.tup (ys.drop (tk - first))) := by rw [ew]; exact hr2'
          refine ⟨r, rfl, ⟨_, SqT.of hr3⟩, fun D hD => ?_⟩
          refine lc_tup (K := K) (a := r) (xs := ys.drop (tk - first)) (fun i H' => ∃ zs : List V, H' D = some (.lst zs) ∧ DtAll H' zs ((new.drop (tk - first)).take i) ∧ Same H2 H') ?_ ?_ ?_ ?_
          · exact ⟨[], upd_same, .nil, same_new (Same.refl _) hD⟩
          · rintro i H' _ ⟨zs, hz, hzd, s⟩
            exact SqT.of (s _ _ hr3)
          · rintro i x H' hi ⟨zs, hz, hzd, s⟩
            obtain ⟨d, hdi, hdx⟩ := (hy2.drop (tk - first)).get i x hi
            have hil := (List.getElem?_eq_some_iff.mp hdi).1
            have hdr := hnew d (List.mem_of_mem_drop (List.mem_of_getElem? hdi))
            rw [List.length_drop] at hil
            refine ⟨rfl, _, rfl, x, d, rfl, hdx.mono (sameTups s), hdr.lay.2, few_row hdr, fun v' H3 hv s3 => ?_⟩
            have tt : Tups H3 (upd H3 D (.lst (zs ++ [v']))) := (Tups.refl _).mut (s3 _ _ hz) (by intro _ z; cases z)
            refine ⟨_, s3 _ _ hz, small1000 (by rw [hzd.length, List.length_take]; omega), _, upd_same, ?_, same_mut (s.trans s3) hD⟩
            rw [List.take_add_one, hdi]
            exact ((hzd.mono (sameTups s3)).app (.cons hv .nil)).mono tt
          · rintro H' ⟨zs, hz, hzd, s⟩
            have el : (ys.drop (tk - first)).length = (new.drop (tk - first)).length := (hy.drop _).length
            rw [el, List.take_length] at hzd
            obtain ⟨f1, f2, f3⟩ := fresh D hD
            exact ⟨D, zs, f1, f2, f3, rfl, hz, hzd, s⟩
        · rw [cutV_drop]
          have s2 := same_new (Same.refl H2) hq (o := .tup (ys.drop (tk - first)))
          have hq2 : upd H2 q (.tup (ys.drop (tk - first))) q = some (.tup (ys.drop (tk - first))) := upd_same
          generalize upd H2 q (.tup (ys.drop (tk - first))) = H2' at s2 hq2 ⊢
          refine ⟨q, rfl, ⟨_, SqT.of hq2⟩, fun D hD => ?_⟩
          refine lc_tup (K := K) (a := q) (xs := ys.drop (tk - first)) (fun i H' => ∃ zs : List V, H' D = some (.lst zs) ∧ DtAll H' zs ((new.drop (tk - first)).take i) ∧ Same H2' H') ?_ ?_ ?_ ?_
          · exact ⟨[], upd_same, .nil, same_new (Same.refl _) hD⟩
          · rintro i H' _ ⟨zs, hz, hzd, s⟩
            exact SqT.of (s _ _ hq2)
          · rintro i x H' hi ⟨zs, hz, hzd, s⟩
            obtain ⟨d, hdi, hdx⟩ := ((hy2.drop (tk - first)).mono (sameTups s2)).get i x hi
            have hil := (List.getElem?_eq_some_iff.mp hdi).1
            have hdr := hnew d (List.mem_of_mem_drop (List.mem_of_getElem? hdi))
            rw [List.length_drop] at hil
            refine ⟨rfl, _, rfl, x, d, rfl, hdx.mono (sameTups s), hdr.lay.2, few_row hdr, fun v' H3 hv s3 => ?_⟩
            have tt : Tups H3 (upd H3 D (.lst (zs ++ [v']))) := (Tups.refl _).mut (s3 _ _ hz) (by intro _ z; cases z)
            refine ⟨_, s3 _ _ hz, small1000 (by rw [hzd.length, List.length_take]; omega), _, upd_same, ?_, same_mut (s.trans s3) hD⟩
            rw [List.take_add_one, hdi]
            exact ((hzd.mono (sameTups s3)).app (.cons hv .nil)).mono tt
          · rintro H' ⟨zs, hz, hzd, s⟩
            have el : (ys.drop (tk - first)).length = (new.drop (tk - first)).length := (hy.drop _).length
            rw [el, List.take_length] at hzd
            obtain ⟨f1, f2, f3⟩ := fresh D (s2.free hD)
            exact ⟨D, zs, f1, f2, f3, rfl, hz, hzd, s2.trans s⟩
      · rintro σ3 H3 ⟨m, us, hm0, nmw, nml, rfl, hm, hud, s3⟩
        have hw3 := s3 _ _ hw2
        refine ⟨_, rfl, w, C, dx, _, _, rfl, hw3, T.cl, T.nT, wf_t _ _ _, _, rfl, m, _, rfl, .inl (SqL.of hm), _, _, rfl, rfl, dx, _, hw3, (by show 3 < 1000; decide), ?_⟩
        have ez : (tk : Int) + (us.length : Nat) = ((tk + (new.drop (tk - first)).length : Nat) : Int) := by
          rw [hud.length]
          omega
        have hw4 : upd H3 w (.ins C dx (putF "_taken" (.int ((tk : Int) + (us.length : Nat))) (wf l2 put tk))) w = some (.ins C dx (wf l2 put ((tk + (new.drop (tk - first)).length : Nat) : Int))) := by
          rw [upd_same, wf_pt, ez]
        have hl4 : upd H3 w (.ins C dx (putF "_taken" (.int ((tk : Int) + (us.length : Nat))) (wf l2 put tk))) l2 = some (.lst zs) := by rw [upd_ne nl2w]; exact s3 _ _ hl2
        have hm4 : upd H3 w (.ins C dx (putF "_taken" (.int ((tk : Int) + (us.length : Nat))) (wf l2 put tk))) m = some (.lst us) := by rw [upd_ne nmw]; exact hm
        have b4 : But (· ∈ [w, l]) H (upd H3 w (.ins C dx (putF "_taken" (.int ((tk : Int) + (us.length : Nat))) (wf l2 put tk)))) := (b2.trans (sameBut s3 _)).mut (by simp)
        have t4 : Tups H3 (upd H3 w (.ins C dx (putF "_taken" (.int ((tk : Int) + (us.length : Nat))) (wf l2 put tk)))) := (Tups.refl _).mut hw3 (by intro _ z; cases z)
        generalize upd H3 w (.ins C dx (putF "_taken" (.int ((tk : Int) + (us.length : Nat))) (wf l2 put tk))) = H4 at hw4 hl4 hm4 b4 t4 ⊢
        refine ⟨_, rfl, k m us [w, l2] H4 hm0 ?_ hm4 (hud.mono t4) ⟨dx, l2, zs, rfl, hw4, hl4, (hz2.mono (sameTups s3)).mono t4, fun d z => hR d (List.mem_of_mem_drop z), ?_⟩ (fun a z => ?_) b4⟩
        · simp only [List.mem_cons, List.not_mem_nil, or_false, not_or]
          exact ⟨nmw, nml⟩
        · rw [List.length_drop]
          omega
        · simp only [List.mem_cons, List.not_mem_nil, or_false] at z
          rcases z with rfl | rfl
          · exact .inl (by simp)
          · rcases hl20 with rfl | z0
            · exact .inl (by simp)
            · exact .inr z0
end
end K3
namespace K3
open PySem L2 GG
theorem all_mk {l : PySem.W.OpenLaw} {w : World} {K : PySem.W.Frag} {h : Heap} {mg : Str → Option Value} {fa C f1 f2 f3 f4 f5 f6 f7 f8 f9 f10 f11 f12 f13 f14 f15 f16 f17 f18 : Addr} (X : K.In h) (G : h.Ns mainGlobals mg) (hfa : mg "law" = some (.ref fa)) {tW : Tok} {od1 an1 od2 an2 od3 an3 od4 an4 od5 an5 od6 an6 od7 an7 od8 an8 od9 an9 od10 an10 od11 an11 od12 an12 od13 an13 od14 an14 od15 an15 od16 an16 od17 an17 od18 an18 : Option Addr} {sl1 sl2 sl3 sl4 sl5 sl6 sl7 sl8 sl9 sl10 sl11 sl12 sl13 sl14 sl15 sl16 sl17 sl18 : Array (Option Value)}
    {oc1 kV1 dc1 pm1 cd1 ct1 oc2 kV2 dc2 pm2 cd2 ct2 oc3 kV3 dc3 pm3 cd3 ct3 oc4 kV4 dc4 pm4 cd4 ct4 oc5 kV5 dc5 pm5 cd5 ct5 oc6 kV6 dc6 pm6 cd6 ct6 oc7 kV7 dc7 pm7 cd7 ct7 oc8 kV8 dc8 pm8 cd8 ct8 oc9 kV9 dc9 pm9 cd9 ct9 oc10 kV10 dc10 pm10 cd10 ct10 oc11 kV11 dc11 pm11 cd11 ct11 oc12 kV12 dc12 pm12 cd12 ct12 oc13 kV13 dc13 pm13 cd13 ct13 oc14 kV14 dc14 pm14 cd14 ct14 oc15 kV15 dc15 pm15 cd15 ct15 oc16 kV16 dc16 pm16 cd16 ct16 oc17 kV17 dc17 pm17 cd17 ct17 oc18 kV18 dc18 pm18 cd18 ct18 : Value}
    (a1 : PySem.W.nsIn K mainGlobals "_law_pen" = some (some (.ref f1))) (l1 : K.lookup f1 = some ⟨oc1, od1, .func (PySem.W.fnOf "_law_pen" "_law_pen" (defArgs sPen) (defBody sPen) (defScope sPen) .none kV1 dc1 pm1 an1 cd1 ct1), sl1⟩) (c1 : PySem.W.codeIn K cd1 "_law_pen" = true) (k1 : PySem.W.keepIn K (.ref f1) = true)
    (a2 : PySem.W.nsIn K mainGlobals "_law_draw" = some (some (.ref f2))) (l2 : K.lookup f2 = some ⟨oc2, od2, .func (PySem.W.fnOf "_law_draw" "_law_draw" (defArgs sDraw) (defBody sDraw) (defScope sDraw) .none kV2 dc2 pm2 an2 cd2 ct2), sl2⟩) (c2 : PySem.W.codeIn K cd2 "_law_draw" = true) (k2 : PySem.W.keepIn K (.ref f2) = true)
    (a3 : PySem.W.nsIn K mainGlobals "_law_pick" = some (some (.ref f3))) (l3 : K.lookup f3 = some ⟨oc3, od3, .func (PySem.W.fnOf "_law_pick" "_law_pick" (defArgs sPick) (defBody sPick) (defScope sPick) .none kV3 dc3 pm3 an3 cd3 ct3), sl3⟩) (c3 : PySem.W.codeIn K cd3 "_law_pick" = true) (k3 : PySem.W.keepIn K (.ref f3) = true)
    (a4 : PySem.W.nsIn K mainGlobals "_law_plain" = some (some (.ref f4))) (l4 : K.lookup f4 = some ⟨oc4, od4, .func (PySem.W.fnOf "_law_plain" "_law_plain" (defArgs sPlain) (defBody sPlain) (defScope sPlain) .none kV4 dc4 pm4 an4 cd4 ct4), sl4⟩) (c4 : PySem.W.codeIn K cd4 "_law_plain" = true) (k4 : PySem.W.keepIn K (.ref f4) = true)
    (a5 : PySem.W.nsIn K mainGlobals "_law_row_of" = some (some (.ref f5))) (l5 : K.lookup f5 = some ⟨oc5, od5, .func (PySem.W.fnOf "_law_row_of" "_law_row_of" (defArgs sRow) (defBody sRow) (defScope sRow) .none kV5 dc5 pm5 an5 cd5 ct5), sl5⟩) (c5 : PySem.W.codeIn K cd5 "_law_row_of" = true) (k5 : PySem.W.keepIn K (.ref f5) = true)
    (a6 : PySem.W.nsIn K mainGlobals "_law_brought_on" = some (some (.ref f6))) (l6 : K.lookup f6 = some ⟨oc6, od6, .func (PySem.W.fnOf "_law_brought_on" "_law_brought_on" (defArgs sOn) (defBody sOn) (defScope sOn) .none kV6 dc6 pm6 an6 cd6 ct6), sl6⟩) (c6 : PySem.W.codeIn K cd6 "_law_brought_on" = true) (k6 : PySem.W.keepIn K (.ref f6) = true)
    (a7 : PySem.W.nsIn K mainGlobals "law" = some (some (.ref f7))) (l7 : K.lookup f7 = some ⟨oc7, od7, .func (PySem.W.fnOf "law" "law" (defArgs sLaw) (defBody sLaw) (defScope sLaw) .none kV7 dc7 pm7 an7 cd7 ct7), sl7⟩) (c7 : PySem.W.codeIn K cd7 "law" = true) (k7 : PySem.W.keepIn K (.ref f7) = true)
    (a8 : PySem.W.nsIn K mainGlobals "copied" = some (some (.ref f8))) (l8 : K.lookup f8 = some ⟨oc8, od8, .func (PySem.W.fnOf "copied" "copied" (defArgs sCopied) (defBody sCopied) (defScope sCopied) .none kV8 dc8 pm8 an8 cd8 ct8), sl8⟩) (c8 : PySem.W.codeIn K cd8 "copied" = true) (k8 : PySem.W.keepIn K (.ref f8) = true)
    (a9 : PySem.W.nsIn K mainGlobals "is_number" = some (some (.ref f9))) (l9 : K.lookup f9 = some ⟨oc9, od9, .func (PySem.W.fnOf "is_number" "is_number" (defArgs sNumber) (defBody sNumber) (defScope sNumber) .none kV9 dc9 pm9 an9 cd9 ct9), sl9⟩) (c9 : PySem.W.codeIn K cd9 "is_number" = true) (k9 : PySem.W.keepIn K (.ref f9) = true)
    (a10 : PySem.W.nsIn K mainGlobals "is_fixed" = some (some (.ref f10))) (l10 : K.lookup f10 = some ⟨oc10, od10, .func (PySem.W.fnOf "is_fixed" "is_fixed" (defArgs sFixed) (defBody sFixed) (defScope sFixed) .none kV10 dc10 pm10 an10 cd10 ct10), sl10⟩) (c10 : PySem.W.codeIn K cd10 "is_fixed" = true) (k10 : PySem.W.keepIn K (.ref f10) = true)
    (aC : PySem.W.nsIn K mainGlobals "Wire" = some (some (.ref C)))
    (a11 : PySem.W.findIn K (.ref C) "__init__" = some (some (.ref f11))) (i11 : PySem.W.isFn K (.ref f11) = true) (l11 : K.lookup f11 = some ⟨oc11, od11, .func (PySem.W.fnOf "__init__" "Wire.__init__" (defArgs sWInit) (defBody sWInit) (defScope sWInit) .none kV11 dc11 pm11 an11 cd11 ct11), sl11⟩) (c11 : PySem.W.codeIn K cd11 "Wire.__init__" = true) (k11 : PySem.W.keepIn K (.ref f11) = true)
    (a12 : PySem.W.findIn K (.ref C) "__len__" = some (some (.ref f12))) (i12 : PySem.W.isFn K (.ref f12) = true) (l12 : K.lookup f12 = some ⟨oc12, od12, .func (PySem.W.fnOf "__len__" "Wire.__len__" (defArgs sWLen) (defBody sWLen) (defScope sWLen) .none kV12 dc12 pm12 an12 cd12 ct12), sl12⟩) (c12 : PySem.W.codeIn K cd12 "Wire.__len__" = true) (k12 : PySem.W.keepIn K (.ref f12) = true)
    (a13 : PySem.W.findIn K (.ref C) "put" = some (some (.ref f13))) (i13 : PySem.W.isFn K (.ref f13) = true) (l13 : K.lookup f13 = some ⟨oc13, od13, .func (PySem.W.fnOf "put" "Wire.put" (defArgs sWPut) (defBody sWPut) (defScope sWPut) .none kV13 dc13 pm13 an13 cd13 ct13), sl13⟩) (c13 : PySem.W.codeIn K cd13 "Wire.put" = true) (k13 : PySem.W.keepIn K (.ref f13) = true)
    (a14 : PySem.W.findIn K (.ref C) "letter" = some (some (.ref f14))) (i14 : PySem.W.isFn K (.ref f14) = true) (l14 : K.lookup f14 = some ⟨oc14, od14, .func (PySem.W.fnOf "letter" "Wire.letter" (defArgs sWLetter) (defBody sWLetter) (defScope sWLetter) .none kV14 dc14 pm14 an14 cd14 ct14), sl14⟩) (c14 : PySem.W.codeIn K cd14 "Wire.letter" = true) (k14 : PySem.W.keepIn K (.ref f14) = true)
    (a15 : PySem.W.findIn K (.ref C) "take" = some (some (.ref f15))) (i15 : PySem.W.isFn K (.ref f15) = true) (l15 : K.lookup f15 = some ⟨oc15, od15, .func (PySem.W.fnOf "take" "Wire.take" (defArgs sWTake) (defBody sWTake) (defScope sWTake) .none kV15 dc15 pm15 an15 cd15 ct15), sl15⟩) (c15 : PySem.W.codeIn K cd15 "Wire.take" = true) (k15 : PySem.W.keepIn K (.ref f15) = true)
    (a16 : PySem.W.findIn K (.ref C) "heard" = some (some (.ref f16))) (i16 : PySem.W.isFn K (.ref f16) = true) (l16 : K.lookup f16 = some ⟨oc16, od16, .func (PySem.W.fnOf "heard" "Wire.heard" (defArgs sWHeard) (defBody sWHeard) (defScope sWHeard) .none kV16 dc16 pm16 an16 cd16 ct16), sl16⟩) (c16 : PySem.W.codeIn K cd16 "Wire.heard" = true) (k16 : PySem.W.keepIn K (.ref f16) = true)
    (a17 : PySem.W.findIn K (.ref C) "unheard" = some (some (.ref f17))) (i17 : PySem.W.isFn K (.ref f17) = true) (l17 : K.lookup f17 = some ⟨oc17, od17, .func (PySem.W.fnOf "unheard" "Wire.unheard" (defArgs sWUnheard) (defBody sWUnheard) (defScope sWUnheard) .none kV17 dc17 pm17 an17 cd17 ct17), sl17⟩) (c17 : PySem.W.codeIn K cd17 "Wire.unheard" = true) (k17 : PySem.W.keepIn K (.ref f17) = true)
    (a18 : PySem.W.findIn K (.ref C) "_can_take" = some (some (.ref f18))) (i18 : PySem.W.isFn K (.ref f18) = true) (l18 : K.lookup f18 = some ⟨oc18, od18, .func (PySem.W.fnOf "_can_take" "Wire._can_take" (defArgs sWCan) (defBody sWCan) (defScope sWCan) .none kV18 dc18 pm18 an18 cd18 ct18), sl18⟩) (c18 : PySem.W.codeIn K cd18 "Wire._can_take" = true) (k18 : PySem.W.keepIn K (.ref f18) = true)
    (pg : PySem.W.plainGet K C Str.empty = true) (hd : PySem.W.hasDictIn K C = true) (po : PySem.W.plainOver K C = true) (sa : PySem.W.findIn K (.ref C) "__setattr__" = some (some (.builtin "object.__setattr__"))) (mk : PySem.W.makesIn K C = true) (kc : PySem.W.keepIn K (.ref C) = true)
    (nR : PySem.W.findIn K (.ref C) "_rows" = some none) (nK : PySem.W.findIn K (.ref C) "_many" = some none) (nT : PySem.W.findIn K (.ref C) "_taken" = some none)
    (aW : PySem.W.nsIn K mainGlobals "WORD" = some (some (.str "rows" tW)))
    (z_len : PySem.W.nsIn K mainGlobals "len" = some none) (z_abs : PySem.W.nsIn K mainGlobals "abs" = some none) (z_list : PySem.W.nsIn K mainGlobals "list" = some none) (z_tuple : PySem.W.nsIn K mainGlobals "tuple" = some none) (z_dict : PySem.W.nsIn K mainGlobals "dict" = some none) (z_range : PySem.W.nsIn K mainGlobals "range" = some none) (z_int : PySem.W.nsIn K mainGlobals "int" = some none) (z_max : PySem.W.nsIn K mainGlobals "max" = some none) (z_sorted : PySem.W.nsIn K mainGlobals "sorted" = some none) (z_repr : PySem.W.nsIn K mainGlobals "repr" = some none) (z_isinstance : PySem.W.nsIn K mainGlobals "isinstance" = some none) (z_bool : PySem.W.nsIn K mainGlobals "bool" = some none) (z_all : PySem.W.nsIn K mainGlobals "all" = some none) :
    ∃ fd : FuncData, (∀ (s : Shared) (v : Value), BindsTo s fd ⟨[v], []⟩ [("_law_script", v)]) ∧ ∀ base : Heap, K.In base → base.Ns mainGlobals mg → FnG l.prog w K mg base CX0 12 fa fd ["_law_script"] (spLaw K) := by
  have e := hfa.symm.trans (PySem.W.mg_of X G a7)
  cases e
  have T : Txt mg := ⟨PySem.W.mg_none_of X G z_len, PySem.W.mg_none_of X G z_abs, PySem.W.mg_none_of X G z_list, PySem.W.mg_none_of X G z_tuple, PySem.W.mg_none_of X G z_dict, PySem.W.mg_none_of X G z_range, PySem.W.mg_none_of X G z_int, PySem.W.mg_none_of X G z_max, PySem.W.mg_none_of X G z_sorted, PySem.W.mg_none_of X G z_repr, PySem.W.mg_none_of X G z_isinstance⟩
  have TW : WTxt K mg C := ⟨⟨pg, hd, po, sa⟩, nR, nK, nT⟩
  have F1 := fun_mk (st := sPen) l1 c1 k1
  have b1 := F1.binds (ps := ["_law_script"]) fun _ _ _ _ _ _ us hl => match us, hl with | [_], _ => rfl
  have F2 := fun_mk (st := sDraw) l2 c2 k2
  have b2 := F2.binds (ps := ["_law_pen_here", "_law_many"]) fun _ _ _ _ _ _ us hl => match us, hl with | [_, _], _ => rfl
  have F3 := fun_mk (st := sPick) l3 c3 k3
  have b3 := F3.binds (ps := ["_law_pen_here", "_law_some"]) fun _ _ _ _ _ _ us hl => match us, hl with | [_, _], _ => rfl
  have F4 := fun_mk (st := sPlain) l4 c4 k4
  have b4 := F4.binds (ps := ["_law_pen_here"]) fun _ _ _ _ _ _ us hl => match us, hl with | [_], _ => rfl
  have F5 := fun_mk (st := sRow) l5 c5 k5
  have b5 := F5.binds (ps := ["_law_pen_here"]) fun _ _ _ _ _ _ us hl => match us, hl with | [_], _ => rfl
  have F6 := fun_mk (st := sOn) l6 c6 k6
  have b6 := F6.binds (ps := ["_law_pairs", "_law_came", "_law_k", "_law_side", "_law_letter"]) fun _ _ _ _ _ _ us hl => match us, hl with | [_, _, _, _, _], _ => rfl
  have F7 := fun_mk (st := sLaw) l7 c7 k7
  have F8 := fun_mk (st := sCopied) l8 c8 k8
  have b8 := F8.binds (ps := ["thing"]) fun _ _ _ _ _ _ us hl => match us, hl with | [_], _ => rfl
  have F9 := fun_mk (st := sNumber) l9 c9 k9
  have b9 := F9.binds (ps := ["thing"]) fun _ _ _ _ _ _ us hl => match us, hl with | [_], _ => rfl
  have F10 := fun_mk (st := sFixed) l10 c10 k10
  have b10 := F10.binds (ps := ["thing"]) fun _ _ _ _ _ _ us hl => match us, hl with | [_], _ => rfl
  have F11 := fun_mk (st := sWInit) l11 c11 k11
  have b11 := F11.binds (ps := ["self"]) fun _ _ _ _ _ _ us hl => match us, hl with | [_], _ => rfl
  have F12 := fun_mk (st := sWLen) l12 c12 k12
  have b12 := F12.binds (ps := ["self"]) fun _ _ _ _ _ _ us hl => match us, hl with | [_], _ => rfl
  have F13 := fun_mk (st := sWPut) l13 c13 k13
  have b13 := F13.binds (ps := ["self", "row"]) fun _ _ _ _ _ _ us hl => match us, hl with | [_, _], _ => rfl
  have F14 := fun_mk (st := sWLetter) l14 c14 k14
  have b14 := F14.binds (ps := ["self"]) fun _ _ _ _ _ _ us hl => match us, hl with | [_], _ => rfl
  have F15 := fun_mk (st := sWTake) l15 c15 k15
  have b15 := F15.binds (ps := ["self", "letter"]) fun _ _ _ _ _ _ us hl => match us, hl with | [_, _], _ => rfl
  have F16 := fun_mk (st := sWHeard) l16 c16 k16
  have b16 := F16.binds (ps := ["self"]) fun _ _ _ _ _ _ us hl => match us, hl with | [_], _ => rfl
  have F17 := fun_mk (st := sWUnheard) l17 c17 k17
  have b17 := F17.binds (ps := ["self"]) fun _ _ _ _ _ _ us hl => match us, hl with | [_], _ => rfl
  have F18 := fun_mk (st := sWCan) l18 c18 k18
  have b18 := F18.binds (ps := ["self", "letter"]) fun _ _ _ _ _ _ us hl => match us, hl with | [_, _], _ => rfl
  refine ⟨PySem.W.fnOf "law" "law" (defArgs sLaw) (defBody sLaw) (defScope sLaw) .none kV7 dc7 pm7 an7 cd7 ct7, fun s v => .of_eq rfl, fun base hb hn => ?_⟩
  have C1 : Cal l.prog w K mg base "_law_pen" 1 ["_law_script"] (spPen K) := ⟨_, _, PySem.W.mg_of X G a1, k1, b1, ok_pen F1 T⟩
  have C2 : Cal l.prog w K mg base "_law_draw" 1 ["_law_pen_here", "_law_many"] spDraw := ⟨_, _, PySem.W.mg_of X G a2, k2, b2, ok_draw F2 T⟩
  have C3 : Cal l.prog w K mg base "_law_pick" 2 ["_law_pen_here", "_law_some"] spPick := ⟨_, _, PySem.W.mg_of X G a3, k3, b3, ok_pick F3 T C2⟩
  have C4 : Cal l.prog w K mg base "_law_plain" 3 ["_law_pen_here"] spPlain := ⟨_, _, PySem.W.mg_of X G a4, k4, b4, ok_plain F4 T C2 C3⟩
  have C5 : Cal l.prog w K mg base "_law_row_of" 4 ["_law_pen_here"] spRow := ⟨_, _, PySem.W.mg_of X G a5, k5, b5, ok_row F5 T C2 C4⟩

  have mW : ∃ t, mg "WORD" = some (.str "rows" t) := ⟨_, PySem.W.mg_of X G aW⟩
  have za := PySem.W.mg_none_of X G z_all
  have mc := PySem.W.mg_of X G a8
  have Gc : FnOk l.prog w K mg base CX0 5 f8 _ ["thing"] (spCopied 4) := ok_copied F8 T mc b8 4
  have Gx : FnOk l.prog w K mg base CX0 5 f10 _ ["thing"] (spFixed 4) := ok_fixed F10 T za (PySem.W.mg_of X G a10) b10 4
  have Gn : FnOk l.prog w K mg base CX0 1 f9 _ ["thing"] spNumber := ok_number F9 T (PySem.W.mg_none_of X G z_bool)
  have Gi := ok_wcan (P := l.prog) (w := w) (base := base) (C := C) F18 TW T za mW (PySem.W.mg_of X G a9) k9 b9 Gn
  have Gu := ok_wunheard (P := l.prog) (w := w) (base := base) (C := C) F17 TW mc k8 b8 Gc
  have hW : Wires (wk C) l.prog w K mg base 9 :=
    { cls := TW.cl
      glob := PySem.W.mg_of X G aC
      new := ⟨_, _, _, ⟨mk, a11, i11, kc⟩, b11, (ok_winit F11 TW).mono (by decide)⟩
      put := ⟨_, _, _, ⟨a13, i13, k13⟩, b13, (ok_wput F13 TW mc k8 b8 Gc (PySem.W.mg_of X G a10) k10 b10 Gx).mono (by decide)⟩
      letter := ⟨_, _, _, ⟨a14, i14, k14⟩, b14, (ok_wletter F14 TW T mW ⟨a17, i17, k17⟩ b17 Gu).mono (by decide)⟩
      take := ⟨_, _, _, ⟨a15, i15, k15⟩, b15, (ok_wtake F15 TW T ⟨a18, i18, k18⟩ b18 Gi mc k8 b8 Gc).mono (by decide)⟩
      heard := ⟨_, _, _, ⟨a16, i16, k16⟩, b16, (ok_wheard F16 TW).mono (by decide)⟩
      unheard := ⟨_, _, _, ⟨a17, i17, k17⟩, b17, Gu.mono (by decide)⟩
      len := ⟨_, _, _, a12, i12, b12, (ok_wlen F12 TW T).mono (by decide)⟩ }
  exact ok_law F7 T hW C1 C2 C5 ⟨_, _, PySem.W.mg_of X G a6, k6, b6, ok_on F6 T hW⟩
theorem walk {l : PySem.W.OpenLaw} {q : Program} {loose : List Str} {XP : (Str → Option Value) → Heap → Prop} {YP : World → Heap → Prop} {d : DefRec} {K : Params → PySem.W.Frag} (hn : l.most = some 63) (hd : d.params.defaults = [])
    (hY : ∀ (w : World) (h : Heap), YP w h → (K w.params).In h)
    (F : ∀ (w : World) (mg : Str → Option Value) (fa : Addr) (h : Heap), (K w.params).In h → h.Ns mainGlobals mg → mg d.name = some (.ref fa) → ∃ fd : FuncData, (∀ (s : Shared) (u : Value), BindsTo s fd ⟨[u], []⟩ [("_law_script", u)]) ∧
      ∀ b : Heap, (K w.params).In b → b.Ns mainGlobals mg → FnG l.prog w (K w.params) mg b CX0 12 fa fd ["_law_script"] (spLaw (K w.params))) :
    PySem.W.WalkO q loose XP YP l.row.toRowW d [] (fun f vs => PySem.call f vs) :=
  walk_ofG (n := 63) (k := 12) (x := "_law_script") (sp := fun K => spLaw K) hn (by decide) hd ⟨rfl, by decide, by decide⟩ hY F (fun _ _ a ns hl _ hS => ⟨a, ns, rfl, hS, hl, fun _ => rfl⟩)
end K3
open PySem PySem.W PyProof.Rows in
set_option maxRecDepth 100000 in
set_option maxHeartbeats 0 in
theorem PySem.Challenge.cw_farcalls_k29_whole_rows_handed_on_holds : PySem.Challenge.rw_farcalls_k29_whole_rows_handed_on.Holds := by
  w_on; o_law; k_head; (case hw => w_witness2)
  k_fill
  refine K3.walk (l := PySem.Challenge.rw_farcalls_k29_whole_rows_handed_on) rfl rfl (fun w h Y => PySem.W.kIn_of Y) ?F
  case F =>
    intro w mg fa h KX G hmg
    refine' K3.all_mk KX G hmg ?a1 ?l1 ?c1 ?k1 ?a2 ?l2 ?c2 ?k2 ?a3 ?l3 ?c3 ?k3 ?a4 ?l4 ?c4 ?k4 ?a5 ?l5 ?c5 ?k5 ?a6 ?l6 ?c6 ?k6 ?a7 ?l7 ?c7 ?k7 ?a8 ?l8 ?c8 ?k8 ?a9 ?l9 ?c9 ?k9 ?a10 ?l10 ?c10 ?k10 ?aC ?a11 ?i11 ?l11 ?c11 ?k11 ?a12 ?i12 ?l12 ?c12 ?k12 ?a13 ?i13 ?l13 ?c13 ?k13 ?a14 ?i14 ?l14 ?c14 ?k14 ?a15 ?i15 ?l15 ?c15 ?k15 ?a16 ?i16 ?l16 ?c16 ?k16 ?a17 ?i17 ?l17 ?c17 ?k17 ?a18 ?i18 ?l18 ?c18 ?k18 ?pg ?hd ?po ?sa ?mk ?kc ?nR ?nK ?nT ?aW ?z_len ?z_abs ?z_list ?z_tuple ?z_dict ?z_range ?z_int ?z_max ?z_sorted ?z_repr ?z_isinstance ?z_bool ?z_all
    (case a1 => k_is)
    (case l1 => k_is)
    (case c1 => k_is)
    (case k1 => k_is)
    (case a2 => k_is)
    (case l2 => k_is)
    (case c2 => k_is)
    (case k2 => k_is)
    (case a3 => k_is)
    (case l3 => k_is)
    (case c3 => k_is)
    (case k3 => k_is)
    (case a4 => k_is)
    (case l4 => k_is)
    (case c4 => k_is)
    (case k4 => k_is)
    (case a5 => k_is)
    (case l5 => k_is)
    (case c5 => k_is)
    (case k5 => k_is)
    (case a6 => k_is)
    (case l6 => k_is)
    (case c6 => k_is)
    (case k6 => k_is)
    (case a7 => k_is)
    (case l7 => k_is)
    (case c7 => k_is)
    (case k7 => k_is)
    (case a8 => k_is)
    (case l8 => k_is)
    (case c8 => k_is)
    (case k8 => k_is)
    (case a9 => k_is)
    (case l9 => k_is)
    (case c9 => k_is)
    (case k9 => k_is)
    (case a10 => k_is)
    (case l10 => k_is)
    (case c10 => k_is)
    (case k10 => k_is)
    (case aC => k_is)
    (case a11 => k_is)
    (case i11 => k_is)
    (case l11 => k_is)
    (case c11 => k_is)
    (case k11 => k_is)
    (case a12 => k_is)
    (case i12 => k_is)
    (case l12 => k_is)
    (case c12 => k_is)
    (case k12 => k_is)
    (case a13 => k_is)
    (case i13 => k_is)
    (case l13 => k_is)
    (case c13 => k_is)
    (case k13 => k_is)
    (case a14 => k_is)
    (case i14 => k_is)
    (case l14 => k_is)
    (case c14 => k_is)
    (case k14 => k_is)
    (case a15 => k_is)
    (case i15 => k_is)
    (case l15 => k_is)
    (case c15 => k_is)
    (case k15 => k_is)
    (case a16 => k_is)
    (case i16 => k_is)
    (case l16 => k_is)
    (case c16 => k_is)
    (case k16 => k_is)
    (case a17 => k_is)
    (case i17 => k_is)
    (case l17 => k_is)
    (case c17 => k_is)
    (case k17 => k_is)
    (case a18 => k_is)
    (case i18 => k_is)
    (case l18 => k_is)
    (case c18 => k_is)
    (case k18 => k_is)
    (case pg => k_is)
    (case hd => k_is)
    (case po => k_is)
    (case sa => k_is)
    (case mk => k_is)
    (case kc => k_is)
    (case nR => k_is)
    (case nK => k_is)
    (case nT => k_is)
    (case aW => k_is)
    (case z_len => k_is)
    (case z_abs => k_is)
    (case z_list => k_is)
    (case z_tuple => k_is)
    (case z_dict => k_is)
    (case z_range => k_is)
    (case z_int => k_is)
    (case z_max => k_is)
    (case z_sorted => k_is)
    (case z_repr => k_is)
    (case z_isinstance => k_is)
    (case z_bool => k_is)
    (case z_all => k_is)
